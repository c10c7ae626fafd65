/- written, Tag, and the document's Tag: what each call does. No statement is proved here. -/
import Derived.Test.YtgcinbkecgfmbaaDoorSum
import Derived.Laws.BytesArg
namespace Go.Proofs.YtgcinbkecgfmbaaDoor
open Go.RowKit

theorem ret_str {a b : ByteArray} (h : a = b) : Ending.returned (.string a) = .returned (.string b) := by rw [h]
/-- The tag's array, when i of its signs are written. -/
def cellsA (n i : Nat) : Array Value := ((List.replicate (16 - i) 0 ++ hxL i n).map fun b : UInt8 => Value.int .u8 (b.toNat : Nat)).toArray

def u8V (b : UInt8) : Value := .int .u8 (b.toNat : Nat)
theorem cellsA_is (n i : Nat) : cellsA n i = ((List.replicate (16 - i) 0 ++ hxL i n).map u8V).toArray := rfl
theorem cellsA_step (n i : Nat) (h : i < 16) : (cellsA n i).setIfInBounds (15 - i) (u8V (hx (n / 16 ^ i % 16))) = cellsA n (i + 1) := by
  rw [cellsA_is, cellsA_is, List.setIfInBounds_toArray, ← List.map_set]
  congr 2
  obtain ⟨j, hj⟩ : ∃ j, j = 15 - i := ⟨_, rfl⟩
  rw [show 16 - i = j + 1 by omega, show 16 - (i + 1) = j by omega, ← hj, List.replicate_succ', List.append_assoc, List.set_append_right _ _ (by simp)]
  simp [hxL_succ]
theorem cellsA_cell (n i : Nat) (h : i < 16) (w : World) : (w.alloc (.cells (cellsA n i) 47)).cell? ⟨w.heap.size, 15 - i, none⟩ = some (.int .u8 0) := by
  rw [cell_of_row _ _ _ _ _ _ (heap_alloc_new w _), cellsA_is]
  obtain ⟨j, hj⟩ : ∃ j, j = 15 - i := ⟨_, rfl⟩
  rw [show 16 - i = j + 1 by omega, ← hj, List.replicate_succ']
  simp
  rfl
theorem nums_all (l : List UInt8) : strOfNums (l.map fun b => ((b.toNat : Nat) : Int)) = strB l := by
  unfold strOfNums strB
  rw [List.map_map]
  congr 2
  conv => rhs; rw [← List.map_id l]
  apply List.map_congr_left
  intro b _
  simp
theorem conv16 (n : Nat) (w1 : World) :
    Sem.run Tryd.prog (convert 30 9 (.slice (some ⟨w1.heap.size, 0, none⟩) 16 16)) (w1.alloc (.cells (cellsA n 16) 47)) =
      .ok (.string (strB (tagN n))) (w1.alloc (.cells (cellsA n 16) 47)) := by
  unfold tagN
  rw [← nums_all]
  refine run_convert_bytes_arg _ 30 5 Tryd.underlying30 Tryd.underlying5 w1.heap.size 0 16 16 _ (by rw [List.length_map, hxL_len]) ?_ 9 Tryd.underlying9
  intro k hk
  rw [cell_of_row _ _ _ _ _ _ (heap_alloc_new w1 _), cellsA_is]
  have hk' : k < (hxL 16 n).length := by rw [hxL_len]; exact hk
  simp [List.getElem?_eq_getElem hk', u8V]

def signs : ByteArray := ⟨#[48, 49, 50, 51, 52, 53, 54, 55, 56, 57, 97, 98, 99, 100, 101, 102]⟩
theorem signs_fin : ∀ d : Fin 16, signs.data[d.val]'(by exact d.isLt) = hx d.val := by decide
theorem signs_at (d : Nat) (h : d < 16) : ∀ h', (⟨#[48, 49, 50, 51, 52, 53, 54, 55, 56, 57, 97, 98, 99, 100, 101, 102]⟩ : ByteArray)[d]'h' = hx d := fun _ => signs_fin ⟨d, h⟩

set_option maxHeartbeats 1000000 in
theorem written_calls (n : Nat) (w : World) (hn : n < 18446744073709551616) :
    Calls Tryd.prog 14 #[.int .u64 (n : Nat)] w fun e w' => e = .returned (.string (strB (tagN n))) ∧ Below w.heap.size w w' := by
  go_enter Tryd.func14, Tryd.ntmps14
  go_wp2_with fail
  go_loopw [0, 5] (fun vn vi wx => ∃ (i m : Nat), i ≤ 16 ∧ vi = .int .i64 (i : Nat) ∧ vn = .int .u64 (m : Nat) ∧ m < 18446744073709551616 ∧ Hid (m = n / 16 ^ i) ∧ wx = w.alloc (.cells (cellsA n i) 47)) (fun _ vi _ => 16 - (intOf vi).toNat)
  case atStart => exact ⟨0, n, Nat.zero_le _, rfl, rfl, hn, Lib.hid (by simp), rfl⟩
  case round =>
    obtain ⟨i, m, hi, rfl, rfl, hm, HM, rfl⟩ := hrel
    by_cases h : i < 16
    · have hc := cellsA_cell n i h w
      have HS := Lib.hid (cellsA_step n i h)
      have HD : Hid (m / 16 = n / 16 ^ (i + 1)) := Lib.hid (by rw [HM.out, Nat.div_div_eq_div_mul, Nat.pow_succ])
      rw [← HM.out] at HS
      obtain ⟨d, hd⟩ : ∃ d, d = m % 16 := ⟨_, rfl⟩
      have hd16 : d < 16 := by omega
      rw [← hd] at HS
      have hsg := signs_at d hd16
      have hmd : (m : Int) % 16 = (d : Nat) := by omega
      obtain ⟨q, hq⟩ : ∃ q, q = m / 16 := ⟨_, rfl⟩
      have hmq : (m : Int) / 16 = (q : Nat) := by omega
      have hq64 : q < 18446744073709551616 := by omega
      rw [← hq] at HD
      clear hd hq
      go_wp2_with fail
      exact ⟨⟨i + 1, q, by omega, by go_num, rfl, hq64, HD, by rw [← HS.out]; rfl⟩, by simp [intOf]; omega⟩
    · obtain rfl : i = 16 := by omega
      have hcv := conv16 n w
      go_wp2_with fail
      go_ret
      exact ⟨rfl, (Below.refl _ _).alloc (Nat.le_refl _) _⟩

set_option maxHeartbeats 1000000 in
theorem tag_calls (l : List UInt8) (w : World) (hL : l.length ≤ 100000) :
    Calls Tryd.prog 9 #[.string (strB l)] w fun e w' => e = .returned (.string (strB (tagL l))) ∧ Below w.heap.size w w' := by
  go_enter Tryd.func9, Tryd.ntmps9
  go_wp2_with fail
  (with_reducible refine (sum_calls l _ hL).mono ?_)
  rintro e w1 ⟨rfl, hB1⟩
  go_wp2_with fail
  (with_reducible refine (written_calls (sumL l) _ (sumL_lt l)).mono ?_)
  rintro e w2 ⟨rfl, hB2⟩
  go_wp2_with fail
  go_ret
  exact ⟨rfl, two_below hB1 hB2⟩

theorem nib (n i : Nat) (hn : n < 18446744073709551616) : bits .and .u64 ((n : Int) / 2 ^ (4 * i)) 15 = ((n / 16 ^ i % 16 : Nat) : Int) := by
  have h2 : (2 : Int) ^ (4 * i) = ((16 ^ i : Nat) : Int) := by rw [Int.pow_mul, Int.natCast_pow]; rfl
  rw [h2, ← Int.natCast_ediv]
  have h3 := u64_and_nat (n / 16 ^ i) 15 (Nat.lt_of_le_of_lt (Nat.div_le_self _ _) hn) (by decide)
  rw [show (15 : Int) = ((15 : Nat) : Int) from rfl, h3]
  congr 1
  exact Nat.and_two_pow_sub_one_eq_mod _ 4
theorem signs_cut_fin : ∀ d : Fin 16, (signs.extract d.val (d.val + 1)).data.toList = [hx d.val] := by decide
theorem signs_cut (d : Nat) (h : d < 16) : (⟨#[48, 49, 50, 51, 52, 53, 54, 55, 56, 57, 97, 98, 99, 100, 101, 102]⟩ : ByteArray).extract d (d + 1) = strB [hx d] := by
  have h1 := signs_cut_fin ⟨d, h⟩
  show signs.extract d (d + 1) = strB [hx d]
  rw [← strB_of (signs.extract d (d + 1)), h1]

theorem cut_run (d : Nat) (h : d < 16) (w : World) :
    Sem.run Tryd.prog (Instr.slice 9 (.string ⟨#[48, 49, 50, 51, 52, 53, 54, 55, 56, 57, 97, 98, 99, 100, 101, 102]⟩) (some (.int .u64 (d : Int))) (some (.int .u64 ((d : Int) + 1))) none) w = .ok (.string (strB [hx d])) w := by
  have h2 : ((d : Int) + 1) ≤ ((⟨#[48, 49, 50, 51, 52, 53, 54, 55, 56, 57, 97, 98, 99, 100, 101, 102]⟩ : ByteArray).size : Int) := by
    show (d : Int) + 1 ≤ 16
    omega
  have := run_slice_string (P := Tryd.prog) w 9 ⟨#[48, 49, 50, 51, 52, 53, 54, 55, 56, 57, 97, 98, 99, 100, 101, 102]⟩ .u64 .u64 (d : Int) ((d : Int) + 1) Tryd.underlying9 (by omega) (by omega) h2
  rw [this, ← signs_cut d h]
  congr 2

set_option maxHeartbeats 1000000 in
theorem rtag_calls (l : List UInt8) (w : World) (hL : l.length ≤ 100000) :
    Calls Tryd.prog 10 #[.string (strB l)] w fun e w' => e = .returned (.string (strB (tagL l))) ∧ w' = w := by
  have hsg : IntKind.u64.signed = false := rfl
  have HT : Hid (tagL l = hxL 16 (sumL l)) := rfl
  have hn := sumL_lt l
  go_enter Tryd.func10, Tryd.ntmps10
  go_wp2_with fail
  (with_reducible refine (rsum_calls l _ hL).mono ?_)
  rintro e w1 ⟨rfl, rfl⟩
  obtain ⟨n, hnn⟩ : ∃ n, n = sumL l := ⟨_, rfl⟩
  rw [← hnn] at HT hn ⊢
  clear hnn
  go_wp2_with fail
  go_loop [4, 5] (fun vs vi => ∃ (i : Nat) (s : List UInt8), i ≤ 16 ∧ vi = .int .i64 ((i : Int) - 1) ∧ vs = .string (strB s) ∧ Hid (s ++ hxL i n = hxL 16 n)) (fun _ vi => (intOf vi + 1).toNat)
  case atStart => exact ⟨16, [], Nat.le_refl _, rfl, rfl, Lib.hid rfl⟩
  case round =>
    obtain ⟨i, s, hi, rfl, rfl, H⟩ := hrel
    cases i with
    | zero =>
      go_wp2_with fail
      go_ret
      exact ⟨ret_str (by rw [HT.out, ← H.out]; simp [hxL]), rfl⟩
    | succ i =>
      have hnb := nib n i hn
      have HX := Lib.hid (hxL_succ i n)
      obtain ⟨d, hd⟩ : ∃ d, d = n / 16 ^ i % 16 := ⟨_, rfl⟩
      have hd16 : d < 16 := by omega
      rw [← hd] at hnb HX
      have hcut := cut_run d hd16
      have hlen : s.length + (i + 1) = 16 := by
        have := congrArg List.length H.out
        simp only [List.length_append, hxL_len] at this
        exact this
      have hz2 : ¬ 9223372036854775807 < (strB s).size + (strB [hx d]).size := by rw [strB_size, strB_size]; simp only [List.length_cons, List.length_nil]; omega
      have HS := Lib.hid (strB_append s [hx d])
      clear hd
      go_wp2_with fail
      go_round
      case rel => exact ⟨i, s ++ [hx d], by omega, by go_num, congrArg Value.string HS.out, Lib.hid (by rw [← H.out, HX.out]; simp)⟩
      case measure => simp [intOf]

theorem digit_fin (w : World) : ∀ d : Fin 10, Sem.run Tryd.prog (convert 21 9 (.int .i32 (48 + (d.val : Int)))) w = .ok (.string ⟨#[UInt8.ofNat (48 + d.val)]⟩) w
  | ⟨0, _⟩ => by kernel_rfl
  | ⟨1, _⟩ => by kernel_rfl
  | ⟨2, _⟩ => by kernel_rfl
  | ⟨3, _⟩ => by kernel_rfl
  | ⟨4, _⟩ => by kernel_rfl
  | ⟨5, _⟩ => by kernel_rfl
  | ⟨6, _⟩ => by kernel_rfl
  | ⟨7, _⟩ => by kernel_rfl
  | ⟨8, _⟩ => by kernel_rfl
  | ⟨9, _⟩ => by kernel_rfl
/-- A digit's sign. -/
def dgt (d : Nat) : UInt8 := UInt8.ofNat (48 + d)
theorem digit_run (d : Nat) (h : d < 10) (w : World) : Sem.run Tryd.prog (convert 21 9 (.int .i32 (48 + (d : Int)))) w = .ok (.string (strB [dgt d])) w := digit_fin w ⟨d, h⟩
theorem dec_one {n : Nat} (h : n < 10) : Lib.decDigits n = [dgt n] := Lib.decDigits_one h
theorem dec_snoc {n : Nat} (h : ¬ n < 10) : Lib.decDigits n = Lib.decDigits (n / 10) ++ [dgt (n % 10)] := dec_more h
end Go.Proofs.YtgcinbkecgfmbaaDoor
