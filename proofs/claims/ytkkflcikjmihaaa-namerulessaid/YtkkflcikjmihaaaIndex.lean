/- name.Index and the document's: what each call does. No statement is proved here. -/
import Derived.Test.YtkkflcikjmihaaaKey
import Derived.Laws.BytesArg
import Derived.Laws.NewBlocks
namespace Go.Proofs.Ytkkflcikjmihaaa
open Go.RowKit

theorem turned (a : Nat) (h : a < 18446744073709551616) : bits .xor .u64 IntKind.u64.max (a : Int) = ((18446744073709551615 - a : Nat) : Int) := by
  have e : IntKind.u64.max = ((18446744073709551615 : Nat) : Int) := rfl
  rw [e, u64_xor_nat _ _ (by omega) h]
  congr 1
  have h1 : (BitVec.allOnes 64 ^^^ BitVec.ofNat 64 a).toNat = (~~~ BitVec.ofNat 64 a).toNat := by rw [BitVec.allOnes_xor]
  rw [BitVec.toNat_xor, BitVec.toNat_not, BitVec.toNat_allOnes, BitVec.toNat_ofNat, Nat.mod_eq_of_lt (by omega)] at h1
  simpa using h1
theorem wrap_u64' (n : Int) : IntKind.u64.wrap n = n % 18446744073709551616 := by simp [IntKind.wrap, IntKind.bits, IntKind.signed]
theorem turn_seq (seq : Int) : bits .xor .u64 IntKind.u64.max (IntKind.u64.wrap seq) = ((tn seq : Nat) : Int) := by
  rw [wrap_u64']
  obtain ⟨a, ha⟩ : ∃ a : Nat, seq % 18446744073709551616 = a := ⟨(seq % 18446744073709551616).toNat, by omega⟩
  have := turned a (by omega)
  unfold tn
  rw [ha, this]
  congr 1
  omega

theorem byte_at (n i : Nat) : ((n : Int) / 2 ^ (8 * i) % 256).toNat = n / 256 ^ i % 256 := by
  have h2 : (2 : Int) ^ (8 * i) = ((256 ^ i : Nat) : Int) := by rw [Int.pow_mul, Int.natCast_pow]; rfl
  have h3 : (256 : Int) = ((256 : Nat) : Int) := rfl
  rw [h2, h3, ← Int.natCast_ediv, ← Int.natCast_emod]
  exact Int.toNat_natCast _
def nbAt (n i : Nat) : UInt8 := UInt8.ofNat (n / 256 ^ i % 256)
theorem nb_succ (n i : Nat) : nb (i + 1) n = nbAt n i :: nb i n := rfl
theorem nums_one (n i : Nat) : strOfNums [(n : Int) / 2 ^ (8 * i) % 256] = strB [nbAt n i] := by
  unfold strOfNums strB nbAt
  rw [← byte_at]
  simp only [List.map_cons, List.map_nil]

theorem conv1 (n i : Nat) (w1 : World) :
    Sem.run Try.prog (convert 35 9 (.slice (some ⟨w1.heap.size, 0, none⟩) 1 1)) (w1.alloc (.cells #[.int .u8 ((n : Int) / 2 ^ (8 * i) % 256)] 5)) =
      .ok (.string (strB [nbAt n i])) (w1.alloc (.cells #[.int .u8 ((n : Int) / 2 ^ (8 * i) % 256)] 5)) := by
  rw [← nums_one]
  refine run_convert_bytes_arg _ 35 5 Try.underlying35 Try.underlying5 w1.heap.size 0 1 1 _ rfl ?_ 9 Try.underlying9
  intro k hk
  rw [cell_of_row _ _ _ _ _ _ (heap_alloc_new w1 _)]
  obtain rfl : k = 0 := by omega
  rfl

theorem below_two {a b c : World} (h : Below a.heap.size a b) (k : Below b.heap.size b c) : Below a.heap.size a c := h.trans (k.mono h.size)
theorem ret_str {a b : ByteArray} (h : a = b) : Ending.returned (.string a) = .returned (.string b) := by rw [h]

set_option maxHeartbeats 1000000 in
theorem rindex_calls (l : List UInt8) (seq : Int) (w : World) (hL : l.length ≤ 1000) (h0 : -9223372036854775808 ≤ seq) (h1 : seq < 9223372036854775808) :
    Calls Try.prog 19 #[.string (strB l), .int .i64 seq] w fun e w' => e = .returned (.string (strB (indexL l seq))) ∧ Below w.heap.size w w' := by
  have hs := strB_size l
  have hsg : IntKind.u64.signed = false := rfl
  have ht := turn_seq seq
  have hn : tn seq < 18446744073709551616 := tn_lt seq
  have HF : Hid (indexL l seq = l ++ 0 :: nb 8 (tn seq)) := rfl
  generalize tn seq = n at *
  have hz : ¬ 9223372036854775807 < (strB l).size + (⟨#[0]⟩ : ByteArray).size := by rw [strB_size]; show ¬ 9223372036854775807 < l.length + 1; omega
  go_enter Try.func19, Try.ntmps19
  go_wp2_with fail
  go_loopw [6, 7] (fun vs vi wx => ∃ (i : Nat) (s : List UInt8), i ≤ 8 ∧ vi = .int .i64 ((i : Int) - 1) ∧ vs = .string (strB s) ∧ Hid (s ++ nb i n = l ++ 0 :: nb 8 n) ∧ Below w.heap.size w wx) (fun _ vi _ => (intOf vi + 1).toNat)
  case atStart => exact ⟨8, l ++ [0], Nat.le_refl _, rfl, congrArg Value.string (strB_append l [0]), Lib.hid (by simp), Below.refl _ _⟩
  case round =>
    obtain ⟨i, s, hi, rfl, rfl, H, hB⟩ := hrel
    have HB := Lib.hid hB
    clear hB
    cases i with
    | zero =>
      go_wp2_with fail
      go_ret
      exact ⟨ret_str (by rw [HF.out, ← H.out]; simp [nb]), HB.out⟩
    | succ i =>
      have hcv := conv1 n i
      have hlen : s.length + (i + 1) = l.length + 9 := by
        have := congrArg List.length H.out
        simp only [List.length_append, List.length_cons, nb_len] at this
        omega
      have hz2 : ¬ 9223372036854775807 < (strB s).size + (strB [nbAt n i]).size := by rw [strB_size, strB_size]; simp only [List.length_cons, List.length_nil]; omega
      have HS := Lib.hid (strB_append s [nbAt n i])
      go_wp2_with fail
      go_roundw
      case rel => exact ⟨i, s ++ [nbAt n i], by omega, by go_num, congrArg Value.string HS.out, Lib.hid (by rw [← H.out, nb_succ]; simp), HB.out.alloc (HB.out.size) _⟩
      case measure => simp [intOf]

/-- The place's array, when i of its bytes are written. -/
def cellsA (n i : Nat) : Array Value := ((List.replicate (8 - i) 0 ++ nb i n).map fun b : UInt8 => Value.int .u8 (b.toNat : Nat)).toArray

def u8V (b : UInt8) : Value := .int .u8 (b.toNat : Nat)
theorem cellsA_is (n i : Nat) : cellsA n i = ((List.replicate (8 - i) 0 ++ nb i n).map u8V).toArray := rfl
theorem nbAt_val (n i : Nat) : Value.int .u8 ((n : Int) / 2 ^ (8 * i) % 256) = u8V (nbAt n i) := by
  unfold u8V nbAt
  rw [UInt8.toNat_ofNat', ← byte_at]
  congr 1
  omega
theorem cellsA_step (n i : Nat) (h : i < 8) : (cellsA n i).setIfInBounds (7 - i) (Value.int .u8 ((n : Int) / 2 ^ (8 * i) % 256)) = cellsA n (i + 1) := by
  rw [nbAt_val, cellsA_is, cellsA_is, List.setIfInBounds_toArray, ← List.map_set]
  congr 2
  obtain ⟨j, hj⟩ : ∃ j, j = 7 - i := ⟨_, rfl⟩
  rw [show 8 - i = j + 1 by omega, show 8 - (i + 1) = j by omega, ← hj, List.replicate_succ', List.append_assoc, List.set_append_right _ _ (by simp)]
  simp [nb_succ]
theorem cellsA_cell (n i : Nat) (h : i < 8) (w : World) : (w.alloc (.cells (cellsA n i) 39)).cell? ⟨w.heap.size, 7 - i, none⟩ = some (.int .u8 0) := by
  rw [cell_of_row _ _ _ _ _ _ (heap_alloc_new w _), cellsA_is]
  obtain ⟨j, hj⟩ : ∃ j, j = 7 - i := ⟨_, rfl⟩
  rw [show 8 - i = j + 1 by omega, ← hj, List.replicate_succ']
  simp
  rfl
theorem nums_all (l : List UInt8) : strOfNums (l.map fun b => ((b.toNat : Nat) : Int)) = strB l := by
  unfold strOfNums strB
  rw [List.map_map]
  congr 2
  conv => rhs; rw [← List.map_id l]
  apply List.map_congr_left
  intro b _
  simp
theorem conv8 (n : Nat) (w1 : World) :
    Sem.run Try.prog (convert 35 9 (.slice (some ⟨w1.heap.size, 0, none⟩) 8 8)) (w1.alloc (.cells (cellsA n 8) 39)) =
      .ok (.string (strB (nb 8 n))) (w1.alloc (.cells (cellsA n 8) 39)) := by
  rw [← nums_all]
  refine run_convert_bytes_arg _ 35 5 Try.underlying35 Try.underlying5 w1.heap.size 0 8 8 _ (by rw [List.length_map, nb_len]) ?_ 9 Try.underlying9
  intro k hk
  rw [cell_of_row _ _ _ _ _ _ (heap_alloc_new w1 _), cellsA_is]
  have hk' : k < (nb 8 n).length := by rw [nb_len]; exact hk
  simp [List.getElem?_eq_getElem hk', u8V]

set_option maxHeartbeats 1000000 in
theorem index_calls (l : List UInt8) (seq : Int) (w : World) (hL : l.length ≤ 1000) (h0 : -9223372036854775808 ≤ seq) (h1 : seq < 9223372036854775808) :
    Calls Try.prog 18 #[.string (strB l), .int .i64 seq] w fun e w' => e = .returned (.string (strB (indexL l seq))) ∧ Below w.heap.size w w' := by
  have hs := strB_size l
  have hsg : IntKind.u64.signed = false := rfl
  have ht := turn_seq seq
  have hn : tn seq < 18446744073709551616 := tn_lt seq
  have HF : Hid (indexL l seq = l ++ 0 :: nb 8 (tn seq)) := rfl
  generalize tn seq = n at *
  have hz : ¬ 9223372036854775807 < (strB l).size + (⟨#[0]⟩ : ByteArray).size := by rw [strB_size]; show ¬ 9223372036854775807 < l.length + 1; omega
  have ha : strB l ++ (⟨#[0]⟩ : ByteArray) = strB (l ++ [0]) := strB_append l [0]
  have hz2 : ¬ 9223372036854775807 < (strB (l ++ [0])).size + (strB (nb 8 n)).size := by rw [strB_size, strB_size, nb_len]; simp only [List.length_append, List.length_cons, List.length_nil]; omega
  have HA : Hid (strB (l ++ [0]) ++ strB (nb 8 n) = strB (l ++ 0 :: nb 8 n)) := Lib.hid (by rw [strB_append]; simp)
  go_enter Try.func18, Try.ntmps18
  go_wp2_with fail
  go_loopw [11] (fun vi wx => ∃ (i : Nat), i ≤ 8 ∧ vi = .int .i64 (i : Nat) ∧ wx = w.alloc (.cells (cellsA n i) 39)) (fun vi _ => 8 - (intOf vi).toNat)
  case atStart => exact ⟨0, Nat.zero_le _, rfl, rfl⟩
  case round =>
    obtain ⟨i, hi, rfl, rfl⟩ := hrel
    by_cases h : i < 8
    · have hc := cellsA_cell n i h w
      have HS := Lib.hid (cellsA_step n i h)
      go_wp2_with fail
      exact ⟨⟨i + 1, by omega, by go_num, by rw [HS.out]⟩, by simp [intOf]; omega⟩
    · obtain rfl : i = 8 := by omega
      have hcv := conv8 n w
      go_wp2_with fail
      go_ret
      exact ⟨ret_str (by rw [HF.out]; exact HA.out), (Below.refl _ _).alloc (Nat.le_refl _) _⟩
end Go.Proofs.Ytkkflcikjmihaaa
