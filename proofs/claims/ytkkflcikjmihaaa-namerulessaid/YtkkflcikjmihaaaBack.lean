/- name.Back and the document's: what each call does. No statement is proved here. -/
import Derived.Test.YtkkflcikjmihaaaIndex
namespace Go.Proofs.Ytkkflcikjmihaaa
open Go.RowKit

theorem back_no (l : List UInt8) (h : backOK l = false) : backK l = [] ∧ backN l = 0 := by
  unfold backK backN
  rw [h]
  exact ⟨rfl, rfl⟩
theorem back_yes (l : List UInt8) (m : Nat) (hm : l.length = m + 9) (h : backOK l = true) : backK l = l.take m ∧ backN l = bk (numL (l.drop (m + 1))) := by
  unfold backK backN
  rw [h, hm]
  exact ⟨rfl, rfl⟩
theorem backOK_short (l : List UInt8) (h : ¬ 9 ≤ l.length) : backOK l = false := by
  unfold backOK
  rw [decide_eq_false h, Bool.false_and]
theorem backOK_is (l : List UInt8) (m : Nat) (hm : l.length = m + 9) : backOK l = ((l.getD m 1 == 0) && keyOK (l.take m)) := by
  unfold backOK
  rw [hm, decide_eq_true (by omega)]
  rfl
theorem ret_back {l : List UInt8} {k : List UInt8} {n : Int} {b : Bool} (h1 : backK l = k) (h2 : backN l = n) (h3 : backOK l = b) :
    Ending.returned (.tuple #[.string (strB k), .int .i64 n, .bool b]) = .returned (.tuple #[.string (strB (backK l)), .int .i64 (backN l), .bool (backOK l)]) := by rw [h1, h2, h3]
theorem ret_noback {l : List UInt8} (h3 : backOK l = false) :
    Ending.returned (.tuple #[.string ⟨#[]⟩, .int .i64 0, .bool false]) = .returned (.tuple #[.string (strB (backK l)), .int .i64 (backN l), .bool (backOK l)]) := by rw [(back_no l h3).1, (back_no l h3).2, h3]; rfl

theorem ext_one (l : List UInt8) (m : Nat) (h : m < l.length) : (strB l).extract m (m + 1) = strB [l.getD m 1] := by
  rw [strB_extract, List.drop_take]
  congr 1
  rw [show m + 1 - m = 1 by omega, List.drop_eq_getElem_cons h, List.getD_eq_getElem?_getD, List.getElem?_eq_getElem h]
  rfl
theorem ext_take (l : List UInt8) (m : Nat) : (strB l).extract 0 m = strB (l.take m) := by
  rw [strB_extract]
  rfl

theorem cut_run (l : List UInt8) (m : Nat) (h : m + 1 ≤ l.length) (w : World) :
    Sem.run Try.prog (Instr.slice 9 (.string (strB l)) (some (.int .i64 (m : Int))) (some (.int .i64 ((m : Int) + 1))) none) w = .ok (.string ((strB l).extract m (m + 1))) w := by
  have h2 : ((m : Int) + 1) ≤ ((strB l).size : Int) := by rw [strB_size]; omega
  have := run_slice_string (P := Try.prog) w 9 (strB l) .i64 .i64 (m : Int) ((m : Int) + 1) Try.underlying9 (by omega) (by omega) h2
  rw [this]
  congr 2

theorem or_step (l : List UInt8) (m j : Nat) (hm : l.length = m + 9) (hj : j < 8) (h' : m + 1 + j < (strB l).size) :
    bits .or .u64 (IntKind.u64.wrap ((numL ((l.drop (m + 1)).take j) : Nat) * 256)) (IntKind.u64.wrap (((strB l)[m + 1 + j]'h').toNat : Nat)) = ((numL ((l.drop (m + 1)).take (j + 1)) : Nat) : Int) := by
  have hd : j < (l.drop (m + 1)).length := by rw [List.length_drop]; omega
  have hb : (strB l)[m + 1 + j]'h' = (l.drop (m + 1))[j] := by rw [List.getElem_drop]; rfl
  rw [hb, List.take_succ_eq_append_getElem hd, numL_snoc]
  have h1 := numL_lt ((l.drop (m + 1)).take j)
  have h2 : 256 ^ ((l.drop (m + 1)).take j).length ≤ 256 ^ 7 := Nat.pow_le_pow_right (by omega) (by rw [List.length_take]; omega)
  have h3 : numL ((l.drop (m + 1)).take j) < 72057594037927936 := Nat.lt_of_lt_of_le h1 h2
  generalize numL ((l.drop (m + 1)).take j) = x at *
  have hc := (l.drop (m + 1))[j].toNat_lt
  generalize (l.drop (m + 1))[j].toNat = c at *
  have e1 : IntKind.u64.wrap ((x : Int) * 256) = ((x * 256 : Nat) : Int) := by rw [wrap_u64']; omega
  have e2 : IntKind.u64.wrap (c : Int) = (c : Int) := by rw [wrap_u64']; omega
  rw [e1, e2, u64_or_nat _ _ (by omega) (by omega)]
  congr 1
  have := Nat.two_pow_add_eq_or_of_lt (i := 8) (b := c) (by omega) x
  simp only [Nat.reducePow] at this
  rw [Nat.mul_comm, this]

theorem num_end (l : List UInt8) (m : Nat) (hm : l.length = m + 9) :
    wrap64 (bits .xor .u64 IntKind.u64.max ((numL ((l.drop (m + 1)).take 8) : Nat) : Int)) = bk (numL (l.drop (m + 1))) := by
  have hd : (l.drop (m + 1)).length = 8 := by rw [List.length_drop]; omega
  rw [List.take_of_length_le (by omega)]
  have h1 := numL_lt (l.drop (m + 1))
  rw [hd] at h1
  have h2 : numL (l.drop (m + 1)) < 18446744073709551616 := h1
  clear h1
  generalize numL (l.drop (m + 1)) = x at *
  rw [turned x h2]
  unfold bk wrap64
  split <;> omega

set_option maxHeartbeats 1000000 in
theorem back_calls (l : List UInt8) (w : World) (hL : l.length ≤ 1000) :
    Calls Try.prog 8 #[.string (strB l)] w fun e w' => e = .returned (.tuple #[.string (strB (backK l)), .int .i64 (backN l), .bool (backOK l)]) ∧ w' = w := by
  have hnot : ∀ (x : Bool) (w : World), (Op.unary .not (.bool x)).run Try.prog w = .ok (.bool (!x)) w := fun _ _ => rfl
  have hsg : IntKind.u64.signed = false := rfl
  by_cases h9 : 9 ≤ l.length
  · obtain ⟨m, hm⟩ : ∃ m, l.length = m + 9 := ⟨l.length - 9, by omega⟩
    have hs : (strB l).size = m + 9 := by rw [strB_size, hm]
    have e8 : (m : Int) + 9 - 8 = ((m + 1 : Nat) : Int) := by omega
    have e9 : ((m + 1 : Nat) : Int) - 1 = (m : Int) := by omega
    have x1 := ext_one l m (by omega)
    have x2 := ext_take l m
    have HO := Lib.hid (backOK_is l m hm)
    obtain ⟨x, hx⟩ : ∃ x, x = l.getD m 1 := ⟨_, rfl⟩
    rw [← hx] at x1 HO
    clear hx
    have x3 := strB_toList [x]
    have hsl := cut_run l m (by omega)
    rw [x1] at hsl
    by_cases hx0 : x = 0
    · subst hx0
      cases hk : keyOK (l.take m) with
      | false =>
        have HF : Hid (backOK l = false) := Lib.hid (by rw [HO.out, hk]; rfl)
        go_enter Try.func8, Try.ntmps8
        go_wp2_with fail
        (with_reducible refine (key_calls (l.take m) _).mono ?_)
        rintro e w1 ⟨rfl, rfl⟩
        rw [hk]
        go_wp2_with fail
        go_ret3
        exact ⟨ret_noback HF.out, rfl⟩
      | true =>
        have HF : Hid (backOK l = true) := Lib.hid (by rw [HO.out, hk]; rfl)
        have HY := Lib.hid (back_yes l m hm HF.out)
        have HE := Lib.hid (num_end l m hm)
        have HR := Lib.hid (or_step l m)
        go_enter Try.func8, Try.ntmps8
        go_wp2_with fail
        (with_reducible refine (key_calls (l.take m) _).mono ?_)
        rintro e w1 ⟨rfl, rfl⟩
        rw [hk]
        go_wp2_with fail
        go_loop [7, 8] (fun vn vi => ∃ j : Nat, j ≤ 8 ∧ vi = .int .i64 ((m + 1 + j : Nat) : Int) ∧ vn = .int .u64 (numL ((l.drop (m + 1)).take j) : Nat)) (fun _ vi => m + 9 - (intOf vi).toNat)
        case atStart => exact ⟨0, Nat.zero_le _, rfl, rfl⟩
        case round =>
          obtain ⟨j, hj, rfl, rfl⟩ := hrel
          by_cases h : j < 8
          · go_wp2_with fail
            exact ⟨⟨j + 1, by omega, by go_num, congrArg (Value.int .u64) (HR.out j hm h _)⟩, by simp [intOf]; omega⟩
          · obtain rfl : j = 8 := by omega
            go_wp2_with fail
            go_ret3
            exact ⟨ret_back HY.out.1 (HY.out.2.trans HE.out.symm) HF.out, rfl⟩
    · have HF : Hid (backOK l = false) := Lib.hid (by rw [HO.out, beq_eq_false_iff_ne.2 hx0]; rfl)
      have hne : ([x] == [0]) = false := by rw [beq_eq_false_iff_ne]; intro h; exact hx0 (List.head_eq_of_cons_eq h)
      go_enter Try.func8, Try.ntmps8
      go_wp2_with fail
      go_ret3
      exact ⟨ret_noback HF.out, rfl⟩
  · have hs : (strB l).size = l.length := strB_size l
    have HN := Lib.hid (backOK_short l h9)
    have g : (l.length : Int) - 9 < 0 := by omega
    go_enter Try.func8, Try.ntmps8
    go_wp2_with fail
    go_ret3
    exact ⟨ret_noback HN.out, rfl⟩

theorem at_strB1 (l : List UInt8) (k : Nat) (h : k < (strB l).size) : (strB l)[k] = l.getD k 1 := by
  rw [strB_size] at h
  rw [List.getD_eq_getElem?_getD, List.getElem?_eq_getElem h]
  rfl
theorem backOK_nine (l : List UInt8) (h : l.length < 10) : backOK l = false := by
  by_cases h9 : 9 ≤ l.length
  · rw [backOK_is l 0 (by omega), List.take_zero, keyOK_nil, Bool.and_false]
  · exact backOK_short l h9

set_option maxHeartbeats 1000000 in
theorem rback_calls (l : List UInt8) (w : World) (hL : l.length ≤ 1000) :
    Calls Try.prog 9 #[.string (strB l)] w fun e w' => e = .returned (.tuple #[.string (strB (backK l)), .int .i64 (backN l), .bool (backOK l)]) ∧ w' = w := by
  have hnot : ∀ (x : Bool) (w : World), (Op.unary .not (.bool x)).run Try.prog w = .ok (.bool (!x)) w := fun _ _ => rfl
  have hsg : IntKind.u64.signed = false := rfl
  by_cases h10 : 10 ≤ l.length
  · obtain ⟨m, hm⟩ : ∃ m, l.length = m + 9 := ⟨l.length - 9, by omega⟩
    have hs : (strB l).size = m + 9 := by rw [strB_size, hm]
    have g10 : ¬ (m : Int) + 9 < 10 := by omega
    have e8 : (m : Int) + 9 - 8 = ((m + 1 : Nat) : Int) := by omega
    have e9 : (m : Int) + 9 - 9 = (m : Int) := by omega
    have x1 := at_strB1 l m (by omega)
    have x2 := ext_take l m
    have HO := Lib.hid (backOK_is l m hm)
    obtain ⟨x, hx⟩ : ∃ x, x = l.getD m 1 := ⟨_, rfl⟩
    rw [← hx] at x1 HO
    have x1' : ∀ h', (strB l)[m]'h' = x := fun _ => x1
    clear hx x1
    have hb := x.toNat_lt
    by_cases hx0 : x = 0
    · subst hx0
      cases hk : keyOK (l.take m) with
      | false =>
        have HF : Hid (backOK l = false) := Lib.hid (by rw [HO.out, hk]; rfl)
        go_enter Try.func9, Try.ntmps9
        go_wp2_with fail
        (with_reducible refine (rkey_calls (l.take m) _ (by rw [List.length_take]; omega)).mono ?_)
        rintro e w1 ⟨rfl, rfl⟩
        rw [hk]
        go_wp2_with fail
        go_ret3
        exact ⟨ret_noback HF.out, rfl⟩
      | true =>
        have HF : Hid (backOK l = true) := Lib.hid (by rw [HO.out, hk]; rfl)
        have HY := Lib.hid (back_yes l m hm HF.out)
        have HE := Lib.hid (num_end l m hm)
        have HR := Lib.hid (or_step l m)
        go_enter Try.func9, Try.ntmps9
        go_wp2_with fail
        (with_reducible refine (rkey_calls (l.take m) _ (by rw [List.length_take]; omega)).mono ?_)
        rintro e w1 ⟨rfl, rfl⟩
        rw [hk]
        go_wp2_with fail
        go_loop [5, 6] (fun vn vi => ∃ j : Nat, j ≤ 8 ∧ vi = .int .i64 ((m + 1 + j : Nat) : Int) ∧ vn = .int .u64 (numL ((l.drop (m + 1)).take j) : Nat)) (fun _ vi => m + 9 - (intOf vi).toNat)
        case atStart => exact ⟨0, Nat.zero_le _, rfl, rfl⟩
        case round =>
          obtain ⟨j, hj, rfl, rfl⟩ := hrel
          by_cases h : j < 8
          · go_wp2_with fail
            exact ⟨⟨j + 1, by omega, by go_num, congrArg (Value.int .u64) (HR.out j hm h _)⟩, by simp [intOf]; omega⟩
          · obtain rfl : j = 8 := by omega
            go_wp2_with fail
            go_ret3
            exact ⟨ret_back HY.out.1 (HY.out.2.trans HE.out.symm) HF.out, rfl⟩
    · have HF : Hid (backOK l = false) := Lib.hid (by rw [HO.out, beq_eq_false_iff_ne.2 hx0]; rfl)
      have hne : ¬ x.toNat = 0 := fun e => hx0 (UInt8.toNat_inj.1 e)
      go_enter Try.func9, Try.ntmps9
      go_wp2_with fail
      go_ret3
      exact ⟨ret_noback HF.out, rfl⟩
  · have hs : (strB l).size = l.length := strB_size l
    have HN := Lib.hid (backOK_nine l (by omega))
    have g : (l.length : Int) < 10 := by omega
    go_enter Try.func9, Try.ntmps9
    go_wp2_with fail
    go_ret3
    exact ⟨ret_noback HN.out, rfl⟩
end Go.Proofs.Ytkkflcikjmihaaa
