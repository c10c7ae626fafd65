/- bits.told, bit, Taken, within: what each call does. No statement is proved here. -/
import Derived.Test.YtjlcmmidbeikdaaStr
import Derived.Test.YtjlcmmidbeikdaaPlain
import Derived.Lib.QuietBelow
import Derived.BigQuiet
import Derived.Deep.QuietTactic
namespace Go.Proofs.Ytjlcmmidbeikdaa
open Go.RowKit Go.Sort

/-- Of how many pages l has bits. -/
def toldN (l : List UInt8) : Nat := min l.length 64 * 8
theorem told_has (l : List UInt8) (p : Nat) : has l p = true ↔ p < toldN l := by rw [has_is]; unfold toldN; omega
theorem told_le (l : List UInt8) : toldN l ≤ 512 := by unfold toldN; omega

set_option maxHeartbeats 1000000 in
theorem told_calls (l : List UInt8) (w : World) (hl : l.length ≤ 300) :
    Calls Try.prog 25 #[.string (strB l)] w fun e w' => e = .returned (.int .i64 (toldN l : Nat)) ∧ w' = w := by
  have hs := strB_size l
  go_enter Try.func25, Try.ntmps25
  go_wp2_with fail
  all_goals (go_ret; exact ⟨ret_int (by unfold toldN; omega), rfl⟩)

set_option maxHeartbeats 1000000 in
theorem bit_calls (p : Nat) (w : World) (hp : p ≤ 511) :
    Calls Try.prog 26 #[.int .i64 (p : Nat)] w fun e w' => e = .returned (.int .u8 ((2 ^ (7 - p % 8) : Nat) : Int)) ∧ w' = w := by
  go_enter Try.func26, Try.ntmps26
  go_wp2_with fail
  go_ret
  refine ⟨ret_int ?_, rfl⟩
  have h := pow7 p
  have e : ((2 : Int) ^ (7 - p % 8)) = ((2 ^ (7 - p % 8) : Nat) : Int) := by simp
  rw [e]
  generalize 2 ^ (7 - p % 8) = x at *
  omega

theorem at_strB (l : List UInt8) (k : Nat) (h : k < (strB l).size) : (strB l)[k] = l.getD k 0 := by
  rw [strB_size] at h
  rw [List.getD_eq_getElem?_getD, List.getElem?_eq_getElem h]
  rfl

theorem and_bit (x j : Nat) : ((((x &&& 2 ^ j : Nat)) : Int) != 0) = x.testBit j := by
  rw [nat_bit, Nat.testBit_eq_decide_div_mod_eq]
  have h2 : x / 2 ^ j % 2 = 0 ∨ x / 2 ^ j % 2 = 1 := by omega
  have hp : 0 < 2 ^ j := Nat.two_pow_pos _
  rcases h2 with h | h
  · rw [h]; simp
  · rw [h, Nat.one_mul]
    generalize 2 ^ j = y at *
    have : ¬ ((y : Int) = 0) := by omega
    simp [this]
    omega

set_option maxHeartbeats 2000000 in
theorem taken_yes (l : List UInt8) (p : Nat) (w : World) (hl : l.length ≤ 300) (hp : p < toldN l) :
    Calls Try.prog 12 #[.string (strB l), .int .i64 (p : Nat)] w fun e w' => e = .returned (.bool (tk l p)) ∧ Below w.heap.size w w' := by
  have h5 := told_le l
  have hs := strB_size l
  have hq : p / 8 < (strB l).size := by rw [hs]; exact ((has_is l p).1 ((told_has l p).2 hp)).2
  have hx := at_strB l (p / 8) hq
  have HT := Lib.hid (fun n => told_calls l (w.drewN n) hl)
  have HB := Lib.hid (fun n => bit_calls p (w.drewN n) (by omega))
  obtain ⟨B, hB⟩ : ∃ B, B = 2 ^ (7 - p % 8) := ⟨_, rfl⟩
  have hB2 : B < 256 := by rw [hB]; exact pow7 p
  rw [← hB] at HB
  obtain ⟨c, hc⟩ : ∃ c, c = l.getD (p / 8) 0 := ⟨_, rfl⟩
  rw [← hc] at hx
  have hx' : ∀ h', (strB l)[p / 8]'h' = c := fun _ => hx
  have hc2 := c.toNat_lt
  have HF : Hid (tk l p = (c.toNat).testBit (7 - p % 8)) := Lib.hid (by unfold tk; rw [(told_has l p).2 hp, hc, Bool.true_and])
  have HBB := Lib.hid hB
  clear hB hc hx
  have hw8 : IntKind.i64.wrap ((p : Int) / 8) = (p : Int) / 8 := by rw [wrap_small _ (by omega) (by omega)]
  have hix : ∀ W : World, (Instr.index 9 (.string (strB l)) (.int .i64 ((p : Int) / 8))).run Try.prog W = .ok (.int .u8 (c.toNat : Nat)) W := fun W => by
    rw [run_index_string (P := Try.prog) W 9 (strB l) .i64 _ Try.underlying9, dif_pos ⟨by omega, by omega⟩]
    have e : ((p : Int) / 8).toNat = p / 8 := by omega
    simp only [e, hx']
  go_enter Try.func12, Try.ntmps12
  go_wp2_with fail
  go_quiet (first | (go_at_call 25; refine Calls.quiet_of_same (HT.out _)) | (go_at_call 26; refine Calls.quiet_of_same (HB.out _)))
  go_wp2_with fail
  go_ret
  refine ⟨ret_bool ?_, ⟨rfl, rfl, rfl, Nat.le_refl _, fun _ _ => rfl⟩⟩
  rw [u8_and_nat _ _ hc2 hB2, HBB.out, HF.out, and_bit]

set_option maxHeartbeats 2000000 in
theorem taken_calls (l : List UInt8) (p : Int) (w : World) (hl : l.length ≤ 300) :
    Calls Try.prog 12 #[.string (strB l), .int .i64 p] w fun e w' => e = .returned (.bool (tkI l p)) ∧ Below w.heap.size w w' := by
  by_cases h0 : 0 ≤ p
  · obtain ⟨q, rfl⟩ := Int.eq_ofNat_of_zero_le h0
    by_cases hp : q < toldN l
    · rw [tkI_nat]
      exact taken_yes l q w hl hp
    · have HF : Hid (tkI l (q : Int) = false) := Lib.hid (by
        rw [tkI_nat]
        unfold tk
        cases h : has l q with
        | false => rfl
        | true => exact absurd ((told_has l q).1 h) hp)
      have HT := Lib.hid (fun n => told_calls l (w.drewN n) hl)
      have hq : decide ((q : Int) < (toldN l : Int)) = false := by rw [decide_eq_false_iff_not]; omega
      go_enter Try.func12, Try.ntmps12
      go_wp2_with fail
      go_quiet (first | (go_at_call 25; refine Calls.quiet_of_same (HT.out _)))
      go_wp2_with fail
      go_ret
      exact ⟨ret_bool HF.out.symm, ⟨rfl, rfl, rfl, Nat.le_refl _, fun _ _ => rfl⟩⟩
  · have HF : Hid (tkI l p = false) := Lib.hid (by unfold tkI; rw [decide_eq_false h0]; rfl)
    have h1 := decide_eq_false h0
    go_enter Try.func12, Try.ntmps12
    go_wp2_with fail
    go_quiet (fail)
    go_wp2_with fail
    go_ret
    exact ⟨ret_bool HF.out.symm, ⟨rfl, rfl, rfl, Nat.le_refl _, fun _ _ => rfl⟩⟩

theorem taken_nat (l : List UInt8) (p : Nat) (w : World) (hl : l.length ≤ 300) :
    Calls Try.prog 12 #[.string (strB l), .int .i64 (p : Nat)] w fun e w' => e = .returned (.bool (tk l p)) ∧ Below w.heap.size w w' := by
  have := taken_calls l p w hl
  rw [tkI_nat] at this
  exact this

theorem shr_bit (x j : Nat) (hx : x < 2 ^ 8) : (bits BinOp.and IntKind.u8 ((x : Int) / 2 ^ j) 1 == 1) = x.testBit j := by
  have e : ((x : Int) / 2 ^ j) = ((x / 2 ^ j : Nat) : Int) := by simp
  have h1 : x / 2 ^ j ≤ x := Nat.div_le_self _ _
  rw [e, show (1 : Int) = ((1 : Nat) : Int) from rfl, u8_and_nat _ 1 (by omega) (by omega), Nat.and_one_is_mod, Nat.testBit_eq_decide_div_mod_eq, Bool.eq_iff_iff]
  simp only [beq_iff_eq, decide_eq_true_eq]
  omega

theorem tk_hi (l : List UInt8) (p : Nat) (h : ¬ (p < 512 ∧ p / 8 < l.length)) : tkI l (p : Int) = false := by
  rw [tkI_nat]
  unfold tk
  cases hh : has l p with
  | false => rfl
  | true => exact absurd ((has_is l p).1 hh) h

set_option maxRecDepth 100000 in
set_option maxHeartbeats 2000000 in
theorem rtaken_calls (l : List UInt8) (p : Int) (w : World) (hl : l.length ≤ 300) :
    Calls Try.prog 13 #[.string (strB l), .int .i64 p] w fun e w' => e = .returned (.bool (tkI l p)) ∧ w' = w := by
  have hs := strB_size l
  by_cases h0 : 0 ≤ p
  · obtain ⟨q, rfl⟩ := Int.eq_ofNat_of_zero_le h0
    by_cases h5 : q < 512
    · by_cases h8 : q / 8 < l.length
      · have hq : q / 8 < (strB l).size := by rw [hs]; exact h8
        have hx := at_strB l (q / 8) hq
        obtain ⟨c, hc⟩ : ∃ c, c = l.getD (q / 8) 0 := ⟨_, rfl⟩
        rw [← hc] at hx
        have hx' : ∀ h', (strB l)[q / 8]'h' = c := fun _ => hx
        have hc2 := c.toNat_lt
        have HF : Hid (tkI l (q : Int) = (c.toNat).testBit (7 - q % 8)) := Lib.hid (by rw [tkI_nat]; unfold tk; rw [(has_is l q).2 ⟨h5, h8⟩, hc, Bool.true_and])
        have g5 : (q : Int) < 512 := by omega
        have g8 : (q : Int) / 8 < (l.length : Int) := by omega
        clear hc hx
        go_enter Try.func13, Try.ntmps13
        go_wp2_with fail
        go_ret
        refine ⟨ret_bool ?_, rfl⟩
        rw [HF.out, shr_bit _ _ hc2]
      · have HF := Lib.hid (tk_hi l q (fun h => h8 h.2))
        have g5 : (q : Int) < 512 := by omega
        have g8 : ¬ (q : Int) / 8 < (l.length : Int) := by omega
        go_enter Try.func13, Try.ntmps13
        go_wp2_with fail
        go_ret
        exact ⟨ret_bool HF.out.symm, rfl⟩
    · have HF := Lib.hid (tk_hi l q (fun h => h5 h.1))
      have g5 : ¬ (q : Int) < 512 := by omega
      go_enter Try.func13, Try.ntmps13
      go_wp2_with fail
      go_ret
      exact ⟨ret_bool HF.out.symm, rfl⟩
  · have HF : Hid (tkI l p = false) := Lib.hid (by unfold tkI; rw [decide_eq_false h0]; rfl)
    go_enter Try.func13, Try.ntmps13
    go_wp2_with fail
    go_ret
    exact ⟨ret_bool HF.out.symm, rfl⟩

theorem ret_two {a b c d : Int} (h : a = c) (k : b = d) : Ending.returned (.tuple #[.int .i64 a, .int .i64 b]) = .returned (.tuple #[.int .i64 c, .int .i64 d]) := by rw [h, k]
theorem bdrewN {B : Nat} {a w : World} (h : Below B a w) (n : Nat) : Below B a (w.drewN n) := ⟨h.os, h.tape, h.output, h.size, h.block⟩

set_option maxHeartbeats 2000000 in
theorem within_no (s n : Int) (p : Nat) (w : World) (hp : p ≤ 512) (h : (p : Int) ≤ s) :
    Calls Try.prog 27 #[.agg #[.int .i64 s, .int .i64 n], .int .i64 (p : Nat)] w fun e w' => e = .returned (.tuple #[.int .i64 0, .int .i64 0]) ∧ Below w.heap.size w w' := by
  go_enter Try.func27, Try.ntmps27
  go_wp2_with fail
  go_ret2
  exact ⟨rfl, below_one _ _⟩

set_option maxHeartbeats 2000000 in
theorem within_yes (s n : Int) (p : Nat) (w : World) (hp : p ≤ 512) (h : s < p) (h1 : -10000 ≤ s) :
    Calls Try.prog 27 #[.agg #[.int .i64 s, .int .i64 n], .int .i64 (p : Nat)] w fun e w' => e = .returned (.tuple #[.int .i64 (max s 0), .int .i64 (min (s + min (max n 0) 512) p)]) ∧ Below w.heap.size w w' := by
  have hn : ¬ (p : Int) ≤ s := by omega
  go_enter Try.func27, Try.ntmps27
  go_wp2_with fail
  all_goals (go_quiet (fail))
  all_goals (go_wp2_with fail)
  all_goals (go_ret2; refine ⟨ret_two ?_ ?_, bdrewN (below_one _ _) _⟩)
  all_goals ((repeat' split) <;> omega)
end Go.Proofs.Ytjlcmmidbeikdaa
