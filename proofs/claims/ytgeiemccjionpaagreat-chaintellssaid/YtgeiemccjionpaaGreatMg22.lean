/- Contracts and plain mathematics that the statement's proof wants: no statement is proved here, nothing is assumed. -/
import Derived.Lib.QuietBelow
import Derived.BigQuiet
import Derived.Deep.QuietTactic
import Derived.Test.YtgeiemccjionpaaGreatMg00
import Derived.Test.YtgeiemccjionpaaGreatMg01
/- BTaken -/
namespace Go.Proofs.YtgeiemccjionpaaGreat.Bit
open Go.RowKit Go.Sort

/-- Of how many pages l has bits. -/
def toldN (l : List UInt8) : Nat := min l.length 64 * 8
theorem told_has (l : List UInt8) (p : Nat) : has l p = true ↔ p < toldN l := by rw [has_is]; unfold toldN; omega
theorem told_le (l : List UInt8) : toldN l ≤ 512 := by unfold toldN; omega

set_option maxRecDepth 100000 in
set_option maxHeartbeats 1000000 in
theorem told_calls (l : List UInt8) (w : World) (hl : l.length ≤ 300) :
    Calls Tryz.prog 74 #[.string (strB l)] w fun e w' => e = .returned (.int .i64 (toldN l : Nat)) ∧ w' = w := by
  have hs := strB_size l
  go_enter Tryz.func74, Tryz.ntmps74
  go_wp2_with fail
  all_goals (go_ret; exact ⟨ret_int (by unfold toldN; omega), rfl⟩)

set_option maxRecDepth 100000 in
set_option maxHeartbeats 1000000 in
theorem bit_calls (p : Nat) (w : World) (hp : p ≤ 511) :
    Calls Tryz.prog 75 #[.int .i64 (p : Nat)] w fun e w' => e = .returned (.int .u8 ((2 ^ (7 - p % 8) : Nat) : Int)) ∧ w' = w := by
  go_enter Tryz.func75, Tryz.ntmps75
  go_wp2_with fail
  go_ret
  refine ⟨ret_int ?_, rfl⟩
  have h := pow7 p
  have e : ((2 : Int) ^ (7 - p % 8)) = ((2 ^ (7 - p % 8) : Nat) : Int) := by simp
  rw [e]
  generalize 2 ^ (7 - p % 8) = x at *
  omega

theorem at_strB (l : List UInt8) (k : Nat) (h : k < (strB l).size) : (strB l)[k] = l.getD k 0 := by
  rw [strB_size] at h
  rw [List.getD_eq_getElem?_getD, List.getElem?_eq_getElem h]
  rfl

theorem and_bit (x j : Nat) : ((((x &&& 2 ^ j : Nat)) : Int) != 0) = x.testBit j := by
  rw [nat_bit, Nat.testBit_eq_decide_div_mod_eq]
  have h2 : x / 2 ^ j % 2 = 0 ∨ x / 2 ^ j % 2 = 1 := by omega
  have hp : 0 < 2 ^ j := Nat.two_pow_pos _
  rcases h2 with h | h
  · rw [h]; simp
  · rw [h, Nat.one_mul]
    generalize 2 ^ j = y at *
    have : ¬ ((y : Int) = 0) := by omega
    simp
    omega

set_option maxRecDepth 100000 in
set_option maxHeartbeats 2000000 in
theorem taken_yes (l : List UInt8) (p : Nat) (w : World) (hl : l.length ≤ 300) (hp : p < toldN l) :
    Calls Tryz.prog 88 #[.string (strB l), .int .i64 (p : Nat)] w fun e w' => e = .returned (.bool (tk l p)) ∧ Below w.heap.size w w' := by
  have h5 := told_le l
  have hs := strB_size l
  have hq : p / 8 < (strB l).size := by rw [hs]; exact ((has_is l p).1 ((told_has l p).2 hp)).2
  have hx := at_strB l (p / 8) hq
  have HT := Lib.hid (fun n => told_calls l (w.drewN n) hl)
  have HB := Lib.hid (fun n => bit_calls p (w.drewN n) (by omega))
  obtain ⟨B, hB⟩ : ∃ B, B = 2 ^ (7 - p % 8) := ⟨_, rfl⟩
  have hB2 : B < 256 := by rw [hB]; exact pow7 p
  rw [← hB] at HB
  obtain ⟨c, hc⟩ : ∃ c, c = l.getD (p / 8) 0 := ⟨_, rfl⟩
  rw [← hc] at hx
  have hx' : ∀ h', (strB l)[p / 8]'h' = c := fun _ => hx
  have hc2 := c.toNat_lt
  have HF : Hid (tk l p = (c.toNat).testBit (7 - p % 8)) := Lib.hid (by unfold tk; rw [(told_has l p).2 hp, hc, Bool.true_and])
  have HBB := Lib.hid hB
  clear hB hc hx
  have hw8 : IntKind.i64.wrap ((p : Int) / 8) = (p : Int) / 8 := by rw [wrap_small _ (by omega) (by omega)]
  have hix : ∀ W : World, (Instr.index 9 (.string (strB l)) (.int .i64 ((p : Int) / 8))).run Tryz.prog W = .ok (.int .u8 (c.toNat : Nat)) W := fun W => by
    rw [run_index_string (P := Tryz.prog) W 9 (strB l) .i64 _ Tryz.underlying9, dif_pos ⟨by omega, by omega⟩]
    have e : ((p : Int) / 8).toNat = p / 8 := by omega
    simp only [e, hx']
  go_enter Tryz.func88, Tryz.ntmps88
  go_wp2_with fail
  go_quiet (first | (go_at_call 74; refine Calls.quiet_of_same (HT.out _)) | (go_at_call 75; refine Calls.quiet_of_same (HB.out _)))
  go_wp2_with fail
  go_ret
  refine ⟨ret_bool ?_, ⟨rfl, rfl, rfl, Nat.le_refl _, fun _ _ => rfl⟩⟩
  rw [u8_and_nat _ _ hc2 hB2, HBB.out, HF.out, and_bit]

set_option maxRecDepth 100000 in
set_option maxHeartbeats 2000000 in
theorem taken_calls (l : List UInt8) (p : Int) (w : World) (hl : l.length ≤ 300) :
    Calls Tryz.prog 88 #[.string (strB l), .int .i64 p] w fun e w' => e = .returned (.bool (tkI l p)) ∧ Below w.heap.size w w' := by
  by_cases h0 : 0 ≤ p
  · obtain ⟨q, rfl⟩ := Int.eq_ofNat_of_zero_le h0
    by_cases hp : q < toldN l
    · rw [tkI_nat]
      exact taken_yes l q w hl hp
    · have HF : Hid (tkI l (q : Int) = false) := Lib.hid (by
        rw [tkI_nat]
        unfold tk
        cases h : has l q with
        | false => rfl
        | true => exact absurd ((told_has l q).1 h) hp)
      have HT := Lib.hid (fun n => told_calls l (w.drewN n) hl)
      have hq : decide ((q : Int) < (toldN l : Int)) = false := by rw [decide_eq_false_iff_not]; omega
      go_enter Tryz.func88, Tryz.ntmps88
      go_wp2_with fail
      go_quiet (first | (go_at_call 74; refine Calls.quiet_of_same (HT.out _)))
      go_wp2_with fail
      go_ret
      exact ⟨ret_bool HF.out.symm, ⟨rfl, rfl, rfl, Nat.le_refl _, fun _ _ => rfl⟩⟩
  · have HF : Hid (tkI l p = false) := Lib.hid (by unfold tkI; rw [decide_eq_false h0]; rfl)
    have h1 := decide_eq_false h0
    go_enter Tryz.func88, Tryz.ntmps88
    go_wp2_with fail
    go_quiet (fail)
    go_wp2_with fail
    go_ret
    exact ⟨ret_bool HF.out.symm, ⟨rfl, rfl, rfl, Nat.le_refl _, fun _ _ => rfl⟩⟩

theorem taken_nat (l : List UInt8) (p : Nat) (w : World) (hl : l.length ≤ 300) :
    Calls Tryz.prog 88 #[.string (strB l), .int .i64 (p : Nat)] w fun e w' => e = .returned (.bool (tk l p)) ∧ Below w.heap.size w w' := by
  have := taken_calls l p w hl
  rw [tkI_nat] at this
  exact this

theorem shr_bit (x j : Nat) (hx : x < 2 ^ 8) : (bits BinOp.and IntKind.u8 ((x : Int) / 2 ^ j) 1 == 1) = x.testBit j := by
  have e : ((x : Int) / 2 ^ j) = ((x / 2 ^ j : Nat) : Int) := by simp
  have h1 : x / 2 ^ j ≤ x := Nat.div_le_self _ _
  rw [e, show (1 : Int) = ((1 : Nat) : Int) from rfl, u8_and_nat _ 1 (by omega) (by omega), Nat.and_one_is_mod, Nat.testBit_eq_decide_div_mod_eq, Bool.eq_iff_iff]
  simp only [beq_iff_eq, decide_eq_true_eq]
  omega

theorem tk_hi (l : List UInt8) (p : Nat) (h : ¬ (p < 512 ∧ p / 8 < l.length)) : tkI l (p : Int) = false := by
  rw [tkI_nat]
  unfold tk
  cases hh : has l p with
  | false => rfl
  | true => exact absurd ((has_is l p).1 hh) h

set_option maxRecDepth 100000 in
set_option maxHeartbeats 2000000 in
theorem rtaken_calls (l : List UInt8) (p : Int) (w : World) (hl : l.length ≤ 300) :
    Calls Tryz.prog 26 #[.string (strB l), .int .i64 p] w fun e w' => e = .returned (.bool (tkI l p)) ∧ w' = w := by
  have hs := strB_size l
  by_cases h0 : 0 ≤ p
  · obtain ⟨q, rfl⟩ := Int.eq_ofNat_of_zero_le h0
    by_cases h5 : q < 512
    · by_cases h8 : q / 8 < l.length
      · have hq : q / 8 < (strB l).size := by rw [hs]; exact h8
        have hx := at_strB l (q / 8) hq
        obtain ⟨c, hc⟩ : ∃ c, c = l.getD (q / 8) 0 := ⟨_, rfl⟩
        rw [← hc] at hx
        have hx' : ∀ h', (strB l)[q / 8]'h' = c := fun _ => hx
        have hc2 := c.toNat_lt
        have HF : Hid (tkI l (q : Int) = (c.toNat).testBit (7 - q % 8)) := Lib.hid (by rw [tkI_nat]; unfold tk; rw [(has_is l q).2 ⟨h5, h8⟩, hc, Bool.true_and])
        have g5 : (q : Int) < 512 := by omega
        have g8 : (q : Int) / 8 < (l.length : Int) := by omega
        clear hc hx
        go_enter Tryz.func26, Tryz.ntmps26
        go_wp2_with fail
        go_ret
        refine ⟨ret_bool ?_, rfl⟩
        rw [HF.out, shr_bit _ _ hc2]
      · have HF := Lib.hid (tk_hi l q (fun h => h8 h.2))
        have g5 : (q : Int) < 512 := by omega
        have g8 : ¬ (q : Int) / 8 < (l.length : Int) := by omega
        go_enter Tryz.func26, Tryz.ntmps26
        go_wp2_with fail
        go_ret
        exact ⟨ret_bool HF.out.symm, rfl⟩
    · have HF := Lib.hid (tk_hi l q (fun h => h5 h.1))
      have g5 : ¬ (q : Int) < 512 := by omega
      go_enter Tryz.func26, Tryz.ntmps26
      go_wp2_with fail
      go_ret
      exact ⟨ret_bool HF.out.symm, rfl⟩
  · have HF : Hid (tkI l p = false) := Lib.hid (by unfold tkI; rw [decide_eq_false h0]; rfl)
    go_enter Tryz.func26, Tryz.ntmps26
    go_wp2_with fail
    go_ret
    exact ⟨ret_bool HF.out.symm, rfl⟩

theorem ret_two {a b c d : Int} (h : a = c) (k : b = d) : Ending.returned (.tuple #[.int .i64 a, .int .i64 b]) = .returned (.tuple #[.int .i64 c, .int .i64 d]) := by rw [h, k]
theorem bdrewN {B : Nat} {a w : World} (h : Below B a w) (n : Nat) : Below B a (w.drewN n) := ⟨h.os, h.tape, h.output, h.size, h.block⟩

set_option maxRecDepth 100000 in
set_option maxHeartbeats 2000000 in
theorem within_no (s n : Int) (p : Nat) (w : World) (_hp : p ≤ 512) (h : (p : Int) ≤ s) :
    Calls Tryz.prog 73 #[.agg #[.int .i64 s, .int .i64 n], .int .i64 (p : Nat)] w fun e w' => e = .returned (.tuple #[.int .i64 0, .int .i64 0]) ∧ Below w.heap.size w w' := by
  go_enter Tryz.func73, Tryz.ntmps73
  go_wp2_with fail
  go_ret2
  exact ⟨rfl, below_one _ _⟩

set_option maxRecDepth 100000 in
set_option maxHeartbeats 2000000 in
theorem within_yes (s n : Int) (p : Nat) (w : World) (hp : p ≤ 512) (h : s < p) (h1 : -9223372036854775808 ≤ s) :
    Calls Tryz.prog 73 #[.agg #[.int .i64 s, .int .i64 n], .int .i64 (p : Nat)] w fun e w' => e = .returned (.tuple #[.int .i64 (max s 0), .int .i64 (min (s + min (max n 0) 512) p)]) ∧ Below w.heap.size w w' := by
  have hn : ¬ (p : Int) ≤ s := by omega
  go_enter Tryz.func73, Tryz.ntmps73
  go_wp2_with fail
  all_goals (go_quiet (fail))
  all_goals (go_wp2_with fail)
  all_goals (go_ret2; refine ⟨ret_two ?_ ?_, bdrewN (below_one _ _) _⟩)
  all_goals ((repeat' split) <;> omega)
end Go.Proofs.YtgeiemccjionpaaGreat.Bit

/- BFree -/
namespace Go.Proofs.YtgeiemccjionpaaGreat.Bit
open Go.RowKit Go.Sort

theorem below_trans2 {a b c : World} (h : Below a.heap.size a b) (k : Below b.heap.size b c) : Below a.heap.size a c := h.trans (k.mono h.size)
theorem rtaken_nat (l : List UInt8) (p : Nat) (w : World) (hl : l.length ≤ 300) :
    Calls Tryz.prog 26 #[.string (strB l), .int .i64 (p : Nat)] w fun e w' => e = .returned (.bool (tk l p)) ∧ w' = w := by
  have := rtaken_calls l p w hl
  rw [tkI_nat] at this
  exact this

set_option maxRecDepth 100000 in
set_option maxHeartbeats 2000000 in
theorem rfree_few (l : List UInt8) (pages : Int) (w : World) (hl : l.length ≤ 300) (hp : pages ≤ 512) :
    Calls Tryz.prog 27 #[.string (strB l), .int .i64 pages] w fun e w' => e = .returned (.int .i64 (freeN l (capN pages) : Nat)) ∧ Below w.heap.size w w' := by
  obtain ⟨N, hN⟩ : ∃ N, N = capN pages := ⟨_, rfl⟩
  have hN1 : (N : Int) = max (min pages 512) 0 := by rw [hN]; unfold capN; omega
  have HN := Lib.hid hN
  have HL := Lib.hid (freeN_le l)
  rw [← hN]
  clear hN
  go_enter Tryz.func27, Tryz.ntmps27
  go_wp2_with fail
  go_loopw [5, 6] (fun u5 u9 wr => ∃ i : Nat, i ≤ N ∧ u9 = .int .i64 (i : Nat) ∧ u5 = .int .i64 (freeN l i : Nat) ∧ Hid (Below w.heap.size w wr)) (fun _ u _ => N - (intOf u).toNat)
  case atStart => exact ⟨0, Nat.zero_le _, rfl, rfl, Lib.hid (Below.refl _ _)⟩
  case round =>
    obtain ⟨i, hi, rfl, rfl, HB⟩ := hrel
    have hfi := HL.out i
    by_cases hlt : i < N
    · have g1 : (i : Int) < pages := by omega
      have g2 : (i : Int) < 512 := by omega
      go_wp2_with fail
      (with_reducible refine (rtaken_nat l i _ hl).mono ?_)
      rintro e w2 ⟨rfl, hB⟩
      obtain rfl := hB
      cases ht : tk l i with
      | true =>
        have HE : Hid (freeN l (i + 1) = freeN l i) := Lib.hid (freeN_taken ht)
        go_wp2_with fail
        exact ⟨⟨i + 1, by omega, by go_num, by rw [HE.out], HB⟩, by simp [intOf]; omega⟩
      | false =>
        have HE : Hid (freeN l (i + 1) = freeN l i + 1) := Lib.hid (freeN_free ht)
        go_wp2_with fail
        exact ⟨⟨i + 1, by omega, by go_num, by rw [HE.out]; go_num, HB⟩, by simp [intOf]; omega⟩
    · obtain rfl : i = N := by omega
      have g1 : ¬ (i : Int) < pages := by omega
      clear hN1 hlt
      go_wp2_with fail
      go_ret
      exact ⟨rfl, HB.out⟩

set_option maxRecDepth 100000 in
set_option maxHeartbeats 2000000 in
theorem rfree_big (l : List UInt8) (pages : Int) (w : World) (hl : l.length ≤ 300) (hp : 512 < pages) :
    Calls Tryz.prog 27 #[.string (strB l), .int .i64 pages] w fun e w' => e = .returned (.int .i64 (freeN l (capN pages) : Nat)) ∧ Below w.heap.size w w' := by
  obtain ⟨N, hN⟩ : ∃ N, N = capN pages := ⟨_, rfl⟩
  have hN1 : (N : Int) = max (min pages 512) 0 := by rw [hN]; unfold capN; omega
  have HN := Lib.hid hN
  have HL := Lib.hid (freeN_le l)
  rw [← hN]
  clear hN
  go_enter Tryz.func27, Tryz.ntmps27
  go_wp2_with fail
  go_loopw [5, 6] (fun u5 u9 wr => ∃ i : Nat, i ≤ N ∧ u9 = .int .i64 (i : Nat) ∧ u5 = .int .i64 (freeN l i : Nat) ∧ Hid (Below w.heap.size w wr)) (fun _ u _ => N - (intOf u).toNat)
  case atStart => exact ⟨0, Nat.zero_le _, rfl, rfl, Lib.hid (Below.refl _ _)⟩
  case round =>
    obtain ⟨i, hi, rfl, rfl, HB⟩ := hrel
    have hfi := HL.out i
    by_cases hlt : i < N
    · have g1 : (i : Int) < pages := by omega
      have g2 : (i : Int) < 512 := by omega
      go_wp2_with fail
      (with_reducible refine (rtaken_nat l i _ hl).mono ?_)
      rintro e w2 ⟨rfl, hB⟩
      obtain rfl := hB
      cases ht : tk l i with
      | true =>
        have HE : Hid (freeN l (i + 1) = freeN l i) := Lib.hid (freeN_taken ht)
        go_wp2_with fail
        exact ⟨⟨i + 1, by omega, by go_num, by rw [HE.out], HB⟩, by simp [intOf]; omega⟩
      | false =>
        have HE : Hid (freeN l (i + 1) = freeN l i + 1) := Lib.hid (freeN_free ht)
        go_wp2_with fail
        exact ⟨⟨i + 1, by omega, by go_num, by rw [HE.out]; go_num, HB⟩, by simp [intOf]; omega⟩
    · obtain rfl : i = N := by omega
      have g0 : (i : Int) < pages := by omega
      have g1 : ¬ (i : Int) < 512 := by omega
      clear hN1 hlt
      go_wp2_with fail
      go_ret
      exact ⟨rfl, HB.out⟩

theorem rfree_calls (l : List UInt8) (pages : Int) (w : World) (hl : l.length ≤ 300) :
    Calls Tryz.prog 27 #[.string (strB l), .int .i64 pages] w fun e w' => e = .returned (.int .i64 (freeN l (capN pages) : Nat)) ∧ Below w.heap.size w w' := by
  by_cases h : pages ≤ 512
  · exact rfree_few l pages w hl h
  · exact rfree_big l pages w hl (by omega)

end Go.Proofs.YtgeiemccjionpaaGreat.Bit
