/- item.Right with its parts: what each call does. No statement is proved here. -/
import Derived.Test.YtkfjbhikibidiaaILess
namespace Go.Proofs.Ytkfjbhikibidiaa.Itm
open Go.RowKit

set_option maxHeartbeats 1000000 in
theorem numbered_calls (x : It) (w : World) :
    Calls Try.prog 26 #[itV x] w fun e w' => e = .returned (.bool (numOK x)) ∧ Below w.heap.size w w' := by
  unfold itV numOK
  by_cases h1 : 1 ≤ x.seq
  · by_cases h2 : x.seq ≤ 2147483647
    · by_cases h3 : x.ver = 0
      · have d3 : (x.ver == 0) = true := by simpa using h3
        rw [decide_eq_true h1, decide_eq_true h2, decide_eq_true h3]
        go_enter Try.func26, Try.ntmps26
        go_wp2_with fail
        go_ret
        exact ⟨rfl, below_one _ _⟩
      · rw [decide_eq_true h1, decide_eq_true h2, decide_eq_false h3]
        go_enter Try.func26, Try.ntmps26
        go_wp2_with fail
        go_ret
        exact ⟨ret_bool (by rw [Bool.eq_iff_iff]; simp [h3]), below_one _ _⟩
    · rw [decide_eq_true h1, decide_eq_false h2]
      go_enter Try.func26, Try.ntmps26
      go_wp2_with fail
      go_ret
      exact ⟨rfl, below_one _ _⟩
  · rw [decide_eq_false h1]
    go_enter Try.func26, Try.ntmps26
    go_wp2_with fail
    go_ret
    exact ⟨rfl, below_one _ _⟩

theorem empty_of (l : List UInt8) : (l == []) = l.isEmpty := by cases l <;> rfl

set_option maxHeartbeats 2000000 in
theorem filled_calls (x : It) (w : World) :
    Calls Try.prog 27 #[itV x] w fun e w' => e = .returned (.bool (fillOK x)) ∧ Below w.heap.size w w' := by
  unfold itV fillOK
  have e4 := strB_toList x.mt
  have e5 := strB_toList x.tag
  have e6 := strB_toList x.body
  have s4 := strB_size x.mt
  have s5 := strB_size x.tag
  have s6 := strB_size x.body
  cases hm : x.mark with
  | true =>
    rw [if_pos rfl]
    cases h4 : x.mt.isEmpty with
    | false =>
      go_enter Try.func27, Try.ntmps27
      go_wp2_with fail
      go_ret
      exact ⟨rfl, below_one _ _⟩
    | true =>
      cases h5 : x.tag.isEmpty with
      | false =>
        go_enter Try.func27, Try.ntmps27
        go_wp2_with fail
        go_ret
        exact ⟨rfl, below_one _ _⟩
      | true =>
        go_enter Try.func27, Try.ntmps27
        go_wp2_with fail
        go_ret
        exact ⟨rfl, below_one _ _⟩
  | false =>
    rw [if_neg (by simp)]
    by_cases h1 : x.mt.length ≤ 40
    · have g1 : (x.mt.length : Int) ≤ 40 := by omega
      by_cases h2 : 16 ≤ x.tag.length
      · have g2 : 16 ≤ (x.tag.length : Int) := by omega
        by_cases h3 : x.tag.length ≤ 24
        · have g3 : (x.tag.length : Int) ≤ 24 := by omega
          rw [decide_eq_true h1, decide_eq_true h2, decide_eq_true h3]
          go_enter Try.func27, Try.ntmps27
          go_wp2_with fail
          go_ret
          exact ⟨ret_bool (by simp; omega), below_one _ _⟩
        · have g3 : ¬ (x.tag.length : Int) ≤ 24 := by omega
          rw [decide_eq_true h1, decide_eq_true h2, decide_eq_false h3]
          go_enter Try.func27, Try.ntmps27
          go_wp2_with fail
          go_ret
          exact ⟨rfl, below_one _ _⟩
      · have g2 : ¬ 16 ≤ (x.tag.length : Int) := by omega
        rw [decide_eq_true h1, decide_eq_false h2]
        go_enter Try.func27, Try.ntmps27
        go_wp2_with fail
        go_ret
        exact ⟨rfl, below_one _ _⟩
    · have g1 : ¬ (x.mt.length : Int) ≤ 40 := by omega
      rw [decide_eq_false h1]
      go_enter Try.func27, Try.ntmps27
      go_wp2_with fail
      go_ret
      exact ⟨rfl, below_one _ _⟩

set_option maxHeartbeats 1000000 in
theorem right_calls (x : It) (w : World) :
    Calls Try.prog 11 #[itV x] w fun e w' => e = .returned (.bool (rightB x)) ∧ Below w.heap.size w w' := by
  have HN := Lib.hid (numbered_calls x)
  have HF := Lib.hid (filled_calls x)
  unfold itV at HN HF
  unfold itV rightB
  cases hk : keyOK x.key with
  | false =>
    go_enter Try.func11, Try.ntmps11
    go_wp2_with fail
    (with_reducible refine (key_calls x.key _).mono ?_)
    rintro e w1 ⟨rfl, rfl⟩
    rw [hk]
    go_wp2_with fail
    go_ret
    exact ⟨rfl, below_one _ _⟩
  | true =>
    cases hn : numOK x with
    | false =>
      go_enter Try.func11, Try.ntmps11
      go_wp2_with fail
      (with_reducible refine (key_calls x.key _).mono ?_)
      rintro e w1 ⟨rfl, rfl⟩
      rw [hk]
      go_wp2_with fail
      (with_reducible refine (HN.out _).mono ?_)
      rintro e w1 ⟨rfl, hB1⟩
      rw [hn]
      go_wp2_with fail
      go_ret
      exact ⟨rfl, below_trans' (below_one _ _) hB1⟩
    | true =>
      go_enter Try.func11, Try.ntmps11
      go_wp2_with fail
      (with_reducible refine (key_calls x.key _).mono ?_)
      rintro e w1 ⟨rfl, rfl⟩
      rw [hk]
      go_wp2_with fail
      (with_reducible refine (HN.out _).mono ?_)
      rintro e w1 ⟨rfl, hB1⟩
      rw [hn]
      obtain ⟨c0, c1, c2, c3, c4, c5, c6⟩ := (Box.below (x := x) (g := w.heap.size) (heap_alloc_new w _) hB1).at_
      go_wp2_with fail
      (with_reducible refine (HF.out _).mono ?_)
      rintro e w2 ⟨rfl, hB2⟩
      go_wp2_with fail
      go_ret
      exact ⟨rfl, below_trans' (below_trans' (below_one _ _) hB1) hB2⟩

end Go.Proofs.Ytkfjbhikibidiaa.Itm
