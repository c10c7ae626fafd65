/- slices.Clone at a slice of strings, nil let in. No statement is proved here. -/
import Derived.Test.YtnnbbkfdijionaaPad
namespace Go.Proofs.Ytnnbbkfdijionaa
open Go.RowKit

/-- The slice's cells as the library's contract asks for them. -/
theorem clone_calls (v : Value) (ss : List ByteArray) (w : World) (h : SL w 9 1 v ss.length (ss.map Value.string)) (hn : ss.length ≤ 1000000) :
    Calls Try.prog 37 #[v] w fun e w' => ∃ v', e = .returned v' ∧ w'.ownsRow w.heap.size 9 1 v' ss.length (ss.map Value.string) ∧ Below w.heap.size w w' := by
  obtain ⟨A, c, rfl, hc, hr⟩ := h
  cases A with
  | none =>
    have h0 : ss.length = 0 := by
      rcases Nat.eq_zero_or_pos ss.length with h | h
      · exact h
      · obtain ⟨b, off, e, _⟩ := hr.at_ h
        cases e
    refine (Try.slices_Clone_string_nil ss.length c w).mono ?_
    rintro e w' ⟨rfl, rfl⟩
    have e0 : ss = [] := List.eq_nil_of_length_eq_zero h0
    subst e0
    exact ⟨_, rfl, World.ownsRow_nil _ _ _ _, Below.refl _ _⟩
  | some a =>
    rcases Nat.eq_zero_or_pos ss.length with h | h
    · have e0 : ss = [] := List.eq_nil_of_length_eq_zero h
      subst e0
      refine (Try.slices_Clone_string_zero a c w).mono ?_
      rintro e w' ⟨v', rfl, ho, _, hb⟩
      exact ⟨_, rfl, ho, hb⟩
    · obtain ⟨b, off, e, hb, hcell⟩ := hr.at_ h
      cases e
      refine (Try.slices_Clone_string b off ss.length c ss w (Nat.le_refl _) (by omega) ?_).mono ?_
      · intro j hj
        exact hcell j _ (by simp [List.getD, List.getElem?_eq_getElem hj])
      · rintro e w' ⟨v', rfl, ho, _, hb⟩
        rw [List.take_length] at ho
        exact ⟨_, rfl, ho, hb⟩

end Go.Proofs.Ytnnbbkfdijionaa
