/- Contracts and plain mathematics that the statement's proof wants: no statement is proved here, nothing is assumed. -/
import Derived.Test.YtnbbijpmkhdgpaaGreatMg07
import Derived.Test.YtnbbijpmkhdgpaaGreatMg08
import Derived.Test.YtnbbijpmkhdgpaaGreatMg13
/- DPad -/
namespace Go.Proofs.YtnbbijpmkhdgpaaGreat.Dsk
open Go.RowKit

theorem repeatL_zero : ∀ k : Nat, Lib.repeatL [0] k = List.replicate k 0
  | 0 => rfl
  | k + 1 => by rw [Lib.repeatL, repeatL_zero k, List.replicate_succ]; rfl

set_option maxRecDepth 100000 in
set_option maxHeartbeats 400000 in
theorem padded_calls (s : ByteArray) (w : World) (h : s.size ≤ 256) :
    Calls Tryz.prog 62 #[.string s] w fun e w' => e = .returned (.string (padB s)) ∧ Below w.heap.size w w' := by
  obtain ⟨k, hk⟩ : ∃ k : Nat, k = 256 - s.size := ⟨_, rfl⟩
  have hk2 : (256 : Int) - (s.size : Int) = (k : Int) := by omega
  have HK := Lib.hid hk
  have HK2 := Lib.hid hk2
  have hk3 : k ≤ 256 := by omega
  clear hk hk2
  go_enter Tryz.func62, Tryz.ntmps62
  go_wp2_with fail
  rw [HK2.out]
  refine (Tryz.strings_Repeat ⟨#[0]⟩ k w (by omega) (by simp [ByteArray.size]; omega)).mono ?_
  rintro e w' ⟨rfl, hb⟩
  have e1 : Lib.repeatL (ByteArray.mk #[0]).data.toList k = List.replicate k 0 := repeatL_zero k
  rw [e1]
  have e2 := padB_eq s k HK.out
  obtain ⟨t, ht⟩ : ∃ t : ByteArray, t = ⟨(List.replicate k (0 : UInt8)).toArray⟩ := ⟨_, rfl⟩
  have hts : t.size = k := by rw [ht]; simp [ByteArray.size]
  have hts2 : t.size ≤ 256 := by omega
  rw [← ht] at e2 ⊢
  have E2 := Lib.hid e2
  clear e2 ht hts e1
  go_wp2_with fail
  go_ret
  exact ⟨congrArg (fun x => Ending.returned (Value.string x)) E2.out, hb⟩

theorem Tryz.info5 : (Tryz.prog.info? 5).map (fun i => (i.zero, i.size, i.bytes)) = some (some (.int .u8 0), 1, 1) := by kernel_rfl

end Go.Proofs.YtnbbijpmkhdgpaaGreat.Dsk

/- DClone -/
namespace Go.Proofs.YtnbbijpmkhdgpaaGreat.Dsk
open Go.RowKit

/-- The slice's cells as the library's contract asks for them. -/
theorem clone_calls (v : Value) (ss : List ByteArray) (w : World) (h : SL w 9 1 v ss.length (ss.map Value.string)) (hn : ss.length ≤ 1000000) :
    Calls Tryz.prog 89 #[v] w fun e w' => ∃ v', e = .returned v' ∧ w'.ownsRow w.heap.size 9 1 v' ss.length (ss.map Value.string) ∧ Below w.heap.size w w' := by
  obtain ⟨A, c, rfl, hc, hr⟩ := h
  cases A with
  | none =>
    have h0 : ss.length = 0 := by
      rcases Nat.eq_zero_or_pos ss.length with h | h
      · exact h
      · obtain ⟨b, off, e, _⟩ := hr.at_ h
        cases e
    refine (Tryz.slices_Clone_string_nil ss.length c w).mono ?_
    rintro e w' ⟨rfl, rfl⟩
    have e0 : ss = [] := List.eq_nil_of_length_eq_zero h0
    subst e0
    exact ⟨_, rfl, World.ownsRow_nil _ _ _ _, Below.refl _ _⟩
  | some a =>
    rcases Nat.eq_zero_or_pos ss.length with h | h
    · have e0 : ss = [] := List.eq_nil_of_length_eq_zero h
      subst e0
      refine (Tryz.slices_Clone_string_zero a c w).mono ?_
      rintro e w' ⟨v', rfl, ho, _, hb⟩
      exact ⟨_, rfl, ho, hb⟩
    · obtain ⟨b, off, e, hb, hcell⟩ := hr.at_ h
      cases e
      refine (Tryz.slices_Clone_string b off ss.length c ss w (Nat.le_refl _) (by omega) ?_).mono ?_
      · intro j hj
        exact hcell j _ (by simp [List.getD, List.getElem?_eq_getElem hj])
      · rintro e w' ⟨v', rfl, ho, _, hb⟩
        rw [List.take_length] at ho
        exact ⟨_, rfl, ho, hb⟩

end Go.Proofs.YtnbbijpmkhdgpaaGreat.Dsk
