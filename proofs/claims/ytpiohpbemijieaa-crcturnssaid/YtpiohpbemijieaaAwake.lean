/- The law's own examples answer true. No statement is proved here. -/
import Derived.Test.YtpiohpbemijieaaOpen
namespace Go.Proofs.Ytpiohpbemijieaa
open Go.RowKit

def abcS : ByteArray := strB (sealB [97, 98, 99])

theorem aw_seal (w : World) : Calls Try.prog 11 #[.string ⟨#[97, 98, 99]⟩] w fun e w' => e = .returned (.string abcS) ∧ Below w.heap.size w w' :=
  seal_calls _ w (by decide)

theorem abc_opens : opens abcS.data.toList = true := opens_seal _
theorem abc_openS : openS abcS = ⟨#[97, 98, 99]⟩ := by
  unfold openS
  rw [if_pos abc_opens]
  exact congrArg strB (sealB_take [97, 98, 99])
theorem abc_size : abcS.size = 7 := by decide +kernel

theorem aw_open (w : World) : Calls Try.prog 7 #[.string abcS] w fun e w' => e = .returned (.tuple #[.string ⟨#[97, 98, 99]⟩, .bool true]) ∧ Below w.heap.size w w' := by
  have h := open_calls abcS w (by rw [abc_size]; unfold maxLen; omega)
  rw [abc_openS, abc_opens] at h
  exact h

theorem no_opens : opens [97, 98, 99, 100] = false := by decide +kernel
theorem none_opens : opens [97, 98, 99] = false := by decide +kernel

theorem aw_no (w : World) : Calls Try.prog 7 #[.string ⟨#[97, 98, 99, 100]⟩] w fun e w' => e = .returned (.tuple #[.string ByteArray.empty, .bool false]) ∧ Below w.heap.size w w' := by
  have h := open_calls ⟨#[97, 98, 99, 100]⟩ w (by decide)
  rw [openS_no _ no_opens, no_opens] at h
  exact h

theorem aw_none (w : World) : Calls Try.prog 7 #[.string ⟨#[97, 98, 99]⟩] w fun e w' => e = .returned (.tuple #[.string ByteArray.empty, .bool false]) ∧ Below w.heap.size w w' := by
  have h := open_calls ⟨#[97, 98, 99]⟩ w (by decide)
  rw [openS_no _ none_opens, none_opens] at h
  exact h

theorem aw_of (w : World) : Calls Try.prog 9 #[.string ⟨#[49, 50, 51, 52, 53, 54, 55, 56, 57]⟩] w fun e w' => e = .returned (.int .u32 3808858755) ∧ Below w.heap.size w w' := by
  have h := of_calls ⟨#[49, 50, 51, 52, 53, 54, 55, 56, 57]⟩ w (by decide)
  rw [crc_example] at h
  exact h

theorem aw_of0 (w : World) : Calls Try.prog 9 #[.string ⟨#[]⟩] w fun e w' => e = .returned (.int .u32 0) ∧ Below w.heap.size w w' := by
  have h := of_calls ⟨#[]⟩ w (by decide)
  rw [crc_empty] at h
  exact h

theorem seal_example : sealB [49, 50, 51, 52, 53, 54, 55, 56, 57] = [49, 50, 51, 52, 53, 54, 55, 56, 57, 131, 146, 6, 227] := by decide +kernel

theorem aw_seal9 (w : World) : Calls Try.prog 11 #[.string ⟨#[49, 50, 51, 52, 53, 54, 55, 56, 57]⟩] w fun e w' => e = .returned (.string ⟨#[49, 50, 51, 52, 53, 54, 55, 56, 57, 131, 146, 6, 227]⟩) ∧ Below w.heap.size w w' := by
  have h := seal_calls ⟨#[49, 50, 51, 52, 53, 54, 55, 56, 57]⟩ w (by decide)
  rw [seal_example] at h
  exact h

theorem below_two {a b c : World} (h : Below a.heap.size a b) (k : Below b.heap.size b c) : Below a.heap.size a c := h.trans (k.mono h.size)

set_option maxRecDepth 100000 in
set_option maxHeartbeats 1600000 in
theorem awake_true (w : World) : Calls Try.prog 6 #[] w fun e w' => e = .returned (.bool true) ∧ Below w.heap.size w w' := by
  have hnot : ∀ (x : Bool) (w : World), (Op.unary .not (.bool x)).run Try.prog w = .ok (.bool (!x)) w := fun _ _ => rfl
  go_enter Try.func6, Try.ntmps6
  go_wp2_with fail
  (with_reducible refine (aw_seal _).mono ?_)
  rintro e w1 ⟨rfl, hB1⟩
  go_wp2_with fail
  (with_reducible refine (aw_open _).mono ?_)
  rintro e w2 ⟨rfl, hB2⟩
  go_wp2_with fail
  (with_reducible refine (aw_no _).mono ?_)
  rintro e w3 ⟨rfl, hB3⟩
  go_wp2_with fail
  (with_reducible refine (aw_none _).mono ?_)
  rintro e w4 ⟨rfl, hB4⟩
  go_wp2_with fail
  (with_reducible refine (aw_of _).mono ?_)
  rintro e w5 ⟨rfl, hB5⟩
  go_wp2_with fail
  (with_reducible refine (aw_of0 _).mono ?_)
  rintro e w6 ⟨rfl, hB6⟩
  go_wp2_with fail
  (with_reducible refine (aw_seal9 _).mono ?_)
  rintro e w7 ⟨rfl, hB7⟩
  go_wp2_with fail
  go_ret
  exact ⟨rfl, below_two (below_two (below_two (below_two (below_two (below_two hB1 hB2) hB3) hB4) hB5) hB6) hB7⟩
end Go.Proofs.Ytpiohpbemijieaa
