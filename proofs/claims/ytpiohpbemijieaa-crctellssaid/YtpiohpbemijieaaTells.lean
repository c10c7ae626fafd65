/- CrcTells: the walk. No statement is proved here. -/
import Derived.Test.YtpiohpbemijieaaAwake
namespace Go.Proofs.Ytpiohpbemijieaa
open Go.RowKit

set_option maxRecDepth 100000 in
set_option maxHeartbeats 1600000 in
theorem tells_calls (s : ByteArray) (w : World) : Calls Try.prog 3 #[.string s] w fun e w' => e = .returned (.bool true) ∧ Below w.heap.size w w' := by
  by_cases hs : s.size ≤ 2000
  · have hm : s.size ≤ maxLen := by unfold maxLen; omega
    have HM := Lib.hid hm
    clear hm
    go_enter Try.func3, Try.ntmps3
    go_wp2_with fail
    (with_reducible refine (open_calls s _ HM.out).mono ?_)
    rintro e w1 ⟨rfl, hB1⟩
    go_wp2_with fail
    (with_reducible refine (ref_open s _ (by omega)).mono ?_)
    rintro e w2 ⟨rfl, hB2⟩
    go_wp2_with fail
    (with_reducible refine (awake_true _).mono ?_)
    rintro e w3 ⟨rfl, hB3⟩
    go_wp2_with fail
    (with_reducible refine (of_calls s _ HM.out).mono ?_)
    rintro e w4 ⟨rfl, hB4⟩
    go_wp2_with fail
    (with_reducible refine (ref_of s _ HM.out).mono ?_)
    rintro e w5 ⟨rfl, rfl⟩
    go_wp2_with fail
    (with_reducible refine (seal_calls s _ (by omega)).mono ?_)
    rintro e w6 ⟨rfl, hB6⟩
    go_wp2_with fail
    (with_reducible refine (ref_seal s _ (by omega)).mono ?_)
    rintro e w7 ⟨rfl, hB7⟩
    go_wp2_with fail
    go_ret
    exact ⟨rfl, below_two (below_two (below_two (below_two (below_two hB1 hB2) hB3) hB4) hB6) hB7⟩
  · go_enter Try.func3, Try.ntmps3
    go_wp2_with fail
    (with_reducible refine (awake_true _).mono ?_)
    rintro e w3 ⟨rfl, hB3⟩
    go_wp2_with fail
    go_ret
    exact ⟨rfl, hB3⟩
end Go.Proofs.Ytpiohpbemijieaa
