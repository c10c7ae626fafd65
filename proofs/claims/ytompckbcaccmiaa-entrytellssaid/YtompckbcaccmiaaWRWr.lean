/- The document's own Two and Four: what each call does. No statement is proved here. -/
import Derived.Test.YtompckbcaccmiaaWWr
import Derived.Laws.BytesArg
namespace Go.Proofs.Ytompckbcaccmiaa.Wire
open Go.RowKit

set_option maxHeartbeats 1000000 in
theorem rtwo_calls (n : Int) (w : World) :
    Calls Try.prog 28 #[.int .i64 n] w fun e w' => e = .returned (.string (strB (twoL n))) ∧ Below w.heap.size w w' := by
  have hcv := conv2 n
  go_enter Try.func28, Try.ntmps28
  go_wp2_with fail
  go_ret
  exact ⟨rfl, (Below.refl _ _).alloc (Nat.le_refl _) _⟩

set_option maxHeartbeats 1000000 in
theorem rfour_calls (n : Int) (w : World) :
    Calls Try.prog 27 #[.int .i64 n] w fun e w' => e = .returned (.string (strB (fourL n))) ∧ Below w.heap.size w w' := by
  have hz : ¬ 9223372036854775807 < (strB (twoL (n / 65536))).size + (strB (twoL n)).size := by rw [strB_size, strB_size, twoL_len, twoL_len]; omega
  go_enter Try.func27, Try.ntmps27
  go_wp2_with fail
  (with_reducible refine (rtwo_calls (n / 65536) _).mono ?_)
  rintro e w1 ⟨rfl, hB1⟩
  go_wp2_with fail
  (with_reducible refine (rtwo_calls n _).mono ?_)
  rintro e w2 ⟨rfl, hB2⟩
  go_wp2_with fail
  go_ret
  exact ⟨ret_str (two_two n), below_two hB1 hB2⟩

end Go.Proofs.Ytompckbcaccmiaa.Wire
