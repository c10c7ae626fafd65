/- The document's own Two and Four: what each call does. No statement is proved here. -/
import Derived.Test.YtibgimlfhpjeeaaWWr
import Derived.Laws.BytesArg
namespace Go.Proofs.Ytibgimlfhpjeeaa.Wire
open Go.RowKit

set_option maxHeartbeats 1000000 in
theorem rtwo_calls (n : Int) (w : World) :
    Calls Try.prog 24 #[.int .i64 n] w fun e w' => e = .returned (.string (strB (twoL n))) ∧ Below w.heap.size w w' := by
  have hcv := conv2 n
  go_enter Try.func24, Try.ntmps24
  go_wp2_with fail
  go_ret
  exact ⟨rfl, (Below.refl _ _).alloc (Nat.le_refl _) _⟩

end Go.Proofs.Ytibgimlfhpjeeaa.Wire
