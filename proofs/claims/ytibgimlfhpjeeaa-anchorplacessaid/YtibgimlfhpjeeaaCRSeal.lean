/- The document's own seal: what the call does. No statement is proved here. -/
import Derived.Test.YtibgimlfhpjeeaaCSeal
import Derived.Test.YtibgimlfhpjeeaaCRFour
import Derived.Laws.BytesArg
namespace Go.Proofs.Ytibgimlfhpjeeaa.Crc
open Go.RowKit

set_option maxHeartbeats 1000000 in
theorem ref_seal (s : ByteArray) (w : World) (hs : s.size ≤ 9223372036854775000) :
    Calls Try.prog 25 #[.string s] w fun e w' => e = .returned (.string (strB (sealB s.data.toList))) ∧ Below w.heap.size w w' := by
  have hlt := crcN_lt s.data.toList
  have hcv := conv4 (crcN s.data.toList) hlt
  go_enter Try.func25, Try.ntmps25
  go_wp2_with fail
  (with_reducible refine (ref_of s _ (by unfold maxLen; omega)).mono ?_)
  rintro e w1 ⟨rfl, rfl⟩
  have hz : ¬ 9223372036854775807 < s.size + (strB (tailB (crcN s.data.toList))).size := by rw [strB_size, tailB_len]; omega
  go_wp2_with fail
  go_ret
  exact ⟨ret_str (str_seal s), (Below.refl _ _).alloc (Nat.le_refl _) _⟩

end Go.Proofs.Ytibgimlfhpjeeaa.Crc
