/- CrcJoins: the walk. No statement is proved here. -/
import Derived.Test.YtkfjbhikibidiaaCOpen
namespace Go.Proofs.Ytkfjbhikibidiaa.Crc
open Go.RowKit

theorem sealL (l : List UInt8) (w : World) (h : l.length ≤ 5000) :
    Calls Try.prog 15 #[.string (strB l)] w fun e w' => e = .returned (.string (strB (sealB l))) ∧ Below w.heap.size w w' :=
  seal_calls (strB l) w (by rw [strB_size]; omega)

theorem openL (l : List UInt8) (w : World) (h : l.length ≤ 5000) :
    Calls Try.prog 21 #[.string (strB (sealB l))] w fun e w' => e = .returned (.tuple #[.string (strB l), .bool true]) ∧ Below w.heap.size w w' := by
  have h := open_calls (strB (sealB l)) w (by rw [strB_size, sealB_len]; unfold maxLen; omega)
  rw [strB_data, opens_seal] at h
  have e : openS (strB (sealB l)) = strB l := by
    unfold openS
    rw [strB_data, opens_seal, if_pos rfl, sealB_take]
  rw [e] at h
  exact h

end Go.Proofs.Ytkfjbhikibidiaa.Crc
