/- item.Less, and the document's: what each call does. No statement is proved here. -/
import Derived.Test.YtkfjbhikibidiaaIKey
namespace Go.Proofs.Ytkfjbhikibidiaa.Itm
open Go.RowKit

theorem less_same {x y : It} (h : (x.key == y.key) = true) : less x y = decide (y.seq < x.seq) := by
  unfold less
  rw [if_pos (beq_iff_eq.1 h)]
theorem less_other {x y : It} (h : (x.key == y.key) = false) : less x y = Op.bytesLess x.key y.key := by
  unfold less
  rw [if_neg (beq_eq_false_iff_ne.1 h)]
theorem bytes_irrefl (l : List UInt8) : Op.bytesLess l l = false := by
  induction l with
  | nil => rfl
  | cons x l ih =>
    rw [Op.bytesLess, ih]
    simp [UInt8.lt_irrefl]

theorem below_two (w : World) (a b : Obj) : Below w.heap.size w ((w.alloc a).alloc b) := ((Below.refl _ _).alloc (Nat.le_refl _) _).alloc (by simp) _
end Go.Proofs.Ytkfjbhikibidiaa.Itm
