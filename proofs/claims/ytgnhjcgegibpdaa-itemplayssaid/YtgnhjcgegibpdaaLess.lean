/- item.Less, and the document's: what each call does. No statement is proved here. -/
import Derived.Test.YtgnhjcgegibpdaaKey
namespace Go.Proofs.Ytgnhjcgegibpdaa
open Go.RowKit

theorem less_same {x y : It} (h : (x.key == y.key) = true) : less x y = decide (y.seq < x.seq) := by
  unfold less
  rw [if_pos (beq_iff_eq.1 h)]
theorem less_other {x y : It} (h : (x.key == y.key) = false) : less x y = Op.bytesLess x.key y.key := by
  unfold less
  rw [if_neg (beq_eq_false_iff_ne.1 h)]
theorem bytes_irrefl (l : List UInt8) : Op.bytesLess l l = false := by
  induction l with
  | nil => rfl
  | cons x l ih =>
    rw [Op.bytesLess, ih]
    simp [UInt8.lt_irrefl]

theorem below_two (w : World) (a b : Obj) : Below w.heap.size w ((w.alloc a).alloc b) := ((Below.refl _ _).alloc (Nat.le_refl _) _).alloc (by simp) _
theorem below_one (w : World) (a : Obj) : Below w.heap.size w (w.alloc a) := (Below.refl _ _).alloc (Nat.le_refl _) _

set_option maxHeartbeats 1000000 in
theorem less_calls (x y : It) (w : World) :
    Calls Try.prog 11 #[itV x, itV y] w fun e w' => e = .returned (.bool (less x y)) ∧ Below w.heap.size w w' := by
  unfold itV
  have e1 := strB_toList x.key
  have e2 := strB_toList y.key
  cases h : (x.key == y.key) with
  | true =>
    rw [less_same h]
    go_enter Try.func11, Try.ntmps11
    go_wp2_with fail
    go_ret
    exact ⟨rfl, below_two _ _ _⟩
  | false =>
    rw [less_other h]
    go_enter Try.func11, Try.ntmps11
    go_wp2_with fail
    go_ret
    exact ⟨rfl, below_two _ _ _⟩

set_option maxHeartbeats 1000000 in
theorem rless_calls (x y : It) (w : World) :
    Calls Try.prog 12 #[itV x, itV y] w fun e w' => e = .returned (.bool (less x y)) ∧ Below w.heap.size w w' := by
  unfold itV
  have e1 := strB_toList x.key
  have e2 := strB_toList y.key
  cases h : (x.key == y.key) with
  | true =>
    rw [less_same h]
    have hl : Op.bytesLess x.key y.key = false := by rw [beq_iff_eq.1 h]; exact bytes_irrefl _
    go_enter Try.func12, Try.ntmps12
    go_wp2_with fail
    go_ret
    exact ⟨rfl, below_two _ _ _⟩
  | false =>
    rw [less_other h]
    cases hl : Op.bytesLess x.key y.key with
    | true =>
      go_enter Try.func12, Try.ntmps12
      go_wp2_with fail
      go_ret
      exact ⟨rfl, below_two _ _ _⟩
    | false =>
      go_enter Try.func12, Try.ntmps12
      go_wp2_with fail
      go_ret
      exact ⟨rfl, below_two _ _ _⟩

end Go.Proofs.Ytgnhjcgegibpdaa
