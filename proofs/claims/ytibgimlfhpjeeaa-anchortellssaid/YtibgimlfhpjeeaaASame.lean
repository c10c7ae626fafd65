/- Equality of shapes: what each operation gives. No statement is proved here. -/
import Derived.Test.YtibgimlfhpjeeaaAMem
import Derived.Laws.StructEq
namespace Go.Proofs.Ytibgimlfhpjeeaa
open Go.RowKit

theorem Sh.dec (x y : Sh) : decide (x = y) = (x.pages == y.pages && x.journal == y.journal) := by
  rw [Bool.eq_iff_iff]
  simp [Sh.eq_iff]

theorem equal23 (x y : Sh) (w : World) : (Op.equalIn 10000 23 (shV x) (shV y)).run Try.prog w = .ok (decide (x = y)) w := by
  unfold shV
  rw [Sh.dec]
  cases h1 : (x.pages == y.pages) with
  | false => go_simp
  | true =>
    cases h2 : (x.journal == y.journal) with
    | false => go_simp
    | true => go_simp

theorem eql23 (x y : Sh) (w : World) : (binOp .eql 23 (shV x) (shV y)).run Try.prog w = .ok (.bool (decide (x = y))) w := by
  have h := equal23 x y w
  unfold shV at h ⊢
  rw [run_eql_struct, h]
  rfl
theorem neq23 (x y : Sh) (w : World) : (binOp .neq 23 (shV x) (shV y)).run Try.prog w = .ok (.bool (!decide (x = y))) w := by
  have h := equal23 x y w
  unfold shV at h ⊢
  rw [run_neq_struct, h]
  rfl

end Go.Proofs.Ytibgimlfhpjeeaa
