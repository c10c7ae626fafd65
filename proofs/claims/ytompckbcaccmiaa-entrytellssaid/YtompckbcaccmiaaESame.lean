/- Equality of entries: what each operation gives. No statement is proved here. -/
import Derived.Test.YtompckbcaccmiaaEMem
import Derived.Laws.StructEq
namespace Go.Proofs.Ytompckbcaccmiaa
open Go.RowKit

theorem En.dec (x y : En) : decide (x = y) = (x.seq == y.seq && (x.index == y.index && (x.last == y.last && (x.no == y.no && x.data == y.data)))) := by
  rw [Bool.eq_iff_iff]
  simp [En.eq_iff]

theorem equal23 (x y : En) (w : World) : (Op.equalIn 10000 23 (enV x) (enV y)).run Try.prog w = .ok (decide (x = y)) w := by
  have k1 := strB_toList x.data
  have k2 := strB_toList y.data
  unfold enV
  rw [En.dec]
  cases h1 : (x.seq == y.seq) with
  | false => go_simp
  | true =>
    cases h2 : (x.index == y.index) with
    | false => go_simp
    | true =>
      cases h3 : (x.last == y.last) with
      | false => go_simp
      | true =>
        cases h4 : (x.no == y.no) with
        | false => go_simp
        | true =>
          cases h5 : (x.data == y.data) with
          | false => go_simp
          | true => go_simp

theorem eql23 (x y : En) (w : World) : (binOp .eql 23 (enV x) (enV y)).run Try.prog w = .ok (.bool (decide (x = y))) w := by
  have h := equal23 x y w
  unfold enV at h ⊢
  rw [run_eql_struct, h]
  rfl
theorem neq23 (x y : En) (w : World) : (binOp .neq 23 (enV x) (enV y)).run Try.prog w = .ok (.bool (!decide (x = y))) w := by
  have h := equal23 x y w
  unfold enV at h ⊢
  rw [run_neq_struct, h]
  rfl

end Go.Proofs.Ytompckbcaccmiaa
