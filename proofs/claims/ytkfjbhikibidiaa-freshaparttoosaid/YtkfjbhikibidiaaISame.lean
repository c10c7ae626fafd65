/- The document's Same, the law's small: what each call does. No statement is proved here. -/
import Derived.Test.YtkfjbhikibidiaaIKey
import Derived.Laws.StructEq
namespace Go.Proofs.Ytkfjbhikibidiaa.Itm
open Go.RowKit

theorem It.dec (x y : It) : decide (x = y) = (x.key == y.key && (x.seq == y.seq && (x.ver == y.ver && (x.mark == y.mark && (x.mt == y.mt && (x.tag == y.tag && x.body == y.body)))))) := by
  rw [Bool.eq_iff_iff]
  simp [It.eq_iff]

theorem equal24 (x y : It) (w : World) : (Op.equalIn 10000 23 (itV x) (itV y)).run Try.prog w = .ok (decide (x = y)) w := by
  have k1 := strB_toList x.key
  have k2 := strB_toList y.key
  have k3 := strB_toList x.mt
  have k4 := strB_toList y.mt
  have k5 := strB_toList x.tag
  have k6 := strB_toList y.tag
  have k7 := strB_toList x.body
  have k8 := strB_toList y.body
  unfold itV
  rw [It.dec]
  cases h1 : (x.key == y.key) with
  | false => go_simp
  | true =>
    cases h2 : (x.seq == y.seq) with
    | false => go_simp
    | true =>
      cases h3 : (x.ver == y.ver) with
      | false => go_simp
      | true =>
        cases h4 : (x.mark == y.mark) with
        | false => go_simp
        | true =>
          cases h5 : (x.mt == y.mt) with
          | false => go_simp
          | true =>
            cases h6 : (x.tag == y.tag) with
            | false => go_simp
            | true =>
              cases h7 : (x.body == y.body) with
              | false => go_simp
              | true => go_simp

theorem eql24 (x y : It) (w : World) : (binOp .eql 23 (itV x) (itV y)).run Try.prog w = .ok (.bool (decide (x = y))) w := by
  have h := equal24 x y w
  unfold itV at h ⊢
  rw [run_eql_struct, h]
  rfl
theorem neq24 (x y : It) (w : World) : (binOp .neq 23 (itV x) (itV y)).run Try.prog w = .ok (.bool (!decide (x = y))) w := by
  have h := equal24 x y w
  unfold itV at h ⊢
  rw [run_neq_struct, h]
  rfl

/-- The first k are alike. -/
def alikeTo (l m : List It) (k : Nat) : Prop := ∀ i, i < k → l[i]? = m[i]?
theorem alike_all {l m : List It} (hl : l.length = m.length) (h : alikeTo l m l.length) : l = m := by
  apply List.ext_getElem?
  intro i
  by_cases hi : i < l.length
  · exact h i hi
  · rw [List.getElem?_eq_none (by omega), List.getElem?_eq_none (by omega)]

end Go.Proofs.Ytkfjbhikibidiaa.Itm
