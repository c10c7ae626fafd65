/- What is written is read as it was: plain mathematics. No statement is proved here. -/
import Derived.Test.YtibgimlfhpjeeaaWMark
namespace Go.Proofs.Ytibgimlfhpjeeaa.Wire
open Go.RowKit

theorem take_app (a r : List UInt8) (k : Nat) (h : a.length = k) : (a ++ r).take k = a := by subst h; exact List.take_left
theorem drop_app (a r : List UInt8) (k : Nat) (h : a.length = k) : (a ++ r).drop k = r := by subst h; exact List.drop_left
theorem good_app (a r : List UInt8) (k : Nat) (h : a.length = k) : good k ⟨a ++ r, false⟩ = true := good_yes (by simp; omega)

theorem inside_app (a r : List UInt8) (k : Nat) (low high : Int) (h : a.length = k) : inside k low high ⟨a ++ r, false⟩ = (decide (low ≤ (numL a : Int)) && decide ((numL a : Int) ≤ high)) := by
  unfold inside
  rw [good_app a r k h, Bool.true_and]
  show (decide (low ≤ (numL ((a ++ r).take k) : Int)) && _) = _
  rw [take_app a r k h]

theorem numV_app (a r : List UInt8) (k : Nat) (low high : Int) (h : a.length = k) (h1 : low ≤ (numL a : Int)) (h2 : (numL a : Int) ≤ high) : numV k low high ⟨a ++ r, false⟩ = numL a := by
  unfold numV
  rw [inside_app a r k low high h, decide_eq_true h1, decide_eq_true h2]
  show numL ((a ++ r).take k) = _
  rw [take_app a r k h]
theorem numS_app (a r : List UInt8) (k : Nat) (low high : Int) (h : a.length = k) (h1 : low ≤ (numL a : Int)) (h2 : (numL a : Int) ≤ high) : numS k low high ⟨a ++ r, false⟩ = ⟨r, false⟩ := by
  unfold numS
  rw [inside_app a r k low high h, decide_eq_true h1, decide_eq_true h2, good_app a r k h]
  show TK.mk ((a ++ r).drop k) false = _
  rw [drop_app a r k h]

theorem num_two (n : Nat) (h : n < 65536) : numL (twoL (n : Nat)) = n := by
  have := numL_twoL n
  omega
theorem num_four (n : Nat) (h : n < 4294967296) : numL (fourL (n : Nat)) = n := by
  have := numL_fourL n
  omega

theorem textL_is (l : List UInt8) (h : l.length ≤ 65535) : textL l = twoL (l.length : Nat) ++ l := by
  unfold textL
  rw [List.take_of_length_le h, show min l.length 65535 = l.length by omega]

theorem txt_app (l r : List UInt8) (most : Int) (h : l.length ≤ 65535) (hm : (l.length : Int) ≤ most) : txtV most ⟨textL l ++ r, false⟩ = l ∧ txtS most ⟨textL l ++ r, false⟩ = ⟨r, false⟩ := by
  have hn := num_two l.length (by omega)
  have i1 : inside 2 0 most ⟨twoL (l.length : Nat) ++ (l ++ r), false⟩ = true := by
    rw [inside_app _ _ 2 0 most rfl, hn, decide_eq_true (by omega), decide_eq_true hm]; rfl
  have i2 := numV_app (twoL (l.length : Nat)) (l ++ r) 2 0 most rfl (by omega) (by rw [hn]; exact hm)
  have i3 := numS_app (twoL (l.length : Nat)) (l ++ r) 2 0 most rfl (by omega) (by rw [hn]; exact hm)
  rw [hn] at i2
  rw [textL_is l h, List.append_assoc]
  unfold txtV txtS
  rw [i1, i2, i3, if_pos rfl, if_pos rfl]
  unfold takeV takeS
  rw [good_app l r l.length rfl, if_pos rfl, if_pos rfl]
  exact ⟨take_app l r _ rfl, by show TK.mk ((l ++ r).drop l.length) false = _; rw [drop_app l r _ rfl]⟩

theorem txt_less (l : List UInt8) (h : l.length ≤ 65535) : txtV ((l.length : Int) - 1) ⟨textL l, false⟩ = [] ∧ txtS ((l.length : Int) - 1) ⟨textL l, false⟩ = ⟨l, true⟩ := by
  have hn := num_two l.length (by omega)
  have i1 : inside 2 0 ((l.length : Int) - 1) ⟨twoL (l.length : Nat) ++ l, false⟩ = false := by
    rw [inside_app _ _ 2 0 _ rfl, hn, decide_eq_false (p := (l.length : Int) ≤ (l.length : Int) - 1) (by omega), Bool.and_false]
  rw [textL_is l h]
  unfold txtV txtS
  rw [i1]
  refine ⟨rfl, ?_⟩
  show numS 2 0 ((l.length : Int) - 1) ⟨twoL (l.length : Nat) ++ l, false⟩ = _
  unfold numS
  rw [i1, good_app _ _ 2 rfl]
  rfl

end Go.Proofs.Ytibgimlfhpjeeaa.Wire
