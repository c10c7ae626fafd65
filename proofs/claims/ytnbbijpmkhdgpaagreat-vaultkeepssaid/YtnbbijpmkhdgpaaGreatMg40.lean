/- Contracts and plain mathematics that the statement's proof wants: no statement is proved here, nothing is assumed. -/
import Derived.Test.YtnbbijpmkhdgpaaGreatMg13
import Derived.Test.YtnbbijpmkhdgpaaGreatMg33
/- LKBox -/
namespace Go.Proofs.YtnbbijpmkhdgpaaGreat.Vlt
open Go.RowKit Go.Sort
open Dsk

def row16 (f : Nat → List UInt8) : Array Value := #[.string (strB (f 0)), .string (strB (f 1)), .string (strB (f 2)), .string (strB (f 3)), .string (strB (f 4)), .string (strB (f 5)), .string (strB (f 6)), .string (strB (f 7)), .string (strB (f 8)), .string (strB (f 9)), .string (strB (f 10)), .string (strB (f 11)), .string (strB (f 12)), .string (strB (f 13)), .string (strB (f 14)), .string (strB (f 15))]
theorem row16_at (f : Nat → List UInt8) : ∀ k : Nat, k < 16 → (row16 f)[k]? = some (.string (strB (f k)))
  | 0, _ => rfl
  | 1, _ => rfl
  | 2, _ => rfl
  | 3, _ => rfl
  | 4, _ => rfl
  | 5, _ => rfl
  | 6, _ => rfl
  | 7, _ => rfl
  | 8, _ => rfl
  | 9, _ => rfl
  | 10, _ => rfl
  | 11, _ => rfl
  | 12, _ => rfl
  | 13, _ => rfl
  | 14, _ => rfl
  | 15, _ => rfl
  | n + 16, h => absurd h (by omega)
theorem row16_set (f : Nat → List UInt8) (s : List UInt8) : ∀ k : Nat, k < 16 → (row16 f).setIfInBounds k (.string (strB s)) = row16 (fun j => if j = k then s else f j)
  | 0, _ => rfl
  | 1, _ => rfl
  | 2, _ => rfl
  | 3, _ => rfl
  | 4, _ => rfl
  | 5, _ => rfl
  | 6, _ => rfl
  | 7, _ => rfl
  | 8, _ => rfl
  | 9, _ => rfl
  | 10, _ => rfl
  | 11, _ => rfl
  | 12, _ => rfl
  | 13, _ => rfl
  | 14, _ => rfl
  | 15, _ => rfl
  | n + 16, h => absurd h (by omega)

/-- A box of sixteen strings. -/
structure AB (W : World) (p : Nat) (f : Nat → List UInt8) : Prop where
  box : W.heap[p]? = some (.cells (row16 f) 44 (0, 0))
section
variable {W W' : World} {p : Nat} {f g : Nat → List UInt8}
theorem AB.lt (h : AB W p f) : p < W.heap.size := (Array.getElem?_eq_some_iff.1 h.box).1
theorem AB.below (h : AB W p f) (hb : Below W.heap.size W W') : AB W' p f := ⟨box_kept _ h.box hb⟩
theorem AB.keep (h : AB W p f) (e : W'.heap[p]? = W.heap[p]?) : AB W' p f := ⟨e.trans h.box⟩
theorem AB.free (h : AB W p f) (i : Nat) : W.frozen? ⟨p, i, none⟩ = false := by simp [World.frozen?, h.box]
theorem AB.at_ (h : AB W p f) {k : Nat} (hk : k < 16) : W.cell? ⟨p, k, none⟩ = some (.string (strB (f k))) := by
  rw [cell_of_row W p k _ _ _ h.box]
  exact row16_at f k hk
theorem AB.set (h : AB W p f) {k : Nat} (hk : k < 16) (s : List UInt8) :
    ∃ X, W.setCell ⟨p, k, none⟩ (.string (strB s)) = X ∧ AB X p (fun j => if j = k then s else f j) ∧ (∀ q : Nat, q ≠ p → X.heap[q]? = W.heap[q]?) ∧ (∀ (B : Nat) (a : World), Below B a W → B ≤ p → Below B a X) :=
  ⟨_, rfl, ⟨by rw [← row16_set f s k hk]; exact heap_setCell_same W p k _ 44 _ h.box⟩, fun q hq => Below.heap_setCell _ _ _ _ hq, fun B a hb hp => hb.setCell (p := ⟨p, k, none⟩) hp _⟩
theorem AB.zero (W : World) : AB (W.alloc (.cells #[.string ⟨#[]⟩, .string ⟨#[]⟩, .string ⟨#[]⟩, .string ⟨#[]⟩, .string ⟨#[]⟩, .string ⟨#[]⟩, .string ⟨#[]⟩, .string ⟨#[]⟩, .string ⟨#[]⟩, .string ⟨#[]⟩, .string ⟨#[]⟩, .string ⟨#[]⟩, .string ⟨#[]⟩, .string ⟨#[]⟩, .string ⟨#[]⟩, .string ⟨#[]⟩] 44)) W.heap.size (fun _ => []) := ⟨heap_alloc_new W _⟩
structure At16 (W : World) (p : Nat) (f : Nat → List UInt8) : Prop where
  c0 : W.cell? ⟨p, 0, none⟩ = some (.string (strB (f 0)))
  c1 : W.cell? ⟨p, 1, none⟩ = some (.string (strB (f 1)))
  c2 : W.cell? ⟨p, 2, none⟩ = some (.string (strB (f 2)))
  c3 : W.cell? ⟨p, 3, none⟩ = some (.string (strB (f 3)))
  c4 : W.cell? ⟨p, 4, none⟩ = some (.string (strB (f 4)))
  c5 : W.cell? ⟨p, 5, none⟩ = some (.string (strB (f 5)))
  c6 : W.cell? ⟨p, 6, none⟩ = some (.string (strB (f 6)))
  c7 : W.cell? ⟨p, 7, none⟩ = some (.string (strB (f 7)))
  c8 : W.cell? ⟨p, 8, none⟩ = some (.string (strB (f 8)))
  c9 : W.cell? ⟨p, 9, none⟩ = some (.string (strB (f 9)))
  c10 : W.cell? ⟨p, 10, none⟩ = some (.string (strB (f 10)))
  c11 : W.cell? ⟨p, 11, none⟩ = some (.string (strB (f 11)))
  c12 : W.cell? ⟨p, 12, none⟩ = some (.string (strB (f 12)))
  c13 : W.cell? ⟨p, 13, none⟩ = some (.string (strB (f 13)))
  c14 : W.cell? ⟨p, 14, none⟩ = some (.string (strB (f 14)))
  c15 : W.cell? ⟨p, 15, none⟩ = some (.string (strB (f 15)))
theorem AB.cells (h : AB W p f) : At16 W p f := ⟨h.at_ (by omega), h.at_ (by omega), h.at_ (by omega), h.at_ (by omega), h.at_ (by omega), h.at_ (by omega), h.at_ (by omega), h.at_ (by omega), h.at_ (by omega), h.at_ (by omega), h.at_ (by omega), h.at_ (by omega), h.at_ (by omega), h.at_ (by omega), h.at_ (by omega), h.at_ (by omega)⟩
/-- A whole array is stored. -/
theorem AB.fill (h : AB W p f) (g : Nat → List UInt8) :
    ∃ X, ((((((((((((((((W.setCell ⟨p, 0, none⟩ (.string (strB (g 0)))).setCell ⟨p, 1, none⟩ (.string (strB (g 1)))).setCell ⟨p, 2, none⟩ (.string (strB (g 2)))).setCell ⟨p, 3, none⟩ (.string (strB (g 3)))).setCell ⟨p, 4, none⟩ (.string (strB (g 4)))).setCell ⟨p, 5, none⟩ (.string (strB (g 5)))).setCell ⟨p, 6, none⟩ (.string (strB (g 6)))).setCell ⟨p, 7, none⟩ (.string (strB (g 7)))).setCell ⟨p, 8, none⟩ (.string (strB (g 8)))).setCell ⟨p, 9, none⟩ (.string (strB (g 9)))).setCell ⟨p, 10, none⟩ (.string (strB (g 10)))).setCell ⟨p, 11, none⟩ (.string (strB (g 11)))).setCell ⟨p, 12, none⟩ (.string (strB (g 12)))).setCell ⟨p, 13, none⟩ (.string (strB (g 13)))).setCell ⟨p, 14, none⟩ (.string (strB (g 14)))).setCell ⟨p, 15, none⟩ (.string (strB (g 15)))) = X ∧ AB X p g ∧ (∀ q : Nat, q ≠ p → X.heap[q]? = W.heap[q]?) ∧ (∀ (B : Nat) (a : World), Below B a W → B ≤ p → Below B a X) := by
  obtain ⟨X1, e1⟩ : ∃ X, W.setCell ⟨p, 0, none⟩ (.string (strB (g 0))) = X := ⟨_, rfl⟩
  have b1 : (W.setCell ⟨p, 0, none⟩ (.string (strB (g 0)))).heap[p]? = some (.cells #[.string (strB (g 0)), .string (strB (f 1)), .string (strB (f 2)), .string (strB (f 3)), .string (strB (f 4)), .string (strB (f 5)), .string (strB (f 6)), .string (strB (f 7)), .string (strB (f 8)), .string (strB (f 9)), .string (strB (f 10)), .string (strB (f 11)), .string (strB (f 12)), .string (strB (f 13)), .string (strB (f 14)), .string (strB (f 15))] 44 (0, 0)) := heap_setCell_same W p 0 #[.string (strB (f 0)), .string (strB (f 1)), .string (strB (f 2)), .string (strB (f 3)), .string (strB (f 4)), .string (strB (f 5)), .string (strB (f 6)), .string (strB (f 7)), .string (strB (f 8)), .string (strB (f 9)), .string (strB (f 10)), .string (strB (f 11)), .string (strB (f 12)), .string (strB (f 13)), .string (strB (f 14)), .string (strB (f 15))] 44 (.string (strB (g 0))) h.box
  rw [e1] at b1 ⊢
  have k1 : ∀ q : Nat, q ≠ p → X1.heap[q]? = W.heap[q]? := fun q hq => by rw [← e1]; exact Below.heap_setCell _ _ _ _ hq
  have l1 : ∀ (B : Nat) (a : World), Below B a W → B ≤ p → Below B a X1 := fun B a hb hp => by rw [← e1]; exact hb.setCell (p := ⟨p, 0, none⟩) hp _
  clear e1
  obtain ⟨X2, e2⟩ : ∃ X, X1.setCell ⟨p, 1, none⟩ (.string (strB (g 1))) = X := ⟨_, rfl⟩
  have b2 : (X1.setCell ⟨p, 1, none⟩ (.string (strB (g 1)))).heap[p]? = some (.cells #[.string (strB (g 0)), .string (strB (g 1)), .string (strB (f 2)), .string (strB (f 3)), .string (strB (f 4)), .string (strB (f 5)), .string (strB (f 6)), .string (strB (f 7)), .string (strB (f 8)), .string (strB (f 9)), .string (strB (f 10)), .string (strB (f 11)), .string (strB (f 12)), .string (strB (f 13)), .string (strB (f 14)), .string (strB (f 15))] 44 (0, 0)) := heap_setCell_same X1 p 1 #[.string (strB (g 0)), .string (strB (f 1)), .string (strB (f 2)), .string (strB (f 3)), .string (strB (f 4)), .string (strB (f 5)), .string (strB (f 6)), .string (strB (f 7)), .string (strB (f 8)), .string (strB (f 9)), .string (strB (f 10)), .string (strB (f 11)), .string (strB (f 12)), .string (strB (f 13)), .string (strB (f 14)), .string (strB (f 15))] 44 (.string (strB (g 1))) b1
  rw [e2] at b2 ⊢
  have k2 : ∀ q : Nat, q ≠ p → X2.heap[q]? = X1.heap[q]? := fun q hq => by rw [← e2]; exact Below.heap_setCell _ _ _ _ hq
  have l2 : ∀ (B : Nat) (a : World), Below B a X1 → B ≤ p → Below B a X2 := fun B a hb hp => by rw [← e2]; exact hb.setCell (p := ⟨p, 1, none⟩) hp _
  clear e2
  obtain ⟨X3, e3⟩ : ∃ X, X2.setCell ⟨p, 2, none⟩ (.string (strB (g 2))) = X := ⟨_, rfl⟩
  have b3 : (X2.setCell ⟨p, 2, none⟩ (.string (strB (g 2)))).heap[p]? = some (.cells #[.string (strB (g 0)), .string (strB (g 1)), .string (strB (g 2)), .string (strB (f 3)), .string (strB (f 4)), .string (strB (f 5)), .string (strB (f 6)), .string (strB (f 7)), .string (strB (f 8)), .string (strB (f 9)), .string (strB (f 10)), .string (strB (f 11)), .string (strB (f 12)), .string (strB (f 13)), .string (strB (f 14)), .string (strB (f 15))] 44 (0, 0)) := heap_setCell_same X2 p 2 #[.string (strB (g 0)), .string (strB (g 1)), .string (strB (f 2)), .string (strB (f 3)), .string (strB (f 4)), .string (strB (f 5)), .string (strB (f 6)), .string (strB (f 7)), .string (strB (f 8)), .string (strB (f 9)), .string (strB (f 10)), .string (strB (f 11)), .string (strB (f 12)), .string (strB (f 13)), .string (strB (f 14)), .string (strB (f 15))] 44 (.string (strB (g 2))) b2
  rw [e3] at b3 ⊢
  have k3 : ∀ q : Nat, q ≠ p → X3.heap[q]? = X2.heap[q]? := fun q hq => by rw [← e3]; exact Below.heap_setCell _ _ _ _ hq
  have l3 : ∀ (B : Nat) (a : World), Below B a X2 → B ≤ p → Below B a X3 := fun B a hb hp => by rw [← e3]; exact hb.setCell (p := ⟨p, 2, none⟩) hp _
  clear e3
  obtain ⟨X4, e4⟩ : ∃ X, X3.setCell ⟨p, 3, none⟩ (.string (strB (g 3))) = X := ⟨_, rfl⟩
  have b4 : (X3.setCell ⟨p, 3, none⟩ (.string (strB (g 3)))).heap[p]? = some (.cells #[.string (strB (g 0)), .string (strB (g 1)), .string (strB (g 2)), .string (strB (g 3)), .string (strB (f 4)), .string (strB (f 5)), .string (strB (f 6)), .string (strB (f 7)), .string (strB (f 8)), .string (strB (f 9)), .string (strB (f 10)), .string (strB (f 11)), .string (strB (f 12)), .string (strB (f 13)), .string (strB (f 14)), .string (strB (f 15))] 44 (0, 0)) := heap_setCell_same X3 p 3 #[.string (strB (g 0)), .string (strB (g 1)), .string (strB (g 2)), .string (strB (f 3)), .string (strB (f 4)), .string (strB (f 5)), .string (strB (f 6)), .string (strB (f 7)), .string (strB (f 8)), .string (strB (f 9)), .string (strB (f 10)), .string (strB (f 11)), .string (strB (f 12)), .string (strB (f 13)), .string (strB (f 14)), .string (strB (f 15))] 44 (.string (strB (g 3))) b3
  rw [e4] at b4 ⊢
  have k4 : ∀ q : Nat, q ≠ p → X4.heap[q]? = X3.heap[q]? := fun q hq => by rw [← e4]; exact Below.heap_setCell _ _ _ _ hq
  have l4 : ∀ (B : Nat) (a : World), Below B a X3 → B ≤ p → Below B a X4 := fun B a hb hp => by rw [← e4]; exact hb.setCell (p := ⟨p, 3, none⟩) hp _
  clear e4
  obtain ⟨X5, e5⟩ : ∃ X, X4.setCell ⟨p, 4, none⟩ (.string (strB (g 4))) = X := ⟨_, rfl⟩
  have b5 : (X4.setCell ⟨p, 4, none⟩ (.string (strB (g 4)))).heap[p]? = some (.cells #[.string (strB (g 0)), .string (strB (g 1)), .string (strB (g 2)), .string (strB (g 3)), .string (strB (g 4)), .string (strB (f 5)), .string (strB (f 6)), .string (strB (f 7)), .string (strB (f 8)), .string (strB (f 9)), .string (strB (f 10)), .string (strB (f 11)), .string (strB (f 12)), .string (strB (f 13)), .string (strB (f 14)), .string (strB (f 15))] 44 (0, 0)) := heap_setCell_same X4 p 4 #[.string (strB (g 0)), .string (strB (g 1)), .string (strB (g 2)), .string (strB (g 3)), .string (strB (f 4)), .string (strB (f 5)), .string (strB (f 6)), .string (strB (f 7)), .string (strB (f 8)), .string (strB (f 9)), .string (strB (f 10)), .string (strB (f 11)), .string (strB (f 12)), .string (strB (f 13)), .string (strB (f 14)), .string (strB (f 15))] 44 (.string (strB (g 4))) b4
  rw [e5] at b5 ⊢
  have k5 : ∀ q : Nat, q ≠ p → X5.heap[q]? = X4.heap[q]? := fun q hq => by rw [← e5]; exact Below.heap_setCell _ _ _ _ hq
  have l5 : ∀ (B : Nat) (a : World), Below B a X4 → B ≤ p → Below B a X5 := fun B a hb hp => by rw [← e5]; exact hb.setCell (p := ⟨p, 4, none⟩) hp _
  clear e5
  obtain ⟨X6, e6⟩ : ∃ X, X5.setCell ⟨p, 5, none⟩ (.string (strB (g 5))) = X := ⟨_, rfl⟩
  have b6 : (X5.setCell ⟨p, 5, none⟩ (.string (strB (g 5)))).heap[p]? = some (.cells #[.string (strB (g 0)), .string (strB (g 1)), .string (strB (g 2)), .string (strB (g 3)), .string (strB (g 4)), .string (strB (g 5)), .string (strB (f 6)), .string (strB (f 7)), .string (strB (f 8)), .string (strB (f 9)), .string (strB (f 10)), .string (strB (f 11)), .string (strB (f 12)), .string (strB (f 13)), .string (strB (f 14)), .string (strB (f 15))] 44 (0, 0)) := heap_setCell_same X5 p 5 #[.string (strB (g 0)), .string (strB (g 1)), .string (strB (g 2)), .string (strB (g 3)), .string (strB (g 4)), .string (strB (f 5)), .string (strB (f 6)), .string (strB (f 7)), .string (strB (f 8)), .string (strB (f 9)), .string (strB (f 10)), .string (strB (f 11)), .string (strB (f 12)), .string (strB (f 13)), .string (strB (f 14)), .string (strB (f 15))] 44 (.string (strB (g 5))) b5
  rw [e6] at b6 ⊢
  have k6 : ∀ q : Nat, q ≠ p → X6.heap[q]? = X5.heap[q]? := fun q hq => by rw [← e6]; exact Below.heap_setCell _ _ _ _ hq
  have l6 : ∀ (B : Nat) (a : World), Below B a X5 → B ≤ p → Below B a X6 := fun B a hb hp => by rw [← e6]; exact hb.setCell (p := ⟨p, 5, none⟩) hp _
  clear e6
  obtain ⟨X7, e7⟩ : ∃ X, X6.setCell ⟨p, 6, none⟩ (.string (strB (g 6))) = X := ⟨_, rfl⟩
  have b7 : (X6.setCell ⟨p, 6, none⟩ (.string (strB (g 6)))).heap[p]? = some (.cells #[.string (strB (g 0)), .string (strB (g 1)), .string (strB (g 2)), .string (strB (g 3)), .string (strB (g 4)), .string (strB (g 5)), .string (strB (g 6)), .string (strB (f 7)), .string (strB (f 8)), .string (strB (f 9)), .string (strB (f 10)), .string (strB (f 11)), .string (strB (f 12)), .string (strB (f 13)), .string (strB (f 14)), .string (strB (f 15))] 44 (0, 0)) := heap_setCell_same X6 p 6 #[.string (strB (g 0)), .string (strB (g 1)), .string (strB (g 2)), .string (strB (g 3)), .string (strB (g 4)), .string (strB (g 5)), .string (strB (f 6)), .string (strB (f 7)), .string (strB (f 8)), .string (strB (f 9)), .string (strB (f 10)), .string (strB (f 11)), .string (strB (f 12)), .string (strB (f 13)), .string (strB (f 14)), .string (strB (f 15))] 44 (.string (strB (g 6))) b6
  rw [e7] at b7 ⊢
  have k7 : ∀ q : Nat, q ≠ p → X7.heap[q]? = X6.heap[q]? := fun q hq => by rw [← e7]; exact Below.heap_setCell _ _ _ _ hq
  have l7 : ∀ (B : Nat) (a : World), Below B a X6 → B ≤ p → Below B a X7 := fun B a hb hp => by rw [← e7]; exact hb.setCell (p := ⟨p, 6, none⟩) hp _
  clear e7
  obtain ⟨X8, e8⟩ : ∃ X, X7.setCell ⟨p, 7, none⟩ (.string (strB (g 7))) = X := ⟨_, rfl⟩
  have b8 : (X7.setCell ⟨p, 7, none⟩ (.string (strB (g 7)))).heap[p]? = some (.cells #[.string (strB (g 0)), .string (strB (g 1)), .string (strB (g 2)), .string (strB (g 3)), .string (strB (g 4)), .string (strB (g 5)), .string (strB (g 6)), .string (strB (g 7)), .string (strB (f 8)), .string (strB (f 9)), .string (strB (f 10)), .string (strB (f 11)), .string (strB (f 12)), .string (strB (f 13)), .string (strB (f 14)), .string (strB (f 15))] 44 (0, 0)) := heap_setCell_same X7 p 7 #[.string (strB (g 0)), .string (strB (g 1)), .string (strB (g 2)), .string (strB (g 3)), .string (strB (g 4)), .string (strB (g 5)), .string (strB (g 6)), .string (strB (f 7)), .string (strB (f 8)), .string (strB (f 9)), .string (strB (f 10)), .string (strB (f 11)), .string (strB (f 12)), .string (strB (f 13)), .string (strB (f 14)), .string (strB (f 15))] 44 (.string (strB (g 7))) b7
  rw [e8] at b8 ⊢
  have k8 : ∀ q : Nat, q ≠ p → X8.heap[q]? = X7.heap[q]? := fun q hq => by rw [← e8]; exact Below.heap_setCell _ _ _ _ hq
  have l8 : ∀ (B : Nat) (a : World), Below B a X7 → B ≤ p → Below B a X8 := fun B a hb hp => by rw [← e8]; exact hb.setCell (p := ⟨p, 7, none⟩) hp _
  clear e8
  obtain ⟨X9, e9⟩ : ∃ X, X8.setCell ⟨p, 8, none⟩ (.string (strB (g 8))) = X := ⟨_, rfl⟩
  have b9 : (X8.setCell ⟨p, 8, none⟩ (.string (strB (g 8)))).heap[p]? = some (.cells #[.string (strB (g 0)), .string (strB (g 1)), .string (strB (g 2)), .string (strB (g 3)), .string (strB (g 4)), .string (strB (g 5)), .string (strB (g 6)), .string (strB (g 7)), .string (strB (g 8)), .string (strB (f 9)), .string (strB (f 10)), .string (strB (f 11)), .string (strB (f 12)), .string (strB (f 13)), .string (strB (f 14)), .string (strB (f 15))] 44 (0, 0)) := heap_setCell_same X8 p 8 #[.string (strB (g 0)), .string (strB (g 1)), .string (strB (g 2)), .string (strB (g 3)), .string (strB (g 4)), .string (strB (g 5)), .string (strB (g 6)), .string (strB (g 7)), .string (strB (f 8)), .string (strB (f 9)), .string (strB (f 10)), .string (strB (f 11)), .string (strB (f 12)), .string (strB (f 13)), .string (strB (f 14)), .string (strB (f 15))] 44 (.string (strB (g 8))) b8
  rw [e9] at b9 ⊢
  have k9 : ∀ q : Nat, q ≠ p → X9.heap[q]? = X8.heap[q]? := fun q hq => by rw [← e9]; exact Below.heap_setCell _ _ _ _ hq
  have l9 : ∀ (B : Nat) (a : World), Below B a X8 → B ≤ p → Below B a X9 := fun B a hb hp => by rw [← e9]; exact hb.setCell (p := ⟨p, 8, none⟩) hp _
  clear e9
  obtain ⟨X10, e10⟩ : ∃ X, X9.setCell ⟨p, 9, none⟩ (.string (strB (g 9))) = X := ⟨_, rfl⟩
  have b10 : (X9.setCell ⟨p, 9, none⟩ (.string (strB (g 9)))).heap[p]? = some (.cells #[.string (strB (g 0)), .string (strB (g 1)), .string (strB (g 2)), .string (strB (g 3)), .string (strB (g 4)), .string (strB (g 5)), .string (strB (g 6)), .string (strB (g 7)), .string (strB (g 8)), .string (strB (g 9)), .string (strB (f 10)), .string (strB (f 11)), .string (strB (f 12)), .string (strB (f 13)), .string (strB (f 14)), .string (strB (f 15))] 44 (0, 0)) := heap_setCell_same X9 p 9 #[.string (strB (g 0)), .string (strB (g 1)), .string (strB (g 2)), .string (strB (g 3)), .string (strB (g 4)), .string (strB (g 5)), .string (strB (g 6)), .string (strB (g 7)), .string (strB (g 8)), .string (strB (f 9)), .string (strB (f 10)), .string (strB (f 11)), .string (strB (f 12)), .string (strB (f 13)), .string (strB (f 14)), .string (strB (f 15))] 44 (.string (strB (g 9))) b9
  rw [e10] at b10 ⊢
  have k10 : ∀ q : Nat, q ≠ p → X10.heap[q]? = X9.heap[q]? := fun q hq => by rw [← e10]; exact Below.heap_setCell _ _ _ _ hq
  have l10 : ∀ (B : Nat) (a : World), Below B a X9 → B ≤ p → Below B a X10 := fun B a hb hp => by rw [← e10]; exact hb.setCell (p := ⟨p, 9, none⟩) hp _
  clear e10
  obtain ⟨X11, e11⟩ : ∃ X, X10.setCell ⟨p, 10, none⟩ (.string (strB (g 10))) = X := ⟨_, rfl⟩
  have b11 : (X10.setCell ⟨p, 10, none⟩ (.string (strB (g 10)))).heap[p]? = some (.cells #[.string (strB (g 0)), .string (strB (g 1)), .string (strB (g 2)), .string (strB (g 3)), .string (strB (g 4)), .string (strB (g 5)), .string (strB (g 6)), .string (strB (g 7)), .string (strB (g 8)), .string (strB (g 9)), .string (strB (g 10)), .string (strB (f 11)), .string (strB (f 12)), .string (strB (f 13)), .string (strB (f 14)), .string (strB (f 15))] 44 (0, 0)) := heap_setCell_same X10 p 10 #[.string (strB (g 0)), .string (strB (g 1)), .string (strB (g 2)), .string (strB (g 3)), .string (strB (g 4)), .string (strB (g 5)), .string (strB (g 6)), .string (strB (g 7)), .string (strB (g 8)), .string (strB (g 9)), .string (strB (f 10)), .string (strB (f 11)), .string (strB (f 12)), .string (strB (f 13)), .string (strB (f 14)), .string (strB (f 15))] 44 (.string (strB (g 10))) b10
  rw [e11] at b11 ⊢
  have k11 : ∀ q : Nat, q ≠ p → X11.heap[q]? = X10.heap[q]? := fun q hq => by rw [← e11]; exact Below.heap_setCell _ _ _ _ hq
  have l11 : ∀ (B : Nat) (a : World), Below B a X10 → B ≤ p → Below B a X11 := fun B a hb hp => by rw [← e11]; exact hb.setCell (p := ⟨p, 10, none⟩) hp _
  clear e11
  obtain ⟨X12, e12⟩ : ∃ X, X11.setCell ⟨p, 11, none⟩ (.string (strB (g 11))) = X := ⟨_, rfl⟩
  have b12 : (X11.setCell ⟨p, 11, none⟩ (.string (strB (g 11)))).heap[p]? = some (.cells #[.string (strB (g 0)), .string (strB (g 1)), .string (strB (g 2)), .string (strB (g 3)), .string (strB (g 4)), .string (strB (g 5)), .string (strB (g 6)), .string (strB (g 7)), .string (strB (g 8)), .string (strB (g 9)), .string (strB (g 10)), .string (strB (g 11)), .string (strB (f 12)), .string (strB (f 13)), .string (strB (f 14)), .string (strB (f 15))] 44 (0, 0)) := heap_setCell_same X11 p 11 #[.string (strB (g 0)), .string (strB (g 1)), .string (strB (g 2)), .string (strB (g 3)), .string (strB (g 4)), .string (strB (g 5)), .string (strB (g 6)), .string (strB (g 7)), .string (strB (g 8)), .string (strB (g 9)), .string (strB (g 10)), .string (strB (f 11)), .string (strB (f 12)), .string (strB (f 13)), .string (strB (f 14)), .string (strB (f 15))] 44 (.string (strB (g 11))) b11
  rw [e12] at b12 ⊢
  have k12 : ∀ q : Nat, q ≠ p → X12.heap[q]? = X11.heap[q]? := fun q hq => by rw [← e12]; exact Below.heap_setCell _ _ _ _ hq
  have l12 : ∀ (B : Nat) (a : World), Below B a X11 → B ≤ p → Below B a X12 := fun B a hb hp => by rw [← e12]; exact hb.setCell (p := ⟨p, 11, none⟩) hp _
  clear e12
  obtain ⟨X13, e13⟩ : ∃ X, X12.setCell ⟨p, 12, none⟩ (.string (strB (g 12))) = X := ⟨_, rfl⟩
  have b13 : (X12.setCell ⟨p, 12, none⟩ (.string (strB (g 12)))).heap[p]? = some (.cells #[.string (strB (g 0)), .string (strB (g 1)), .string (strB (g 2)), .string (strB (g 3)), .string (strB (g 4)), .string (strB (g 5)), .string (strB (g 6)), .string (strB (g 7)), .string (strB (g 8)), .string (strB (g 9)), .string (strB (g 10)), .string (strB (g 11)), .string (strB (g 12)), .string (strB (f 13)), .string (strB (f 14)), .string (strB (f 15))] 44 (0, 0)) := heap_setCell_same X12 p 12 #[.string (strB (g 0)), .string (strB (g 1)), .string (strB (g 2)), .string (strB (g 3)), .string (strB (g 4)), .string (strB (g 5)), .string (strB (g 6)), .string (strB (g 7)), .string (strB (g 8)), .string (strB (g 9)), .string (strB (g 10)), .string (strB (g 11)), .string (strB (f 12)), .string (strB (f 13)), .string (strB (f 14)), .string (strB (f 15))] 44 (.string (strB (g 12))) b12
  rw [e13] at b13 ⊢
  have k13 : ∀ q : Nat, q ≠ p → X13.heap[q]? = X12.heap[q]? := fun q hq => by rw [← e13]; exact Below.heap_setCell _ _ _ _ hq
  have l13 : ∀ (B : Nat) (a : World), Below B a X12 → B ≤ p → Below B a X13 := fun B a hb hp => by rw [← e13]; exact hb.setCell (p := ⟨p, 12, none⟩) hp _
  clear e13
  obtain ⟨X14, e14⟩ : ∃ X, X13.setCell ⟨p, 13, none⟩ (.string (strB (g 13))) = X := ⟨_, rfl⟩
  have b14 : (X13.setCell ⟨p, 13, none⟩ (.string (strB (g 13)))).heap[p]? = some (.cells #[.string (strB (g 0)), .string (strB (g 1)), .string (strB (g 2)), .string (strB (g 3)), .string (strB (g 4)), .string (strB (g 5)), .string (strB (g 6)), .string (strB (g 7)), .string (strB (g 8)), .string (strB (g 9)), .string (strB (g 10)), .string (strB (g 11)), .string (strB (g 12)), .string (strB (g 13)), .string (strB (f 14)), .string (strB (f 15))] 44 (0, 0)) := heap_setCell_same X13 p 13 #[.string (strB (g 0)), .string (strB (g 1)), .string (strB (g 2)), .string (strB (g 3)), .string (strB (g 4)), .string (strB (g 5)), .string (strB (g 6)), .string (strB (g 7)), .string (strB (g 8)), .string (strB (g 9)), .string (strB (g 10)), .string (strB (g 11)), .string (strB (g 12)), .string (strB (f 13)), .string (strB (f 14)), .string (strB (f 15))] 44 (.string (strB (g 13))) b13
  rw [e14] at b14 ⊢
  have k14 : ∀ q : Nat, q ≠ p → X14.heap[q]? = X13.heap[q]? := fun q hq => by rw [← e14]; exact Below.heap_setCell _ _ _ _ hq
  have l14 : ∀ (B : Nat) (a : World), Below B a X13 → B ≤ p → Below B a X14 := fun B a hb hp => by rw [← e14]; exact hb.setCell (p := ⟨p, 13, none⟩) hp _
  clear e14
  obtain ⟨X15, e15⟩ : ∃ X, X14.setCell ⟨p, 14, none⟩ (.string (strB (g 14))) = X := ⟨_, rfl⟩
  have b15 : (X14.setCell ⟨p, 14, none⟩ (.string (strB (g 14)))).heap[p]? = some (.cells #[.string (strB (g 0)), .string (strB (g 1)), .string (strB (g 2)), .string (strB (g 3)), .string (strB (g 4)), .string (strB (g 5)), .string (strB (g 6)), .string (strB (g 7)), .string (strB (g 8)), .string (strB (g 9)), .string (strB (g 10)), .string (strB (g 11)), .string (strB (g 12)), .string (strB (g 13)), .string (strB (g 14)), .string (strB (f 15))] 44 (0, 0)) := heap_setCell_same X14 p 14 #[.string (strB (g 0)), .string (strB (g 1)), .string (strB (g 2)), .string (strB (g 3)), .string (strB (g 4)), .string (strB (g 5)), .string (strB (g 6)), .string (strB (g 7)), .string (strB (g 8)), .string (strB (g 9)), .string (strB (g 10)), .string (strB (g 11)), .string (strB (g 12)), .string (strB (g 13)), .string (strB (f 14)), .string (strB (f 15))] 44 (.string (strB (g 14))) b14
  rw [e15] at b15 ⊢
  have k15 : ∀ q : Nat, q ≠ p → X15.heap[q]? = X14.heap[q]? := fun q hq => by rw [← e15]; exact Below.heap_setCell _ _ _ _ hq
  have l15 : ∀ (B : Nat) (a : World), Below B a X14 → B ≤ p → Below B a X15 := fun B a hb hp => by rw [← e15]; exact hb.setCell (p := ⟨p, 14, none⟩) hp _
  clear e15
  obtain ⟨X16, e16⟩ : ∃ X, X15.setCell ⟨p, 15, none⟩ (.string (strB (g 15))) = X := ⟨_, rfl⟩
  have b16 : (X15.setCell ⟨p, 15, none⟩ (.string (strB (g 15)))).heap[p]? = some (.cells #[.string (strB (g 0)), .string (strB (g 1)), .string (strB (g 2)), .string (strB (g 3)), .string (strB (g 4)), .string (strB (g 5)), .string (strB (g 6)), .string (strB (g 7)), .string (strB (g 8)), .string (strB (g 9)), .string (strB (g 10)), .string (strB (g 11)), .string (strB (g 12)), .string (strB (g 13)), .string (strB (g 14)), .string (strB (g 15))] 44 (0, 0)) := heap_setCell_same X15 p 15 #[.string (strB (g 0)), .string (strB (g 1)), .string (strB (g 2)), .string (strB (g 3)), .string (strB (g 4)), .string (strB (g 5)), .string (strB (g 6)), .string (strB (g 7)), .string (strB (g 8)), .string (strB (g 9)), .string (strB (g 10)), .string (strB (g 11)), .string (strB (g 12)), .string (strB (g 13)), .string (strB (g 14)), .string (strB (f 15))] 44 (.string (strB (g 15))) b15
  rw [e16] at b16 ⊢
  have k16 : ∀ q : Nat, q ≠ p → X16.heap[q]? = X15.heap[q]? := fun q hq => by rw [← e16]; exact Below.heap_setCell _ _ _ _ hq
  have l16 : ∀ (B : Nat) (a : World), Below B a X15 → B ≤ p → Below B a X16 := fun B a hb hp => by rw [← e16]; exact hb.setCell (p := ⟨p, 15, none⟩) hp _
  clear e16
  refine ⟨X16, rfl, ⟨b16⟩, fun q hq => ?_, fun B a hb hp => ?_⟩
  · rw [k16 q hq, k15 q hq, k14 q hq, k13 q hq, k12 q hq, k11 q hq, k10 q hq, k9 q hq, k8 q hq, k7 q hq, k6 q hq, k5 q hq, k4 q hq, k3 q hq, k2 q hq, k1 q hq]
  · exact (l16 B a (l15 B a (l14 B a (l13 B a (l12 B a (l11 B a (l10 B a (l9 B a (l8 B a (l7 B a (l6 B a (l5 B a (l4 B a (l3 B a (l2 B a (l1 B a hb hp) hp) hp) hp) hp) hp) hp) hp) hp) hp) hp) hp) hp) hp) hp) hp)
end

theorem IsVault.apart {w w' : World} {v : Value} {k : VK} (h : IsVault w v k) {g : Nat} {cur : Array Value} {fr : Nat × Nat} (hg : w.heap[g]? = some (.cells cur 44 fr)) (hk : ∀ b : Nat, b ≠ g → w'.heap[b]? = w.heap[b]?) : IsVault w' v k := by
  obtain ⟨vs, vw, vd, e, h1, h2⟩ := h
  exact ⟨vs, vw, vd, e, h1.other hg (by decide) (by decide) hk, SL.other h2 hg (by decide) hk⟩
theorem VH.apart {b W X : World} {g p : Nat} {v0 v1 v7 : Value} {k : VK} {f : Nat → List UInt8} (h : VH b W g v0 v1 v7 k) (a : AB W p f) (hne : g ≠ p) (hk : ∀ q : Nat, q ≠ p → X.heap[q]? = W.heap[q]?) (hb : ∀ (B : Nat) (a : World), Below B a W → B ≤ p → Below B a X) (hp : b.heap.size ≤ p) : VH b X g v0 v1 v7 k :=
  ⟨h.box.keep (hk _ hne), h.val.apart a.box hk, hb _ _ h.below hp, h.far⟩

/-- The boxes of VaultKeeps: the vault's, and what is there now, surely, maybe. -/
structure KB (b W : World) (G P : Nat) (v0 v1 v7 : Value) (k : VK) (f g h : Nat → List UInt8) : Prop where
  v : VH b W G v0 v1 v7 k
  n : AB W P f
  s : AB W (P + 1) g
  y : AB W (P + 2) h
  lo : G < P
section
variable {b W W' X : World} {G P Q : Nat} {v0 v1 v7 u0 u1 u7 : Value} {k k' : VK} {f g h f' : Nat → List UInt8}
theorem KB.more (c : KB b W G P v0 v1 v7 k f g h) (hb : Below W.heap.size W W') : KB b W' G P v0 v1 v7 k f g h := ⟨c.v.more hb, c.n.below hb, c.s.below hb, c.y.below hb, c.lo⟩
theorem KB.base (c : KB b W G P v0 v1 v7 k f g h) : b.heap.size ≤ G ∧ G < P ∧ P + 2 < W.heap.size := ⟨c.v.far, c.lo, c.y.lt⟩
theorem KB.fill0 (c : KB b W G P v0 v1 v7 k f g h) (a : AB X P f') (hk : ∀ q : Nat, q ≠ P → X.heap[q]? = W.heap[q]?) (hb : ∀ (B : Nat) (a : World), Below B a W → B ≤ P → Below B a X) : KB b X G P v0 v1 v7 k f' g h :=
  ⟨c.v.apart c.n (by have := c.lo; omega) hk hb (by have := c.base; omega), a, c.s.keep (hk _ (by omega)), c.y.keep (hk _ (by omega)), c.lo⟩
theorem KB.fill1 (c : KB b W G P v0 v1 v7 k f g h) (a : AB X (P + 1) f') (hk : ∀ q : Nat, q ≠ P + 1 → X.heap[q]? = W.heap[q]?) (hb : ∀ (B : Nat) (a : World), Below B a W → B ≤ P + 1 → Below B a X) : KB b X G P v0 v1 v7 k f f' h :=
  ⟨c.v.apart c.s (by have := c.lo; omega) hk hb (by have := c.base; omega), c.n.keep (hk _ (by omega)), a, c.y.keep (hk _ (by omega)), c.lo⟩
theorem KB.fill2 (c : KB b W G P v0 v1 v7 k f g h) (a : AB X (P + 2) f') (hk : ∀ q : Nat, q ≠ P + 2 → X.heap[q]? = W.heap[q]?) (hb : ∀ (B : Nat) (a : World), Below B a W → B ≤ P + 2 → Below B a X) : KB b X G P v0 v1 v7 k f g f' :=
  ⟨c.v.apart c.y (by have := c.lo; omega) hk hb (by have := c.base; omega), c.n.keep (hk _ (by omega)), c.s.keep (hk _ (by omega)), a, c.lo⟩
/-- Another vault is stored into its box. -/
theorem KB.put (c : KB b W G P v0 v1 v7 k f g h) (hv : VH b X G u0 u1 u7 k') (hk : ∀ q : Nat, q ≠ G → X.heap[q]? = W.heap[q]?) : KB b X G P u0 u1 u7 k' f g h :=
  ⟨hv, c.n.keep (hk _ (by have := c.lo; omega)), c.s.keep (hk _ (by have := c.lo; omega)), c.y.keep (hk _ (by have := c.lo; omega)), c.lo⟩
end

end Go.Proofs.YtnbbijpmkhdgpaaGreat.Vlt

/- LKRound -/
namespace Go.Proofs.YtnbbijpmkhdgpaaGreat.Vlt
open Go.RowKit Go.Sort
open Dsk

/-- The boxes of a round behind its deed: the deed's and the new vault's besides. -/
structure KX (b W : World) (G P H Q : Nat) (v0 v1 v7 : Value) (k : VK) (f g h : Nat → List UInt8) (a : AK) (u0 u1 u7 : Value) (k2 : VK) : Prop where
  c : KB b W G P v0 v1 v7 k f g h
  act : W.heap[H]? = some (.cells #[.int .i64 a.kind, .int .i64 a.place, .string a.data, .int .u64 a.stay] 42 (0, 0))
  x : VH b W Q u0 u1 u7 k2
  hi : P + 2 < H
  hj : H < Q
section
variable {b W W' X : World} {G P H Q : Nat} {v0 v1 v7 u0 u1 u7 : Value} {k k2 : VK} {f g h f' g' h' : Nat → List UInt8} {a : AK}
theorem KX.more (c : KX b W G P H Q v0 v1 v7 k f g h a u0 u1 u7 k2) (hb : Below W.heap.size W W') : KX b W' G P H Q v0 v1 v7 k f g h a u0 u1 u7 k2 := ⟨c.c.more hb, box_kept _ c.act hb, c.x.more hb, c.hi, c.hj⟩
theorem KX.fill0 (c : KX b W G P H Q v0 v1 v7 k f g h a u0 u1 u7 k2) (t : AB X P f') (hk : ∀ q : Nat, q ≠ P → X.heap[q]? = W.heap[q]?) (hb : ∀ (B : Nat) (a : World), Below B a W → B ≤ P → Below B a X) : KX b X G P H Q v0 v1 v7 k f' g h a u0 u1 u7 k2 :=
  ⟨c.c.fill0 t hk hb, (hk _ (by have := c.hi; omega)).trans c.act, c.x.apart c.c.n (by have := c.hi; have := c.hj; omega) hk hb (by have := c.c.base; omega), c.hi, c.hj⟩
theorem KX.fill1 (c : KX b W G P H Q v0 v1 v7 k f g h a u0 u1 u7 k2) (t : AB X (P + 1) f') (hk : ∀ q : Nat, q ≠ P + 1 → X.heap[q]? = W.heap[q]?) (hb : ∀ (B : Nat) (a : World), Below B a W → B ≤ P + 1 → Below B a X) : KX b X G P H Q v0 v1 v7 k f f' h a u0 u1 u7 k2 :=
  ⟨c.c.fill1 t hk hb, (hk _ (by have := c.hi; omega)).trans c.act, c.x.apart c.c.s (by have := c.hi; have := c.hj; omega) hk hb (by have := c.c.base; omega), c.hi, c.hj⟩
theorem KX.fill2 (c : KX b W G P H Q v0 v1 v7 k f g h a u0 u1 u7 k2) (t : AB X (P + 2) f') (hk : ∀ q : Nat, q ≠ P + 2 → X.heap[q]? = W.heap[q]?) (hb : ∀ (B : Nat) (a : World), Below B a W → B ≤ P + 2 → Below B a X) : KX b X G P H Q v0 v1 v7 k f g f' a u0 u1 u7 k2 :=
  ⟨c.c.fill2 t hk hb, (hk _ (by have := c.hi; omega)).trans c.act, c.x.apart c.c.y (by have := c.hi; have := c.hj; omega) hk hb (by have := c.c.base; omega), c.hi, c.hj⟩
/-- The store of a whole array, by its place; the world behind it under a name. -/
theorem KX.put0 (c : KX b W G P H Q v0 v1 v7 k f g h a u0 u1 u7 k2) (f' : Nat → List UInt8) : ∃ X, ((((((((((((((((W.setCell ⟨P, 0, none⟩ (.string (strB (f' 0)))).setCell ⟨P, 1, none⟩ (.string (strB (f' 1)))).setCell ⟨P, 2, none⟩ (.string (strB (f' 2)))).setCell ⟨P, 3, none⟩ (.string (strB (f' 3)))).setCell ⟨P, 4, none⟩ (.string (strB (f' 4)))).setCell ⟨P, 5, none⟩ (.string (strB (f' 5)))).setCell ⟨P, 6, none⟩ (.string (strB (f' 6)))).setCell ⟨P, 7, none⟩ (.string (strB (f' 7)))).setCell ⟨P, 8, none⟩ (.string (strB (f' 8)))).setCell ⟨P, 9, none⟩ (.string (strB (f' 9)))).setCell ⟨P, 10, none⟩ (.string (strB (f' 10)))).setCell ⟨P, 11, none⟩ (.string (strB (f' 11)))).setCell ⟨P, 12, none⟩ (.string (strB (f' 12)))).setCell ⟨P, 13, none⟩ (.string (strB (f' 13)))).setCell ⟨P, 14, none⟩ (.string (strB (f' 14)))).setCell ⟨P, 15, none⟩ (.string (strB (f' 15)))) = X ∧ KX b X G P H Q v0 v1 v7 k f' g h a u0 u1 u7 k2 := by
  obtain ⟨X, e, t, hk, hb⟩ := c.c.n.fill f'
  exact ⟨X, e, c.fill0 t hk hb⟩
theorem KX.put1 (c : KX b W G P H Q v0 v1 v7 k f g h a u0 u1 u7 k2) (f' : Nat → List UInt8) : ∃ X, ((((((((((((((((W.setCell ⟨P + 1, 0, none⟩ (.string (strB (f' 0)))).setCell ⟨P + 1, 1, none⟩ (.string (strB (f' 1)))).setCell ⟨P + 1, 2, none⟩ (.string (strB (f' 2)))).setCell ⟨P + 1, 3, none⟩ (.string (strB (f' 3)))).setCell ⟨P + 1, 4, none⟩ (.string (strB (f' 4)))).setCell ⟨P + 1, 5, none⟩ (.string (strB (f' 5)))).setCell ⟨P + 1, 6, none⟩ (.string (strB (f' 6)))).setCell ⟨P + 1, 7, none⟩ (.string (strB (f' 7)))).setCell ⟨P + 1, 8, none⟩ (.string (strB (f' 8)))).setCell ⟨P + 1, 9, none⟩ (.string (strB (f' 9)))).setCell ⟨P + 1, 10, none⟩ (.string (strB (f' 10)))).setCell ⟨P + 1, 11, none⟩ (.string (strB (f' 11)))).setCell ⟨P + 1, 12, none⟩ (.string (strB (f' 12)))).setCell ⟨P + 1, 13, none⟩ (.string (strB (f' 13)))).setCell ⟨P + 1, 14, none⟩ (.string (strB (f' 14)))).setCell ⟨P + 1, 15, none⟩ (.string (strB (f' 15)))) = X ∧ KX b X G P H Q v0 v1 v7 k f f' h a u0 u1 u7 k2 := by
  obtain ⟨X, e, t, hk, hb⟩ := c.c.s.fill f'
  exact ⟨X, e, c.fill1 t hk hb⟩
theorem KX.put2 (c : KX b W G P H Q v0 v1 v7 k f g h a u0 u1 u7 k2) (f' : Nat → List UInt8) : ∃ X, ((((((((((((((((W.setCell ⟨P + 2, 0, none⟩ (.string (strB (f' 0)))).setCell ⟨P + 2, 1, none⟩ (.string (strB (f' 1)))).setCell ⟨P + 2, 2, none⟩ (.string (strB (f' 2)))).setCell ⟨P + 2, 3, none⟩ (.string (strB (f' 3)))).setCell ⟨P + 2, 4, none⟩ (.string (strB (f' 4)))).setCell ⟨P + 2, 5, none⟩ (.string (strB (f' 5)))).setCell ⟨P + 2, 6, none⟩ (.string (strB (f' 6)))).setCell ⟨P + 2, 7, none⟩ (.string (strB (f' 7)))).setCell ⟨P + 2, 8, none⟩ (.string (strB (f' 8)))).setCell ⟨P + 2, 9, none⟩ (.string (strB (f' 9)))).setCell ⟨P + 2, 10, none⟩ (.string (strB (f' 10)))).setCell ⟨P + 2, 11, none⟩ (.string (strB (f' 11)))).setCell ⟨P + 2, 12, none⟩ (.string (strB (f' 12)))).setCell ⟨P + 2, 13, none⟩ (.string (strB (f' 13)))).setCell ⟨P + 2, 14, none⟩ (.string (strB (f' 14)))).setCell ⟨P + 2, 15, none⟩ (.string (strB (f' 15)))) = X ∧ KX b X G P H Q v0 v1 v7 k f g f' a u0 u1 u7 k2 := by
  obtain ⟨X, e, t, hk, hb⟩ := c.c.y.fill f'
  exact ⟨X, e, c.fill2 t hk hb⟩
theorem KX.over {T : Nat} {fg : Nat → List UInt8} (c : KX b W G P H Q v0 v1 v7 k f g h a u0 u1 u7 k2) (t : AB W T fg) (hT : Q < T) (hk : ∀ q : Nat, q ≠ T → X.heap[q]? = W.heap[q]?) (hb : ∀ (B : Nat) (a : World), Below B a W → B ≤ T → Below B a X) : KX b X G P H Q v0 v1 v7 k f g h a u0 u1 u7 k2 := by
  have h1 := c.hi
  have h2 := c.hj
  have h3 := c.c.base
  exact ⟨⟨c.c.v.apart t (by omega) hk hb (by omega), c.c.n.keep (hk _ (by omega)), c.c.s.keep (hk _ (by omega)), c.c.y.keep (hk _ (by omega)), c.c.lo⟩, (hk _ (by omega)).trans c.act, c.x.apart t (by omega) hk hb (by omega), c.hi, c.hj⟩
/-- A string is stored into an array of the round's own. -/
theorem KX.got {T : Nat} {fg : Nat → List UInt8} (c : KX b W G P H Q v0 v1 v7 k f g h a u0 u1 u7 k2) (t : AB W T fg) (hT : Q < T) {n : Nat} (hn : n < 16) (s : List UInt8) : ∃ X, W.setCell ⟨T, n, none⟩ (.string (strB s)) = X ∧ KX b X G P H Q v0 v1 v7 k f g h a u0 u1 u7 k2 ∧ AB X T (fun j => if j = n then s else fg j) := by
  obtain ⟨X, e, t2, hk, hb⟩ := t.set hn s
  exact ⟨X, e, c.over t hT hk hb, t2⟩
theorem KX.actc (c : KX b W G P H Q v0 v1 v7 k f g h a u0 u1 u7 k2) : W.cell? ⟨H, 1, none⟩ = some (.int .i64 a.place) ∧ W.cell? ⟨H, 2, none⟩ = some (.string a.data) := ⟨(box4 c.act).1.2.1, (box4 c.act).1.2.2.1⟩
theorem KX.set0 (c : KX b W G P H Q v0 v1 v7 k f g h a u0 u1 u7 k2) {n : Nat} (hn : n < 16) (s : List UInt8) : ∃ X, W.setCell ⟨P, n, none⟩ (.string (strB s)) = X ∧ KX b X G P H Q v0 v1 v7 k (fun j => if j = n then s else f j) g h a u0 u1 u7 k2 := by
  obtain ⟨X, e, t, hk, hb⟩ := c.c.n.set hn s
  exact ⟨X, e, c.fill0 t hk hb⟩
end

section
variable {b W W' X : World} {G P : Nat} {v0 v1 v7 : Value} {k : VK} {f g h f' : Nat → List UInt8}
/-- The vault's pages are forgotten. -/
theorem KB.set7 (c : KB b W G P v0 v1 v7 k f g h) : ∃ X, W.setCell ⟨G, 7, none⟩ (.slice none 0 0) = X ∧ KB b X G P v0 v1 (.slice none 0 0) { k with dirty := [] } f g h := by
  have hk : ∀ q : Nat, q ≠ G → (W.setCell ⟨G, 7, none⟩ (.slice none 0 0)).heap[q]? = W.heap[q]? := fun q hq => Below.heap_setCell _ _ _ _ hq
  obtain ⟨h1, h2⟩ := vault_open c.v.val
  exact ⟨_, rfl, c.put ⟨heap_setCell_same W G 7 _ 33 _ c.v.box, ⟨_, _, _, rfl, h1.other c.v.box (by decide) (by decide) hk, IsLfs.nil _⟩, c.v.below.setCell (p := ⟨G, 7, none⟩) c.v.far _, c.v.far⟩ hk⟩
theorem KB.put0 (c : KB b W G P v0 v1 v7 k f g h) (f' : Nat → List UInt8) : ∃ X, ((((((((((((((((W.setCell ⟨P, 0, none⟩ (.string (strB (f' 0)))).setCell ⟨P, 1, none⟩ (.string (strB (f' 1)))).setCell ⟨P, 2, none⟩ (.string (strB (f' 2)))).setCell ⟨P, 3, none⟩ (.string (strB (f' 3)))).setCell ⟨P, 4, none⟩ (.string (strB (f' 4)))).setCell ⟨P, 5, none⟩ (.string (strB (f' 5)))).setCell ⟨P, 6, none⟩ (.string (strB (f' 6)))).setCell ⟨P, 7, none⟩ (.string (strB (f' 7)))).setCell ⟨P, 8, none⟩ (.string (strB (f' 8)))).setCell ⟨P, 9, none⟩ (.string (strB (f' 9)))).setCell ⟨P, 10, none⟩ (.string (strB (f' 10)))).setCell ⟨P, 11, none⟩ (.string (strB (f' 11)))).setCell ⟨P, 12, none⟩ (.string (strB (f' 12)))).setCell ⟨P, 13, none⟩ (.string (strB (f' 13)))).setCell ⟨P, 14, none⟩ (.string (strB (f' 14)))).setCell ⟨P, 15, none⟩ (.string (strB (f' 15)))) = X ∧ KB b X G P v0 v1 v7 k f' g h := by
  obtain ⟨X, e, t, hk, hb⟩ := c.n.fill f'
  exact ⟨X, e, c.fill0 t hk hb⟩
theorem KB.set3 (c : KB b W G P v0 v1 v7 k f g h) {n : Nat} (hn : n < 16) (s : List UInt8) :
    ∃ X, ((W.setCell ⟨P, n, none⟩ (.string (strB s))).setCell ⟨P + 1, n, none⟩ (.string (strB s))).setCell ⟨P + 2, n, none⟩ (.string (strB s)) = X ∧ KB b X G P v0 v1 v7 k (fun j => if j = n then s else f j) (fun j => if j = n then s else g j) (fun j => if j = n then s else h j) := by
  obtain ⟨X1, e1, t1, k1, b1⟩ := c.n.set hn s
  have c1 := c.fill0 t1 k1 b1
  obtain ⟨X2, e2, t2, k2, b2⟩ := c1.s.set hn s
  have c2 := c1.fill1 t2 k2 b2
  obtain ⟨X3, e3, t3, k3, b3⟩ := c2.y.set hn s
  exact ⟨X3, by rw [e1, e2, e3], c2.fill2 t3 k3 b3⟩
end

end Go.Proofs.YtnbbijpmkhdgpaaGreat.Vlt
