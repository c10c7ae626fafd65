/- Contracts and plain mathematics that the statement's proof wants: no statement is proved here, nothing is assumed. -/
import Derived.Test.YtgeiemccjionpaaGreatRows
import Derived.WalkKit
import Derived.WalkSpells
import Derived.WalkLawsBesides
import Derived.Lib.Hide
import Derived.Deep.AppendLies
import Derived.Deep.Draws
import Derived.Test.YtgeiemccjionpaaGreatMg06
/- DBase -/
namespace Go.Proofs.YtgeiemccjionpaaGreat.Dsk
open Go.RowKit

/-- The slice of n elements of 'size' cells each at A lies in a block of cells of type e, and holds the cells xs. -/
def Reads (w : World) (e : TypeId) (size : Nat) (A : Option Addr) (n : Nat) (xs : List Value) : Prop :=
  xs.length = n * size ∧ (0 < n → ∃ b off cur fr, A = some ⟨b, off, none⟩ ∧ w.heap[b]? = some (.cells cur e fr) ∧ ∀ (j : Nat) (u : Value), xs[j]? = some u → cur[off + j]? = some u)

section
variable {w w' : World} {e : TypeId} {size n : Nat} {A : Option Addr} {xs : List Value}
theorem Reads.none_ : Reads w e size A 0 [] := ⟨by simp, fun h => absurd h (by omega)⟩
theorem Reads.keep (h : Reads w e size A n xs) (hk : ∀ (b : Nat) (cur : Array Value) (fr : Nat × Nat), w.heap[b]? = some (Obj.cells cur e fr) → w'.heap[b]? = some (Obj.cells cur e fr)) : Reads w' e size A n xs :=
  ⟨h.1, fun hn => by
    obtain ⟨b, off, cur, fr, ea, hb, hc⟩ := h.2 hn
    exact ⟨b, off, cur, fr, ea, hk _ _ _ hb, hc⟩⟩
theorem Reads.at_ (h : Reads w e size A n xs) (hn : 0 < n) : ∃ b off, A = some ⟨b, off, none⟩ ∧ b < w.heap.size ∧ ∀ (j : Nat) (u : Value), xs[j]? = some u → w.cell? ⟨b, off + j, none⟩ = some u := by
  obtain ⟨b, off, cur, fr, ea, hb, hc⟩ := h.2 hn
  refine ⟨b, off, ea, (Array.getElem?_eq_some_iff.1 hb).1, fun j u hu => ?_⟩
  rw [cell_of_row w b _ _ _ _ hb]
  exact hc j u hu
theorem Reads.of_own {base : Nat} {c : Nat} (h : w.ownsRow base e size (.slice A n c) n xs) : Reads w e size A n xs := by
  refine ⟨h.1, fun hn => ?_⟩
  rcases h.2 with ⟨hv, h0⟩ | ⟨g, cap, cur, hv, _, hg, _, _, _, ht⟩
  · omega
  · injection hv with hA
    refine ⟨g, 0, cur, _, hA, hg, fun j u hj => ?_⟩
    rw [← ht, List.getElem?_take] at hj
    split at hj
    · rw [Nat.zero_add]; simpa using hj
    · cases hj
end

/-- The value v is a slice that reads as the cells xs, n elements of 'size' cells each, in a block of cells of type e. -/
def SL (w : World) (e : TypeId) (size : Nat) (v : Value) (n : Nat) (xs : List Value) : Prop :=
  ∃ A c, v = .slice A n c ∧ n ≤ c ∧ Reads w e size A n xs

section
variable {w w' : World} {e : TypeId} {size n : Nat} {v : Value} {xs : List Value}
theorem SL.keep (h : SL w e size v n xs) (hk : ∀ (b : Nat) (cur : Array Value) (fr : Nat × Nat), w.heap[b]? = some (Obj.cells cur e fr) → w'.heap[b]? = some (Obj.cells cur e fr)) : SL w' e size v n xs := by
  obtain ⟨A, c, ev, hc, hr⟩ := h
  exact ⟨A, c, ev, hc, hr.keep hk⟩
theorem SL.below (h : SL w e size v n xs) (hb : Below w.heap.size w w') : SL w' e size v n xs :=
  h.keep fun b _ _ hh => (hb.block b (Array.getElem?_eq_some_iff.1 hh).1).trans hh
/-- Stores into a block of another type leave it. -/
theorem SL.other (h : SL w e size v n xs) {g : Nat} {t : TypeId} {cur : Array Value} {fr : Nat × Nat} (hg : w.heap[g]? = some (.cells cur t fr)) (hne : t ≠ e) (hk : ∀ b : Nat, b ≠ g → w'.heap[b]? = w.heap[b]?) : SL w' e size v n xs :=
  h.keep fun b c' f' hh => (hk b (fun eq => by
    subst eq
    rw [hg] at hh
    injection hh with hh
    injection hh with _ h2
    exact hne h2)).trans hh
theorem SL.nil (w : World) (e : TypeId) (size : Nat) : SL w e size (.slice none 0 0) 0 [] := ⟨none, 0, rfl, Nat.le_refl _, Reads.none_⟩
theorem SL.of_own {base : Nat} (h : w.ownsRow base e size v n xs) : SL w e size v n xs := by
  rcases id h.2 with ⟨rfl, rfl⟩ | ⟨g, cap, cur, rfl, _, _, hn, _⟩
  · have : xs = [] := List.eq_nil_of_length_eq_zero (by simpa using h.1)
    subst this
    exact SL.nil w e size
  · exact ⟨_, cap, rfl, hn, Reads.of_own h⟩
end

/-- Four stores into one block leave every other one. -/
theorem store4_other (w : World) (g : Nat) (a b c d : Value) (k : Nat) (h : k ≠ g) :
    ((((w.setCell ⟨g, 0, none⟩ a).setCell ⟨g, 1, none⟩ b).setCell ⟨g, 2, none⟩ c).setCell ⟨g, 3, none⟩ d).heap[k]? = w.heap[k]? := by
  rw [Below.heap_setCell _ _ _ _ h, Below.heap_setCell _ _ _ _ h, Below.heap_setCell _ _ _ _ h, Below.heap_setCell _ _ _ _ h]

theorem below_store4 {B : Nat} {a w : World} (hb : Below B a w) (g : Nat) (hg : B ≤ g) (v0 v1 v2 v3 : Value) :
    Below B a ((((w.setCell ⟨g, 0, none⟩ v0).setCell ⟨g, 1, none⟩ v1).setCell ⟨g, 2, none⟩ v2).setCell ⟨g, 3, none⟩ v3) :=
  (((hb.setCell (p := ⟨g, 0, none⟩) hg _).setCell (p := ⟨g, 1, none⟩) hg _).setCell (p := ⟨g, 2, none⟩) hg _).setCell (p := ⟨g, 3, none⟩) hg _

/-- A box of four cells: each is there, and may be written. -/
theorem box4 {W : World} {g : Nat} {t : TypeId} {v0 v1 v2 v3 : Value} (h : W.heap[g]? = some (.cells #[v0, v1, v2, v3] t (0, 0))) :
    (W.cell? ⟨g, 0, none⟩ = some v0 ∧ W.cell? ⟨g, 1, none⟩ = some v1 ∧ W.cell? ⟨g, 2, none⟩ = some v2 ∧ W.cell? ⟨g, 3, none⟩ = some v3) ∧
    (W.frozen? ⟨g, 0, none⟩ = false ∧ W.frozen? ⟨g, 1, none⟩ = false ∧ W.frozen? ⟨g, 2, none⟩ = false ∧ W.frozen? ⟨g, 3, none⟩ = false) := by
  refine ⟨⟨?_, ?_, ?_, ?_⟩, ?_, ?_, ?_, ?_⟩ <;> simp [World.cell?, World.frozen?, h]

/-- A box that was laid stays as it was behind a call that turns nothing old. -/
theorem box_kept {W w' : World} {o : Obj} (g : Nat) (h : W.heap[g]? = some o) (hb : Below W.heap.size W w') : w'.heap[g]? = some o :=
  (hb.block g (Array.getElem?_eq_some_iff.1 h).1).trans h

theorem box_alloc {W : World} {o : Obj} {g : Nat} (h : W.heap[g]? = some o) (o' : Obj) : (W.alloc o').heap[g]? = some o :=
  (Below.heap_alloc W o' g (Array.getElem?_eq_some_iff.1 h).1).trans h

theorem cell_new1 (W : World) (v : Value) (t : TypeId) : (W.alloc (.cells #[v] t)).cell? ⟨W.heap.size, 0, none⟩ = some v := by
  rw [cell_of_row _ _ _ _ _ _ (heap_alloc_new W _)]; rfl

def wetCells (l : List (Int × ByteArray)) : List Value := l.flatMap fun p => [.int .i64 p.1, .string p.2]

/-- The value v is a disk that reads as d. -/
def IsDisk (w : World) (v : Value) (d : DK) : Prop :=
  ∃ vs vw, v = .agg #[vs, vw, .bool d.dead, .int .i64 d.left] ∧ SL w 9 1 vs d.sure.length (d.sure.map Value.string) ∧ SL w 106 2 vw d.wet.length (wetCells d.wet)

theorem IsDisk.below {w w' : World} {v : Value} {d : DK} (h : IsDisk w v d) (hb : Below w.heap.size w w') : IsDisk w' v d := by
  obtain ⟨vs, vw, e, h1, h2⟩ := h
  exact ⟨vs, vw, e, h1.below hb, h2.below hb⟩

/-- One call behind another: what lay ahead of the first lies as it did. -/
theorem below_trans' {a b c : World} (h : Below a.heap.size a b) (k : Below b.heap.size b c) : Below a.heap.size a c := h.trans (k.mono h.size)

set_option maxRecDepth 100000 in
set_option maxHeartbeats 400000 in
theorem has_any (A : Option Addr) (n c : Nat) (A' : Option Addr) (m c' : Nat) (dead : Bool) (left at_ : Int) (w : World) :
    Calls Tryz.prog 81 #[.agg #[.slice A n c, .slice A' m c', .bool dead, .int .i64 left], .int .i64 at_] w fun e w' => e = .returned (.bool (decide (0 ≤ at_) && decide (at_ < n))) ∧ Below w.heap.size w w' := by
  by_cases h : 0 ≤ at_
  · have hd : decide (0 ≤ at_) = true := by simpa using h
    go_enter Tryz.func81, Tryz.ntmps81
    go_wp2
    go_ret
    exact ⟨by simp [h], (Below.refl _ _).alloc (Nat.le_refl _) _⟩
  · have hd : decide (0 ≤ at_) = false := by simpa using h
    go_enter Tryz.func81, Tryz.ntmps81
    go_wp2
    go_ret
    exact ⟨by simp, (Below.refl _ _).alloc (Nat.le_refl _) _⟩

end Go.Proofs.YtgeiemccjionpaaGreat.Dsk

/- DDeed -/
namespace Go.Proofs.YtgeiemccjionpaaGreat.Dsk
open Go.RowKit

end Go.Proofs.YtgeiemccjionpaaGreat.Dsk

/- DRDeed -/
namespace Go.Proofs.YtgeiemccjionpaaGreat.Dsk
open Go.RowKit

set_option maxRecDepth 100000 in
set_option maxHeartbeats 400000 in
theorem rdeed_dead (A : Option Addr) (n c : Nat) (A' : Option Addr) (m c' : Nat) (left : Int) (w : World) :
    Calls Tryz.prog 55 #[.agg #[.slice A n c, .slice A' m c', .bool true, .int .i64 left]] w fun e w' =>
      e = .returned (.tuple #[.agg #[.slice A n c, .slice A' m c', .bool true, .int .i64 left], .bool false]) ∧ Below w.heap.size w w' := by
  go_enter Tryz.func55, Tryz.ntmps55
  go_wp2
  refine bodyPost_ret (v := .tuple #[.agg #[.slice A n c, .slice A' m c', .bool true, .int .i64 left], .bool false]) (by simp [results, Tryz.results55, go_sem]) rfl ⟨rfl, ?_⟩
  exact ((Below.refl _ _).alloc (Nat.le_refl _) _).alloc (by simp) _

set_option maxRecDepth 100000 in
set_option maxHeartbeats 400000 in
theorem rdeed_none (A : Option Addr) (n c : Nat) (A' : Option Addr) (m c' : Nat) (w : World) :
    Calls Tryz.prog 55 #[.agg #[.slice A n c, .slice A' m c', .bool false, .int .i64 0]] w fun e w' =>
      e = .returned (.tuple #[.agg #[.slice A n c, .slice A' m c', .bool true, .int .i64 0], .bool false]) ∧ Below w.heap.size w w' := by
  go_enter Tryz.func55, Tryz.ntmps55
  go_wp2
  refine bodyPost_ret (v := .tuple #[.agg #[.slice A n c, .slice A' m c', .bool true, .int .i64 0], .bool false]) (by simp [results, Tryz.results55, go_sem]) rfl ⟨rfl, ?_⟩
  exact ((Below.refl _ _).alloc (Nat.le_refl _) _).alloc (by simp) _

set_option maxRecDepth 100000 in
set_option maxHeartbeats 400000 in
theorem rdeed_some (A : Option Addr) (n c : Nat) (A' : Option Addr) (m c' : Nat) (left : Int) (w : World) (h1 : 0 < left) (h2 : left ≤ 9223372036854775807) :
    Calls Tryz.prog 55 #[.agg #[.slice A n c, .slice A' m c', .bool false, .int .i64 left]] w fun e w' =>
      e = .returned (.tuple #[.agg #[.slice A n c, .slice A' m c', .bool false, .int .i64 (left - 1)], .bool true]) ∧ Below w.heap.size w w' := by
  have hd : (left == 0) = false := by simp; omega
  go_enter Tryz.func55, Tryz.ntmps55
  go_wp2
  refine bodyPost_ret (v := .tuple #[.agg #[.slice A n c, .slice A' m c', .bool false, .int .i64 (left - 1)], .bool true]) (by simp [results, Tryz.results55, go_sem]) rfl ⟨rfl, ?_⟩
  exact ((Below.refl _ _).alloc (Nat.le_refl _) _).alloc (by simp) _

set_option maxRecDepth 100000 in
set_option maxHeartbeats 400000 in
theorem rdeed_any (A : Option Addr) (n c : Nat) (A' : Option Addr) (m c' : Nat) (w : World) :
    Calls Tryz.prog 55 #[.agg #[.slice A n c, .slice A' m c', .bool false, .int .i64 (-1)]] w fun e w' =>
      e = .returned (.tuple #[.agg #[.slice A n c, .slice A' m c', .bool false, .int .i64 (-1)], .bool true]) ∧ Below w.heap.size w w' := by
  go_enter Tryz.func55, Tryz.ntmps55
  go_wp2
  refine bodyPost_ret (v := .tuple #[.agg #[.slice A n c, .slice A' m c', .bool false, .int .i64 (-1)], .bool true]) (by simp [results, Tryz.results55, go_sem]) rfl ⟨rfl, ?_⟩
  exact ((Below.refl _ _).alloc (Nat.le_refl _) _).alloc (by simp) _

/-- ref.deed: the disk behind one more deed, and whether it is done. -/
theorem rdeed_calls (v : Value) (d : DK) (w : World) (hv : IsDisk w v d) (h1 : -1 ≤ d.left) (h2 : d.left ≤ 9223372036854775807) :
    Calls Tryz.prog 55 #[v] w fun e w' => ∃ v', e = .returned (.tuple #[v', .bool (deedB d)]) ∧ IsDisk w' v' (deedD d) ∧ Below w.heap.size w w' := by
  obtain ⟨sure, wet, dead, left⟩ := d
  obtain ⟨_, _, rfl, h3, h4⟩ := hv
  obtain ⟨A, c, rfl, hc, hr⟩ := id h3
  obtain ⟨A', c', rfl, hc', hr'⟩ := id h4
  dsimp only at *
  cases dead with
  | true =>
    refine (rdeed_dead A _ c A' _ c' left w).mono ?_
    rintro e w' ⟨rfl, hb⟩
    exact ⟨_, rfl, ⟨_, _, rfl, h3.below hb, h4.below hb⟩, hb⟩
  | false =>
    rcases Int.lt_trichotomy left 0 with h | h | h
    · obtain rfl : left = -1 := by omega
      refine (rdeed_any A _ c A' _ c' w).mono ?_
      rintro e w' ⟨rfl, hb⟩
      have e1 : deedB ⟨sure, wet, false, -1⟩ = true := by simp [deedB]
      have e2 : deedD ⟨sure, wet, false, -1⟩ = ⟨sure, wet, false, -1⟩ := by unfold deedD; rw [if_neg (by simp), if_neg (by simp)]
      rw [e1, e2]
      exact ⟨_, rfl, ⟨_, _, rfl, h3.below hb, h4.below hb⟩, hb⟩
    · subst h
      refine (rdeed_none A _ c A' _ c' w).mono ?_
      rintro e w' ⟨rfl, hb⟩
      exact ⟨_, rfl, ⟨_, _, rfl, h3.below hb, h4.below hb⟩, hb⟩
    · refine (rdeed_some A _ c A' _ c' left w h h2).mono ?_
      rintro e w' ⟨rfl, hb⟩
      have e1 : deedB ⟨sure, wet, false, left⟩ = true := by simp [deedB]; omega
      have e2 : deedD ⟨sure, wet, false, left⟩ = ⟨sure, wet, false, left - 1⟩ := by unfold deedD; rw [if_neg (by simp; omega), if_pos h]
      rw [e1, e2]
      exact ⟨_, rfl, ⟨_, _, rfl, h3.below hb, h4.below hb⟩, hb⟩

end Go.Proofs.YtgeiemccjionpaaGreat.Dsk

/- DActs -/
namespace Go.Proofs.YtgeiemccjionpaaGreat.Dsk
open Go.RowKit

def AK.v (a : AK) : Value := .agg #[.int .i64 a.kind, .int .i64 a.place, .string a.data, .int .u64 a.stay]

/-- A slice of deeds that came in. -/
def ActIn (w : World) (A : Option Addr) (len : Nat) (xs : List AK) : Prop :=
  xs.length = len ∧ (∀ a ∈ xs, a.stay < 18446744073709551616 ∧ a.place ≤ 9223372036854775807) ∧ (0 < len → ∃ b off, A = some ⟨b, off, none⟩ ∧ b < w.heap.size ∧ ∀ (j : Nat) (a : AK), xs[j]? = some a →
    w.cell? ⟨b, off + j * 4, none⟩ = some (.int .i64 a.kind) ∧ w.cell? ⟨b, off + j * 4 + 1, none⟩ = some (.int .i64 a.place) ∧ w.cell? ⟨b, off + j * 4 + 2, none⟩ = some (.string a.data) ∧ w.cell? ⟨b, off + j * 4 + 3, none⟩ = some (.int .u64 a.stay))

end Go.Proofs.YtgeiemccjionpaaGreat.Dsk
