/- Contracts and plain mathematics that the statement's proof wants: no statement is proved here, nothing is assumed. -/
import Derived.Deep.Cut
import Derived.Deep.RegionHeld3
import Derived.Deep.DrawnRows
import Derived.Maps.AppendAt
import Derived.Test.YtgeiemccjionpaaGreatMg06
import Derived.Test.YtgeiemccjionpaaGreatMg11
import Derived.Test.YtgeiemccjionpaaGreatMg13
/- DNew -/
namespace Go.Proofs.YtgeiemccjionpaaGreat.Dsk
open Go.RowKit

end Go.Proofs.YtgeiemccjionpaaGreat.Dsk

/- DWith -/
namespace Go.Proofs.YtgeiemccjionpaaGreat.Dsk
open Go.RowKit

theorem Tryz.info52 : (Tryz.prog.info? 106).map (fun i => (i.zero, i.size, i.bytes)) = some (some (.agg #[.int .i64 0, .string ⟨#[]⟩]), 2, 24) := by kernel_rfl

theorem wetCells_append (a b : List Wt) : wetCells (a ++ b) = wetCells a ++ wetCells b := by simp [wetCells]
theorem wetCells_one (o : Wt) : wetCells [o] = [.int .i64 o.1, .string o.2] := by simp [wetCells]
theorem wetCells_length (l : List Wt) : (wetCells l).length = l.length * 2 := by
  induction l with
  | nil => rfl
  | cons a l ih => simp [wetCells] at ih ⊢; omega
theorem wetCells_at (l : List Wt) : ∀ (k : Nat) (o : Wt), l[k]? = some o → (wetCells l)[k * 2]? = some (.int .i64 o.1) ∧ (wetCells l)[k * 2 + 1]? = some (.string o.2) := by
  induction l with
  | nil => intro k o h; cases h
  | cons a l ih =>
    intro k o h
    have e : wetCells (a :: l) = .int .i64 a.1 :: .string a.2 :: wetCells l := by simp [wetCells]
    rw [e]
    match k, h with
    | 0, h => simp at h; subst h; exact ⟨rfl, rfl⟩
    | k + 1, h =>
      have := ih k o (by simpa using h)
      rw [show (k + 1) * 2 = k * 2 + 1 + 1 by omega]
      exact ⟨by simpa using this.1, by simpa using this.2⟩

theorem box2 {W : World} {g : Nat} {t : TypeId} {v0 v1 : Value} (h : W.heap[g]? = some (.cells #[v0, v1] t (0, 0))) :
    (W.cell? ⟨g, 0, none⟩ = some v0 ∧ W.cell? ⟨g, 1, none⟩ = some v1) ∧ (W.frozen? ⟨g, 0, none⟩ = false ∧ W.frozen? ⟨g, 1, none⟩ = false) := by
  refine ⟨⟨?_, ?_⟩, ?_, ?_⟩ <;> simp [World.cell?, World.frozen?, h]

/-- What holds at each round's head. -/
structure WithRel (w : World) (n : Nat) (p : Wt) (acc : List Wt) (wr : World) : Prop where
  own : wr.ownsRow (w.heap.size + 1) 106 2 (.slice (some ⟨w.heap.size + 1, 0, none⟩) acc.length (n + 1)) acc.length (wetCells acc)
  box : wr.heap[w.heap.size]? = some (.cells #[.int .i64 p.1, .string p.2] 106 (0, 0))
  below : Below w.heap.size w wr
  size : w.heap.size + 1 < wr.heap.size

theorem WithRel.alloc {w : World} {n : Nat} {p : Wt} {acc : List Wt} {wr : World} (h : WithRel w n p acc wr) (o : Obj) : WithRel w n p acc (wr.alloc o) :=
  ⟨h.own.alloc o, box_alloc h.box o, h.below.alloc (by have := h.below.size; omega) o, by have := h.size; simp; omega⟩

theorem WithRel.app {w : World} {n : Nat} {p : Wt} {acc : List Wt} {wr w1 : World} (h : WithRel w n p acc wr) (q : Wt)
    (hown : w1.ownsRow (w.heap.size + 1) 106 2 (.slice (some ⟨w.heap.size + 1, 0, none⟩) (acc.length + 1) (n + 1)) (acc.length + 1) (wetCells acc ++ [.int .i64 q.1, .string q.2])) (hg : wr.grownBy w1 (some (w.heap.size + 1))) : WithRel w n p (acc ++ [q]) w1 := by
  refine ⟨?_, ?_, ?_, ?_⟩
  · rw [List.length_append, List.length_singleton, wetCells_append, wetCells_one]; exact hown
  · rw [hg.block _ (by have := h.size; omega) (by simp)]; exact h.box
  · exact h.below.grown hg (by have := h.below.size; omega) (by intro k e; injection e with e; omega)
  · have := h.size; have := hg.size; omega

theorem box_grown {W w1 : World} {g : Nat} {o : Obj} {row : Option Nat} (h : W.heap[g]? = some o) (hg : W.grownBy w1 row) (hne : some g ≠ row) : w1.heap[g]? = some o :=
  (hg.block g (Array.getElem?_eq_some_iff.1 h).1 hne).trans h

theorem own_len {w : World} {n : Nat} {p q : Wt} {acc : List Wt} {wr : World} (h : WithRel w n p (acc ++ [q]) wr) :
    wr.ownsRow (w.heap.size + 1) 106 2 (.slice (some ⟨w.heap.size + 1, 0, none⟩) (acc.length + 1) (n + 1)) (acc.length + 1) (wetCells (acc ++ [q])) := by
  have := h.own
  rwa [List.length_append, List.length_singleton] at this

theorem news2 {W : World} {B : Nat} (hB : W.heap.size = B) (v0 v1 : Value) (t : TypeId) : ∀ (j : Nat) (u : Value), [v0, v1][j]? = some u → (W.alloc (.cells #[v0, v1] t)).cell? ((⟨B, 0, none⟩ : Addr).add j) = some u := by
  subst hB
  exact World.news_of_block (heap_alloc_new W _)

end Go.Proofs.YtgeiemccjionpaaGreat.Dsk

/- DSettle -/
namespace Go.Proofs.YtgeiemccjionpaaGreat.Dsk
open Go.RowKit

theorem heap_setCell_at {w : World} {g i : Nat} {u : Value} {cur : Array Value} {t : TypeId} {fr : Nat × Nat} (h : w.heap[g]? = some (.cells cur t fr)) : (w.setCell ⟨g, i, none⟩ u).heap[g]? = some (.cells (cur.setIfInBounds i u) t fr) := by
  simp [World.setCell, Array.getElem?_modify, h]

/-- What holds at each round's head. -/
structure SetRel (w : World) (v vw : Value) (dead : Bool) (left : Int) (ss : List ByteArray) (wr : World) : Prop where
  own : wr.ownsRow (w.heap.size + 2) 9 1 v ss.length (ss.map Value.string)
  box : wr.heap[w.heap.size]? = some (.cells #[v, vw, .bool dead, .int .i64 left] 27 (0, 0))
  res : wr.heap[w.heap.size + 1]? = some (.cells #[.slice none 0 0, .slice none 0 0, .bool false, .int .i64 0] 27 (0, 0))
  below : Below w.heap.size w wr

theorem SetRel.kept {w : World} {v vw : Value} {dead : Bool} {left : Int} {ss : List ByteArray} {wr w2 : World} (h : SetRel w v vw dead left ss wr) (hb : Below wr.heap.size wr w2) : SetRel w v vw dead left ss w2 := by
  have hle := h.below.size
  refine ⟨?_, box_kept _ h.box hb, box_kept _ h.res hb, below_trans' h.below hb⟩
  exact h.own.kept (row := none) ⟨hb.os, hb.tape, hb.output, hb.size, fun k hk _ => hb.block k hk⟩ (by cases hv : v.ownBlock <;> simp)

theorem SetRel.set {w : World} {g n cc : Nat} {vw : Value} {dead : Bool} {left : Int} {ss : List ByteArray} {wr : World} (h : SetRel w (.slice (some ⟨g, 0, none⟩) n cc) vw dead left ss wr) (j : Nat) (_hj : j < ss.length) (u : ByteArray) :
    SetRel w (.slice (some ⟨g, 0, none⟩) n cc) vw dead left (ss.set j u) (wr.setCell ⟨g, j, none⟩ (.string u)) := by
  obtain ⟨hl, hor⟩ := h.own
  rcases hor with ⟨hv, _⟩ | ⟨g', cap, cur, hv, hbg, hg, hnc, hcm, hcs, ht⟩
  · cases hv
  · injection hv with e1 e2 e3
    injection e1 with e1
    injection e1 with e1
    subst e1
    subst e3
    refine ⟨⟨by simp, .inr ⟨g, cc, cur.setIfInBounds j (.string u), ?_, hbg, heap_setCell_at hg, by simpa using hnc, hcm, by simpa using hcs, ?_⟩⟩, ?_, ?_, ?_⟩
    · rw [e2]; simp
    · simp only [List.length_set, Nat.mul_one, Array.toList_setIfInBounds, List.take_set]
      rw [Nat.mul_one] at ht
      rw [ht, List.map_set]
    · rw [Below.heap_setCell _ _ _ _ (by simp; omega)]; exact h.box
    · rw [Below.heap_setCell _ _ _ _ (by simp; omega)]; exact h.res
    · exact h.below.setCell (p := ⟨g, j, none⟩) (by simp; omega) _

theorem SetRel.at_ {w : World} {g n cc : Nat} {vw : Value} {dead : Bool} {left : Int} {ss : List ByteArray} {wr : World} (h : SetRel w (.slice (some ⟨g, 0, none⟩) n cc) vw dead left ss wr) (j : Nat) (hj : j < ss.length) :
    (∃ u, wr.cell? ⟨g, j, none⟩ = some (.string u)) ∧ wr.frozen? ⟨g, j, none⟩ = false ∧ w.heap.size + 1 < g := by
  obtain ⟨hl, hor⟩ := h.own
  rcases hor with ⟨hv, _⟩ | ⟨g', cap, cur, hv, hbg, hg, hnc, hcm, hcs, ht⟩
  · cases hv
  · injection hv with e1 e2 e3
    injection e1 with e1
    injection e1 with e1
    subst e1
    refine ⟨⟨ss[j], ?_⟩, ?_, by omega⟩
    · have := h.own.cells (g := g) rfl j (.string ss[j]) (by simp [hj])
      rw [Addr.add_lit, Nat.zero_add] at this
      exact this
    · simp [World.frozen?, hg]

end Go.Proofs.YtgeiemccjionpaaGreat.Dsk

/- DFlush -/
namespace Go.Proofs.YtgeiemccjionpaaGreat.Dsk
open Go.RowKit

/-- The parts of a disk's value. -/
theorem IsDisk.parts {w : World} {v : Value} {d : DK} (h : IsDisk w v d) : ∃ A n c A' m c', v = .agg #[.slice A n c, .slice A' m c', .bool d.dead, .int .i64 d.left] := by
  obtain ⟨vs, vw, rfl, h3, h4⟩ := h
  obtain ⟨A, c, rfl, _⟩ := h3
  obtain ⟨A', c', rfl, _⟩ := h4
  exact ⟨A, _, c, A', _, c', rfl⟩

/-- Stores into a box of another type leave a disk. -/
theorem IsDisk.other {w w' : World} {v : Value} {d : DK} (h : IsDisk w v d) {g : Nat} {t : TypeId} {cur : Array Value} {fr : Nat × Nat} (hg : w.heap[g]? = some (.cells cur t fr)) (h9 : t ≠ 9) (h52 : t ≠ 106) (hk : ∀ b : Nat, b ≠ g → w'.heap[b]? = w.heap[b]?) : IsDisk w' v d := by
  obtain ⟨vs, vw, e, h3, h4⟩ := h
  exact ⟨vs, vw, e, h3.other hg h9 hk, h4.other hg h52 hk⟩

theorem IsDisk.redo {w : World} {A A' : Option Addr} {n c m c' : Nat} {b : Bool} {l : Int} {d : DK} (h : IsDisk w (.agg #[.slice A n c, .slice A' m c', .bool b, .int .i64 l]) d) (x : Bool) (y : Int) :
    IsDisk w (.agg #[.slice A n c, .slice A' m c', .bool x, .int .i64 y]) { d with dead := x, left := y } := by
  obtain ⟨vs, vw, e, h3, h4⟩ := h
  simp only [Value.agg.injEq, Array.mk.injEq, List.cons.injEq] at e
  obtain ⟨rfl, rfl, _⟩ := e
  exact ⟨_, _, rfl, h3, h4⟩

theorem heap_store4 {w : World} {g : Nat} {v0 v1 v2 v3 u0 u1 u2 u3 : Value} {t : TypeId} {fr : Nat × Nat} (h : w.heap[g]? = some (.cells #[v0, v1, v2, v3] t fr)) :
    ((((w.setCell ⟨g, 0, none⟩ u0).setCell ⟨g, 1, none⟩ u1).setCell ⟨g, 2, none⟩ u2).setCell ⟨g, 3, none⟩ u3).heap[g]? = some (.cells #[u0, u1, u2, u3] t fr) := by
  rw [heap_setCell_at (heap_setCell_at (heap_setCell_at (heap_setCell_at h)))]; rfl

/-- The world behind the store of a whole box, under a name of its own. -/
theorem box_store4 {w : World} {g : Nat} {v0 v1 v2 v3 : Value} {t : TypeId} (h : w.heap[g]? = some (.cells #[v0, v1, v2, v3] t (0, 0))) (u0 u1 u2 u3 : Value) :
    ∃ w2, (((w.setCell ⟨g, 0, none⟩ u0).setCell ⟨g, 1, none⟩ u1).setCell ⟨g, 2, none⟩ u2).setCell ⟨g, 3, none⟩ u3 = w2 ∧ w2.heap[g]? = some (.cells #[u0, u1, u2, u3] t (0, 0)) ∧
      (∀ k : Nat, k ≠ g → w2.heap[k]? = w.heap[k]?) ∧ (∀ (B : Nat) (a : World), Below B a w → B ≤ g → Below B a w2) :=
  ⟨_, rfl, heap_store4 h, fun k hk => store4_other _ _ _ _ _ _ k hk, fun _ _ hb hg => below_store4 hb _ hg _ _ _ _⟩

end Go.Proofs.YtgeiemccjionpaaGreat.Dsk

/- DRWrite -/
namespace Go.Proofs.YtgeiemccjionpaaGreat.Dsk
open Go.RowKit

set_option maxRecDepth 100000 in
set_option maxHeartbeats 1000000 in
theorem rwrite_arg (v : Value) (d : DK) (at_ : Int) (data : ByteArray) (w : World) (hv : IsDisk w v d) (hbad : ¬ (0 ≤ at_ ∧ at_ < d.sure.length ∧ data.size ≤ 256)) :
    Calls Tryz.prog 31 #[v, .int .i64 at_, .string data] w fun e w' => ∃ v', e = .returned (.tuple #[v', .int .i64 1]) ∧ IsDisk w' v' d ∧ Below w.heap.size w w' := by
  obtain ⟨sure, wet, dead, left⟩ := d
  obtain ⟨_, _, rfl, h3, h4⟩ := hv
  obtain ⟨A, c, rfl, _⟩ := id h3
  obtain ⟨A', c', rfl, _⟩ := id h4
  dsimp only at *
  have hb2 : Below w.heap.size w ((w.alloc (.cells #[.slice A sure.length c, .slice A' wet.length c', .bool dead, .int .i64 left] 27)).alloc (.cells #[.slice A sure.length c, .slice A' wet.length c', .bool dead, .int .i64 left] 27)) := ((Below.refl _ _).alloc (Nat.le_refl _) _).alloc (by simp) _
  have hfin : ∃ v', Ending.returned (.tuple #[.agg #[.slice A sure.length c, .slice A' wet.length c', .bool dead, .int .i64 left], .int .i64 1]) = .returned (.tuple #[v', .int .i64 1]) ∧ IsDisk ((w.alloc (.cells #[.slice A sure.length c, .slice A' wet.length c', .bool dead, .int .i64 left] 27)).alloc (.cells #[.slice A sure.length c, .slice A' wet.length c', .bool dead, .int .i64 left] 27)) v' ⟨sure, wet, dead, left⟩ ∧ Below w.heap.size w ((w.alloc (.cells #[.slice A sure.length c, .slice A' wet.length c', .bool dead, .int .i64 left] 27)).alloc (.cells #[.slice A sure.length c, .slice A' wet.length c', .bool dead, .int .i64 left] 27)) :=
    ⟨_, rfl, ⟨_, _, rfl, h3.below hb2, h4.below hb2⟩, hb2⟩
  have HF := Lib.hid hfin
  clear h3 h4 hb2 hfin
  by_cases h0 : at_ < 0
  · have hd0 : decide (at_ < 0) = true := decide_eq_true h0
    go_enter Tryz.func31, Tryz.ntmps31
    go_wp2_with fail
    exact bodyPost_ret (v := .tuple #[.agg #[.slice A sure.length c, .slice A' wet.length c', .bool dead, .int .i64 left], .int .i64 1]) (by simp [results, Tryz.results31, go_sem]) rfl HF.out
  · have hd0 : decide (at_ < 0) = false := decide_eq_false h0
    by_cases h1 : (sure.length : Int) ≤ at_
    · have hd1 : decide ((sure.length : Int) ≤ at_) = true := decide_eq_true h1
      go_enter Tryz.func31, Tryz.ntmps31
      go_wp2_with fail
      exact bodyPost_ret (v := .tuple #[.agg #[.slice A sure.length c, .slice A' wet.length c', .bool dead, .int .i64 left], .int .i64 1]) (by simp [results, Tryz.results31, go_sem]) rfl HF.out
    · have hd1 : decide ((sure.length : Int) ≤ at_) = false := decide_eq_false h1
      have hd2 : decide ((256 : Int) < (data.size : Int)) = true := by simp; omega
      go_enter Tryz.func31, Tryz.ntmps31
      go_wp2_with fail
      exact bodyPost_ret (v := .tuple #[.agg #[.slice A sure.length c, .slice A' wet.length c', .bool dead, .int .i64 left], .int .i64 1]) (by simp [results, Tryz.results31, go_sem]) rfl HF.out

set_option maxRecDepth 100000 in
set_option maxHeartbeats 1000000 in
theorem rwrite_down (v : Value) (d : DK) (at_ : Int) (data : ByteArray) (w : World) (hv : IsDisk w v d) (hd : d.ok) (h1 : 0 ≤ at_) (h2 : at_ < d.sure.length) (h3 : data.size ≤ 256) (hdown : deedB d = false) :
    Calls Tryz.prog 31 #[v, .int .i64 at_, .string data] w fun e w' => ∃ v', e = .returned (.tuple #[v', .int .i64 12]) ∧ IsDisk w' v' (deedD d) ∧ Below w.heap.size w w' := by
  obtain ⟨A, n, c, A', m, c', rfl⟩ := hv.parts
  have hnl : d.sure.length = n := by
    obtain ⟨vs, vw, e, ⟨A1, c1, e1, _⟩, _⟩ := hv
    simp only [Value.agg.injEq, Array.mk.injEq, List.cons.injEq] at e
    rw [e1] at e
    injection e.1 with _ e2
    exact e2.symm
  rw [hnl] at h2
  have hd0 : decide (at_ < 0) = false := decide_eq_false (by omega)
  have hd1' : decide ((n : Int) ≤ at_) = false := decide_eq_false (by omega)
  have hd2 : decide ((256 : Int) < (data.size : Int)) = false := by simp; omega
  have hwt : (deedD d).wet = d.wet := by unfold deedD; split <;> (try split) <;> rfl
  have hsr : (deedD d).sure = d.sure := by unfold deedD; split <;> (try split) <;> rfl
  have hdo := deedD_ok hd
  obtain ⟨d1, hd1⟩ : ∃ d1, d1 = deedD d := ⟨_, rfl⟩
  obtain ⟨b1, hb1⟩ : ∃ b1, b1 = deedB d := ⟨_, rfl⟩
  have hde : ∀ W : World, Below w.heap.size w W → Calls Tryz.prog 55 #[.agg #[.slice A n c, .slice A' m c', .bool d.dead, .int .i64 d.left]] W fun e w' => ∃ v', e = .returned (.tuple #[v', .bool b1]) ∧ IsDisk w' v' d1 ∧ Below W.heap.size W w' := fun W hb => by
    rw [hd1, hb1]; exact rdeed_calls _ d W (hv.below hb) hd.lo hd.hi
  rw [← hd1] at hwt hsr hdo ⊢
  rw [hdown] at hb1
  subst hb1
  clear hd1 hwt hsr hv hd hnl
  obtain ⟨sure, wet, dead, left⟩ := d
  dsimp only at hde
  have HDE := Lib.hid hde
  have HDO := Lib.hid hdo
  clear hde hdo
  go_enter Tryz.func31, Tryz.ntmps31
  go_wp2_with fail
  have hb0 : Below w.heap.size w ((w.alloc (.cells #[.slice A n c, .slice A' m c', .bool dead, .int .i64 left] 27)).alloc (.cells #[.slice none 0 0, .slice none 0 0, .bool false, .int .i64 0] 27)) := ((Below.refl _ _).alloc (Nat.le_refl _) _).alloc (by simp) _
  with_reducible refine (HDE.out _ hb0).mono ?_
  clear HDE
  rintro e w1 ⟨v1, rfl, hv1, hb1⟩
  obtain ⟨A1, n1, c1, A1', m1, c1', rfl⟩ := hv1.parts
  obtain ⟨sure1, wet1, dead1, left1⟩ := d1
  dsimp only at hv1 ⊢
  have hg1 := box_kept w.heap.size (box_alloc (heap_alloc_new w _) _) hb1
  have hg2 : w1.heap[w.heap.size + 1]? = some (.cells #[.slice none 0 0, .slice none 0 0, .bool false, .int .i64 0] 27 (0, 0)) := box_kept (w.heap.size + 1) (by have := heap_alloc_new (w.alloc (.cells #[.slice A n c, .slice A' m c', .bool dead, .int .i64 left] 27)) (.cells #[.slice none 0 0, .slice none 0 0, .bool false, .int .i64 0] 27); simpa using this) hb1
  have hbw := below_trans' hb0 hb1
  obtain ⟨w2, e2, hG2, hK2, hB2⟩ := box_store4 hg1 (.slice A1 n1 c1) (.slice A1' m1 c1') (.bool dead1) (.int .i64 left1)
  have HV2 := Lib.hid (hv1.other hg1 (by decide) (by decide) hK2)
  have HB := Lib.hid (hB2 _ _ hbw (Nat.le_refl _))
  have hr2 : w2.heap[w.heap.size + 1]? = _ := (hK2 _ (by omega)).trans hg2
  obtain ⟨⟨hp0, hp1, hp2, hp3⟩, hf0, hf1, hf2, hf3⟩ := box4 hg1
  have HG2 := Lib.hid hG2
  have HR2 := Lib.hid hr2
  have E2 := Lib.hid e2
  clear hb0 hb1 hv1 hg1 hg2 hbw e2 hG2 hK2 hB2 hr2
  go_upto_region 4 with (fail)
  rw [E2.out]
  clear hp0 hp1 hp2 hp3 hf0 hf1 hf2 hf3 E2
  obtain ⟨⟨hp0, hp1, hp2, hp3⟩, hf0, hf1, hf2, hf3⟩ := box4 HG2.out
  obtain ⟨⟨hq0, hq1, hq2, hq3⟩, hr0, hr1, hr2, hr3⟩ := box4 HR2.out
  go_wp2_with fail
  refine bodyPost_ret (v := .tuple #[.agg #[.slice A1 n1 c1, .slice A1' m1 c1', .bool dead1, .int .i64 left1], .int .i64 12]) (by simp [results, Tryz.results31, go_sem, hq0, hq1, hq2, hq3]) rfl ⟨_, rfl, ?_, ?_⟩
  · exact HV2.out.other HR2.out (by decide) (by decide) (store4_other _ _ _ _ _ _)
  · exact below_store4 HB.out _ (by omega) _ _ _ _

end Go.Proofs.YtgeiemccjionpaaGreat.Dsk

/- DWrite -/
namespace Go.Proofs.YtgeiemccjionpaaGreat.Dsk
open Go.RowKit
attribute [local go_sem ↓] Go.wp_at_zero Go.wp_at_succ

/-- Two boxes laid ahead of a call are there behind it. -/
theorem two_boxes {w w1 : World} {o1 o2 : Obj} (hb : Below ((w.alloc o1).alloc o2).heap.size ((w.alloc o1).alloc o2) w1) : w1.heap[w.heap.size]? = some o1 ∧ w1.heap[w.heap.size + 1]? = some o2 ∧ Below w.heap.size w w1 := by
  refine ⟨box_kept w.heap.size (box_alloc (heap_alloc_new w o1) o2) hb, ?_, below_trans' (((Below.refl _ _).alloc (Nat.le_refl _) _).alloc (by simp) _) hb⟩
  exact box_kept (w.heap.size + 1) (by have := heap_alloc_new (w.alloc o1) o2; simpa using this) hb

theorem below_of_drew {w w' : World} (h : Below w.drew.heap.size w.drew w') : Below w.heap.size w w' := ⟨h.os, h.tape, h.output, h.size, h.block⟩

theorem IsDisk.rewet {w : World} {A A' A5 : Option Addr} {n c m c' n5 c5 : Nat} {b : Bool} {l : Int} {d : DK} {wet5 : List (Int × ByteArray)} (h : IsDisk w (.agg #[.slice A n c, .slice A' m c', .bool b, .int .i64 l]) d) (h5 : SL w 106 2 (.slice A5 n5 c5) wet5.length (wetCells wet5)) :
    IsDisk w (.agg #[.slice A n c, .slice A5 n5 c5, .bool b, .int .i64 l]) { d with wet := wet5 } := by
  obtain ⟨vs, vw, e, h3, h4⟩ := h
  simp only [Value.agg.injEq, Array.mk.injEq, List.cons.injEq] at e
  obtain ⟨rfl, rfl, e3, e4, _⟩ := e
  exact ⟨_, _, by rw [e3, e4], h3, h5⟩

/-- The parts of a disk's value, with the lengths that they say. -/
theorem IsDisk.open_ {w : World} {v : Value} {d : DK} (h : IsDisk w v d) : ∃ A n c A' m c', v = .agg #[.slice A n c, .slice A' m c', .bool d.dead, .int .i64 d.left] ∧ n = d.sure.length ∧ m = d.wet.length ∧ SL w 106 2 (.slice A' m c') m (wetCells d.wet) := by
  obtain ⟨vs, vw, rfl, h3, h4⟩ := h
  obtain ⟨A, c, rfl, _⟩ := h3
  obtain ⟨A', c', rfl, _⟩ := id h4
  exact ⟨A, _, c, A', _, c', rfl, rfl, rfl, h4⟩

end Go.Proofs.YtgeiemccjionpaaGreat.Dsk

/- DRRead -/
namespace Go.Proofs.YtgeiemccjionpaaGreat.Dsk
open Go.RowKit

set_option maxRecDepth 100000 in
set_option maxHeartbeats 1000000 in
theorem rread_walk (v : Value) (d : DK) (at_ : Int) (w : World) (hv : IsDisk w v d) (hw : d.wet.length ≤ 2000) (h1 : 0 ≤ at_) (h2 : at_ < d.sure.length) (hde : d.dead = false) :
    Calls Tryz.prog 52 #[v, .int .i64 at_] w fun e w' => e = .returned (.tuple #[.string (findF d.wet d.sure at_), .int .i64 0]) ∧ Below w.heap.size w w' := by
  obtain ⟨sure, wet, dead, left⟩ := d
  dsimp only at hde h2 hw
  subst hde
  obtain ⟨_, _, rfl, h3, h4⟩ := hv
  obtain ⟨A, c, rfl, _, hr⟩ := h3
  obtain ⟨A', c', rfl, _, hr'⟩ := h4
  dsimp only at *
  obtain ⟨j, rfl⟩ := Int.eq_ofNat_of_zero_le h1
  obtain ⟨n, hn⟩ : ∃ n, n = sure.length := ⟨_, rfl⟩
  obtain ⟨m, hm⟩ : ∃ m, m = wet.length := ⟨_, rfl⟩
  rw [← hn] at hr h2 ⊢
  rw [← hm] at hr' hw ⊢
  have hd1 : decide ((j : Int) < 0) = false := by simp
  have hd2 : decide ((n : Int) ≤ (j : Int)) = false := by simp; omega
  have HR := Lib.hid hr
  have HR' := Lib.hid hr'
  have HN := Lib.hid hn
  have HM := Lib.hid hm
  clear hr hr' hn hm
  go_enter Tryz.func52, Tryz.ntmps52
  go_upto_region 1 with (fail)
  obtain ⟨X, g, eX, eg, hG, hb⟩ : ∃ X Bd, w.alloc (.cells #[.slice A n c, .slice A' m c', .bool false, .int .i64 left] 27) = X ∧ w.heap.size = Bd ∧ X.heap[Bd]? = some (.cells #[.slice A n c, .slice A' m c', .bool false, .int .i64 left] 27 (0, 0)) ∧ Below w.heap.size w X := ⟨_, _, rfl, rfl, heap_alloc_new _ _, (Below.refl _ _).alloc (Nat.le_refl _) _⟩
  rw [eX, eg]
  have HB := Lib.hid hb
  have EG := Lib.hid eg
  obtain ⟨⟨p0, p1, p2, p3⟩, _⟩ := box4 hG
  clear hG hb eX eg
  go_wp2_with fail
  go_loop [6] (fun u6 => ∃ i : Nat, i ≤ m ∧ u6 = .int .i64 i ∧ ∀ q x, q < i → wet[q]? = some x → x.1 ≠ (j : Int)) (fun u => m - (intOf u).toNat)
  case atStart => exact ⟨0, Nat.zero_le _, rfl, fun q x hq => absurd hq (by omega)⟩
  case round =>
    obtain ⟨i, hi, rfl, hno⟩ := hrel
    have HNO := Lib.hid hno
    clear hno
    by_cases hlt : i < m
    · obtain ⟨o, ho⟩ : ∃ o, wet[i]? = some o := ⟨_, List.getElem?_eq_getElem (by have := HM.out; omega)⟩
      obtain ⟨b, off, rfl, hbl, hcell⟩ := HR'.out.at_ (by omega)
      obtain ⟨hw0, hw1⟩ := wetCells_at wet i o ho
      have hc0 := (HB.out.cell (p := ⟨b, off + i * 2, none⟩) hbl).trans (hcell _ _ hw0)
      have hc1 := (HB.out.cell (p := ⟨b, off + i * 2 + 1, none⟩) hbl).trans (hcell _ _ hw1)
      have hi1 : (0 : Int) ≤ (i : Int) := by omega
      have hi2 : (i : Int) < (m : Int) := by omega
      have HO := Lib.hid ho
      obtain ⟨oa, od⟩ := o
      clear ho hw0 hw1 hcell
      dsimp only at hc0 hc1
      by_cases ha : oa = (j : Int)
      · subst ha
        go_wp2_with fail
        refine bodyPost_ret (v := .tuple #[.string od, .int .i64 0]) (by simp [results, Tryz.results52, go_sem]) rfl ⟨by rw [find_hit wet sure j i _ HNO.out HO.out rfl], ?_⟩
        exact HB.out
      · have hf : (oa == (j : Int)) = false := by simpa using ha
        go_wp2_with fail
        refine ⟨⟨i + 1, by omega, by go_num, fun q x hq hx => ?_⟩, by simp [intOf]; omega⟩
        by_cases e : q = i
        · subst e
          rw [HO.out] at hx
          injection hx with hx
          subst hx
          exact ha
        · exact HNO.out q x (by omega) hx
    · have hnl : decide ((i : Int) < (m : Int)) = false := by simp; omega
      obtain ⟨b, off, rfl, hbl, hcell⟩ := HR.out.at_ (by omega)
      have hc0 := (HB.out.cell (p := ⟨b, off + j, none⟩) hbl).trans (hcell j (.string (sure.getD j ByteArray.empty)) (by simp [List.getD, List.getElem?_eq_getElem (show j < sure.length by have := HN.out; omega)]))
      have hj1 : (0 : Int) ≤ (j : Int) := by omega
      have hj2 : (j : Int) < (n : Int) := by omega
      clear hcell
      have hfm := find_miss wet sure j (fun q x hx => HNO.out q x (by have := (List.getElem?_eq_some_iff.1 hx).1; have := HM.out; omega) hx)
      have HFM := Lib.hid hfm
      clear hfm
      go_wp2_with fail
      refine bodyPost_ret (v := .tuple #[.string (sure.getD j ByteArray.empty), .int .i64 0]) (by simp [results, Tryz.results52, go_sem]) rfl ⟨by rw [HFM.out]; simp, ?_⟩
      exact HB.out

theorem rread_arg (v : Value) (d : DK) (at_ : Int) (w : World) (hv : IsDisk w v d) (hbad : ¬ (0 ≤ at_ ∧ at_ < d.sure.length)) :
    Calls Tryz.prog 52 #[v, .int .i64 at_] w fun e w' => e = .returned (.tuple #[.string ⟨#[]⟩, .int .i64 1]) ∧ Below w.heap.size w w' := by
  obtain ⟨sure, wet, dead, left⟩ := d
  obtain ⟨_, _, rfl, ⟨A, c, rfl, _⟩, ⟨A', c', rfl, _⟩⟩ := hv
  dsimp only at *
  by_cases h : at_ < 0
  · have hd1 : decide (at_ < 0) = true := decide_eq_true h
    go_enter Tryz.func52, Tryz.ntmps52
    go_wp2
    exact bodyPost_ret (v := .tuple #[.string ⟨#[]⟩, .int .i64 1]) (by simp [results, Tryz.results52, go_sem]) rfl ⟨rfl, (Below.refl _ _).alloc (Nat.le_refl _) _⟩
  · have hd1 : decide (at_ < 0) = false := decide_eq_false h
    have hd2 : decide ((sure.length : Int) ≤ at_) = true := by simp; omega
    go_enter Tryz.func52, Tryz.ntmps52
    go_wp2
    exact bodyPost_ret (v := .tuple #[.string ⟨#[]⟩, .int .i64 1]) (by simp [results, Tryz.results52, go_sem]) rfl ⟨rfl, (Below.refl _ _).alloc (Nat.le_refl _) _⟩

theorem rread_down (v : Value) (d : DK) (at_ : Int) (w : World) (hv : IsDisk w v d) (h1 : 0 ≤ at_) (h2 : at_ < d.sure.length) (hd : d.dead = true) :
    Calls Tryz.prog 52 #[v, .int .i64 at_] w fun e w' => e = .returned (.tuple #[.string ⟨#[]⟩, .int .i64 12]) ∧ Below w.heap.size w w' := by
  obtain ⟨sure, wet, dead, left⟩ := d
  obtain ⟨_, _, rfl, ⟨A, c, rfl, _⟩, ⟨A', c', rfl, _⟩⟩ := hv
  dsimp only at *
  subst hd
  have hd1 : decide (at_ < 0) = false := decide_eq_false (by omega)
  have hd2 : decide ((sure.length : Int) ≤ at_) = false := by simp; omega
  go_enter Tryz.func52, Tryz.ntmps52
  go_wp2
  exact bodyPost_ret (v := .tuple #[.string ⟨#[]⟩, .int .i64 12]) (by simp [results, Tryz.results52, go_sem]) rfl ⟨rfl, (Below.refl _ _).alloc (Nat.le_refl _) _⟩

end Go.Proofs.YtgeiemccjionpaaGreat.Dsk

/- DRSettle -/
namespace Go.Proofs.YtgeiemccjionpaaGreat.Dsk
open Go.RowKit
attribute [local go_sem ↓] Go.wp_at_zero Go.wp_at_succ

/-- What holds at each round's head: the new row, the disk's box as it came. -/
structure RSet (w : World) (v v0 vw : Value) (dead : Bool) (left : Int) (ss : List ByteArray) (wr : World) : Prop where
  own : wr.ownsRow (w.heap.size + 2) 9 1 v ss.length (ss.map Value.string)
  box : wr.heap[w.heap.size]? = some (.cells #[v0, vw, .bool dead, .int .i64 left] 27 (0, 0))
  res : wr.heap[w.heap.size + 1]? = some (.cells #[.slice none 0 0, .slice none 0 0, .bool false, .int .i64 0] 27 (0, 0))
  below : Below w.heap.size w wr

theorem RSet.drew {w : World} {v v0 vw : Value} {dead : Bool} {left : Int} {ss : List ByteArray} {wr : World} (h : RSet w v v0 vw dead left ss wr) : RSet w v v0 vw dead left ss wr.drew :=
  ⟨h.own, h.box, h.res, h.below.drew⟩

theorem RSet.set {w : World} {g n cc : Nat} {v0 vw : Value} {dead : Bool} {left : Int} {ss : List ByteArray} {wr : World} (h : RSet w (.slice (some ⟨g, 0, none⟩) n cc) v0 vw dead left ss wr) (j : Nat) (_hj : j < ss.length) (u : ByteArray) :
    RSet w (.slice (some ⟨g, 0, none⟩) n cc) v0 vw dead left (ss.set j u) (wr.setCell ⟨g, j, none⟩ (.string u)) := by
  obtain ⟨hl, hor⟩ := h.own
  rcases hor with ⟨hv, _⟩ | ⟨g', cap, cur, hv, hbg, hg, hnc, hcm, hcs, ht⟩
  · cases hv
  · injection hv with e1 e2 e3
    injection e1 with e1
    injection e1 with e1
    subst e1
    subst e3
    refine ⟨⟨by simp, .inr ⟨g, cc, cur.setIfInBounds j (.string u), ?_, hbg, heap_setCell_at hg, by simpa using hnc, hcm, by simpa using hcs, ?_⟩⟩, ?_, ?_, ?_⟩
    · rw [e2]; simp
    · simp only [List.length_set, Nat.mul_one, Array.toList_setIfInBounds, List.take_set]
      rw [Nat.mul_one] at ht
      rw [ht, List.map_set]
    · rw [Below.heap_setCell _ _ _ _ (by simp; omega)]; exact h.box
    · rw [Below.heap_setCell _ _ _ _ (by simp; omega)]; exact h.res
    · exact h.below.setCell (p := ⟨g, j, none⟩) (by simp; omega) _

theorem RSet.at_ {w : World} {g n cc : Nat} {v0 vw : Value} {dead : Bool} {left : Int} {ss : List ByteArray} {wr : World} (h : RSet w (.slice (some ⟨g, 0, none⟩) n cc) v0 vw dead left ss wr) (j : Nat) (hj : j < ss.length) :
    (∃ u, wr.cell? ⟨g, j, none⟩ = some (.string u)) ∧ wr.frozen? ⟨g, j, none⟩ = false ∧ w.heap.size + 1 < g := by
  obtain ⟨hl, hor⟩ := h.own
  rcases hor with ⟨hv, _⟩ | ⟨g', cap, cur, hv, hbg, hg, hnc, hcm, hcs, ht⟩
  · cases hv
  · injection hv with e1 e2 e3
    injection e1 with e1
    injection e1 with e1
    subst e1
    refine ⟨⟨ss[j], ?_⟩, ?_, by omega⟩
    · have := h.own.cells (g := g) rfl j (.string ss[j]) (by simp [hj])
      rw [Addr.add_lit, Nat.zero_add] at this
      exact this
    · simp [World.frozen?, hg]

theorem info9s : (Tryz.prog.info? 9).map (fun i => (i.zero, i.size, i.bytes)) = some (some (.string ⟨#[]⟩), 1, 16) := by kernel_rfl

set_option maxRecDepth 100000 in
set_option maxHeartbeats 2000000 in
theorem rsettle_some (b off : Nat) (sure : List ByteArray) (c : Nat) (A' : Option Addr) (c' : Nat) (wet : List Wt) (dead : Bool) (left : Int) (stay : Nat) (w : World) (hst64 : stay < 18446744073709551616) (hn : sure.length ≤ 1000000) (hm : wet.length ≤ 1000000)
    (hin : ∀ o ∈ wet, 0 ≤ o.1 ∧ o.1 < sure.length)
    (h1 : SL w 9 1 (.slice (some ⟨b, off, none⟩) sure.length c) sure.length (sure.map Value.string)) (h2 : SL w 106 2 (.slice A' wet.length c') wet.length (wetCells wet)) :
    Calls Tryz.prog 57 #[.agg #[.slice (some ⟨b, off, none⟩) sure.length c, .slice A' wet.length c', .bool dead, .int .i64 left], .int .u64 stay] w fun e w' =>
      ∃ v, e = .returned (.agg #[v, .slice none 0 0, .bool dead, .int .i64 left]) ∧ SL w' 9 1 v sure.length ((settleF stay wet sure).map Value.string) ∧ Below w.heap.size w w' := by
  obtain ⟨n, hnl⟩ : ∃ n, n = sure.length := ⟨_, rfl⟩
  obtain ⟨m, hml⟩ : ∃ m, m = wet.length := ⟨_, rfl⟩
  obtain ⟨i0, hi, hz0, hz1, hz2⟩ := info_parts info9s
  rw [← hnl] at h1 hn ⊢
  rw [← hml] at h2 hm ⊢
  have H64 := Lib.hid hst64
  have HN := Lib.hid hnl
  have HM := Lib.hid hml
  have H1 := Lib.hid h1
  have H2 := Lib.hid h2
  have HIN := Lib.hid hin
  clear hnl hml h1 h2 hst64 hin
  have hb0 : Below w.heap.size w (((w.alloc (.cells #[.slice (some ⟨b, off, none⟩) n c, .slice A' m c', .bool dead, .int .i64 left] 27)).alloc (.cells #[.slice none 0 0, .slice none 0 0, .bool false, .int .i64 0] 27)).alloc (.cells #[] 9)) := (((Below.refl _ _).alloc (Nat.le_refl _) _).alloc (by simp) _).alloc (by simp; omega) _
  obtain ⟨X, hX, hXs, hG1, hG2, hO, hbX⟩ : ∃ X, ((w.alloc (.cells #[.slice (some ⟨b, off, none⟩) n c, .slice A' m c', .bool dead, .int .i64 left] 27)).alloc (.cells #[.slice none 0 0, .slice none 0 0, .bool false, .int .i64 0] 27)).alloc (.cells #[] 9) = X ∧ X.heap.size = w.heap.size + 3 ∧ X.heap[w.heap.size]? = some (.cells #[.slice (some ⟨b, off, none⟩) n c, .slice A' m c', .bool dead, .int .i64 left] 27 (0, 0)) ∧ X.heap[w.heap.size + 1]? = some (.cells #[.slice none 0 0, .slice none 0 0, .bool false, .int .i64 0] 27 (0, 0)) ∧ X.ownsRow (w.heap.size + 2) 9 1 (.slice (some ⟨w.heap.size + 2, 0, none⟩) 0 0) 0 [] ∧ Below w.heap.size w X := by
    refine ⟨_, rfl, by simp, box_alloc (box_alloc (heap_alloc_new w _) _) _, ?_, ⟨rfl, .inr ⟨w.heap.size + 2, 0, #[], rfl, Nat.le_refl _, ?_, Nat.le_refl _, by decide, rfl, rfl⟩⟩, hb0⟩
    · exact box_alloc (by have := heap_alloc_new (w.alloc (.cells #[.slice (some ⟨b, off, none⟩) n c, .slice A' m c', .bool dead, .int .i64 left] 27)) (.cells #[.slice none 0 0, .slice none 0 0, .bool false, .int .i64 0] 27); simpa using this) _
    · have := heap_alloc_new ((w.alloc (.cells #[.slice (some ⟨b, off, none⟩) n c, .slice A' m c', .bool dead, .int .i64 left] 27)).alloc (.cells #[.slice none 0 0, .slice none 0 0, .bool false, .int .i64 0] 27)) (.cells #[] 9)
      simpa using this
  have hsrc : ∀ (j : Nat) (u : Value), (sure.map Value.string)[j]? = some u → X.cell? ((⟨b, off, none⟩ : Addr).add j) = some u := by
    intro j u hj
    obtain ⟨A3, c3, e3, _, hr⟩ := H1.out
    cases e3
    have hpos : 0 < n := by
      have h1 := (List.getElem?_eq_some_iff.1 hj).1
      have h2 := HN.out
      rw [List.length_map] at h1
      omega
    obtain ⟨b2, off2, e2, hbl, hc⟩ := hr.at_ hpos
    cases e2
    rw [Addr.add_lit]
    exact (hbX.cell (p := ⟨b, off + j, none⟩) hbl).trans (hc j u hj)
  have HX := Lib.hid hX
  have HG1 := Lib.hid hG1
  have HG2 := Lib.hid hG2
  have HO := Lib.hid hO
  have HBX := Lib.hid hbX
  have HSRC := Lib.hid hsrc
  have HXS := Lib.hid hXs
  clear hb0 hX hG1 hG2 hO hbX hsrc hXs
  go_enter Tryz.func57, Tryz.ntmps57
  go_wp2_with (at_builtin; rw [HX.out]; refine wpList_append_own_at _ (by rfl) (.tmp 7) (.tmp 9) 24 (by rfl) (w.heap.size + 2) 9 i0 (.string ⟨#[]⟩) 1 16 Tryz.underlying24 hi hz0 hz1 hz2 (by rfl) (by omega) (.slice (some ⟨w.heap.size + 2, 0, none⟩) 0 0) 0 [] (by rfl) (by exact HO.out) ⟨b, off, none⟩ n c (sure.map Value.string) (by rfl) (by rw [HN.out]; simp) (by exact HSRC.out) (by simp [Value.oneCell']) (Nat.le_trans (show 0 + n ≤ 1000000 by omega) (by decide)) (by omega) (by rw [HXS.out]; omega) ?_; intro v1 w1 hown1 hgrow1 hnil1 hat1)
  rw [Nat.zero_add, List.nil_append] at hown1
  obtain ⟨A2, cc2, ev, _⟩ := SL.of_own hown1
  subst ev
  have hrel0 : RSet w (.slice A2 n cc2) (.slice (some ⟨b, off, none⟩) n c) (.slice A' m c') dead left (settleK stay wet sure 0) w1 := by
    refine ⟨?_, box_grown HG1.out hgrow1 ?_, box_grown HG2.out hgrow1 ?_, HBX.out.grown hgrow1 (by rw [HXS.out]; omega) ?_⟩
    · show w1.ownsRow (w.heap.size + 2) 9 1 _ sure.length (sure.map Value.string)
      rw [← HN.out]
      exact hown1
    · simp [Value.ownBlock]
    · simp [Value.ownBlock]
    · intro k e
      simp [Value.ownBlock] at e
      omega
  have HR0 := Lib.hid hrel0
  clear hown1 hgrow1 hnil1 hat1 hrel0 HX HG1 HG2 HO HBX HSRC HXS
  obtain ⟨⟨p0, p1, p2, p3⟩, _⟩ := box4 HR0.out.box
  go_loopw [6] (fun u wr => ∃ k : Nat, k ≤ m ∧ u = .int .i64 k ∧ RSet w (.slice A2 n cc2) (.slice (some ⟨b, off, none⟩) n c) (.slice A' m c') dead left (settleK stay wet sure k) wr) (fun u _ => m - (intOf u).toNat)
  case atStart => exact ⟨0, Nat.zero_le _, rfl, HR0.out⟩
  case round =>
    obtain ⟨k, hk, rfl, hrel⟩ := hrel
    clear HR0 p0 p1 p2 p3
    obtain ⟨⟨p0, p1, p2, p3⟩, f0, f1, f2, f3⟩ := box4 hrel.box
    by_cases hlt : k < m
    · obtain ⟨o, ho⟩ : ∃ o, wet[k]? = some o := ⟨_, List.getElem?_eq_getElem (by have := HM.out; omega)⟩
      obtain ⟨A3, c3, e3, _, hr2⟩ := H2.out
      cases e3
      obtain ⟨bw, ow, rfl, hbl, hcell⟩ := hr2.at_ (by omega)
      have hw := wetCells_at wet k o ho
      have hst : settleK stay wet sure (k + 1) = setStep stay k o (settleK stay wet sure k) := by
        show (match wet[k]? with | some o => setStep stay k o (settleK stay wet sure k) | none => settleK stay wet sure k) = _
        rw [ho]
      have hlen : (settleK stay wet sure k).length = n := by rw [settleK_length, HN.out]
      have hino := HIN.out o (List.mem_of_getElem? ho)
      rw [← HN.out] at hino
      obtain ⟨oa, od⟩ := o
      dsimp only at hino
      obtain ⟨j, rfl⟩ := Int.eq_ofNat_of_zero_le hino.1
      have hj : j < n := by omega
      have hc0 : wr.cell? ⟨bw, ow + k * 2, none⟩ = some (.int .i64 j) := (hrel.below.cell (p := ⟨bw, ow + k * 2, none⟩) hbl).trans (hcell _ _ hw.1)
      have hc1 : wr.cell? ⟨bw, ow + k * 2 + 1, none⟩ = some (.string od) := (hrel.below.cell (p := ⟨bw, ow + k * 2 + 1, none⟩) hbl).trans (hcell _ _ hw.2)
      have HS := Lib.hid hst
      have HL := Lib.hid hlen
      have hk1 : k + 1 ≤ m := hlt
      have hk0 : (0 : Int) ≤ (k : Int) := by omega
      have hk2 : (k : Int) < (m : Int) := by omega
      have hj0 : (0 : Int) ≤ (j : Int) := by omega
      have hj2 : (j : Int) < (n : Int) := by omega
      clear hcell hw ho hst hlen hr2 hino
      have hbt := bit_test stay (k % 64) H64.out
      by_cases hb : stay.testBit (k % 64) = true
      · rw [if_pos hb] at hbt
        obtain ⟨g, cap, hv, _, hgl⟩ := hrel.own.form (by rw [HL.out]; omega)
        injection hv with e1 e2 e3
        subst e1
        obtain ⟨⟨u, s0⟩, s1, s2⟩ := hrel.at_ j (by rw [HL.out]; exact hj)
        have hne1 : g ≠ w.heap.size := by omega
        have hs' : settleK stay wet sure (k + 1) = (settleK stay wet sure k).set j od := by
          rw [HS.out]; unfold setStep; rw [if_pos]
          · rfl
          · exact ⟨hb, by simp, by rw [HL.out]; simpa using hj⟩
        have HS' := Lib.hid hs'
        have HREL := Lib.hid hrel
        clear hb hs' e2 e3 hrel
        go_wp2_with fail
        go_region_with (fail)
        all_goals
          go_wp2_with fail
          exact ⟨⟨k + 1, hk1, by go_num, by rw [HS'.out]; exact HREL.out.drew.set j (by rw [HL.out]; exact hj) od⟩, by simp [intOf]; omega⟩
      · rw [if_neg hb] at hbt
        have hs' : settleK stay wet sure (k + 1) = settleK stay wet sure k := by
          rw [HS.out]; unfold setStep; rw [if_neg]; exact fun h => hb h.1
        have HS' := Lib.hid hs'
        have HREL := Lib.hid hrel
        clear hb hs' hrel
        go_wp2_with fail
        exact ⟨⟨k + 1, hk1, by go_num, by rw [HS'.out]; exact HREL.out⟩, by simp [intOf]; omega⟩
    · have hkm : k = m := by omega
      have hfin : settleF stay wet sure = settleK stay wet sure k := by rw [hkm, HM.out]; rfl
      have HF := Lib.hid hfin
      have hlen : (settleK stay wet sure k).length = n := by rw [settleK_length, HN.out]
      have HL := Lib.hid hlen
      obtain ⟨⟨hq0, hq1, hq2, hq3⟩, hg0, hg1, hg2, hg3⟩ := box4 hrel.res
      clear hkm hfin hlen
      go_wp2_with fail
      refine bodyPost_ret (v := .agg #[.slice A2 n cc2, .slice none 0 0, .bool dead, .int .i64 left]) (by simp [results, Tryz.results57, go_sem, hq0, hq1, hq2, hq3]) rfl ⟨_, rfl, ?_, ?_⟩
      · have h0' := SL.of_own hrel.own
        rw [HL.out, ← HF.out] at h0'
        have h1' := h0'.other (w' := (wr.setCell ⟨w.heap.size, 0, none⟩ (.slice A2 n cc2)).setCell ⟨w.heap.size, 1, none⟩ (.slice none 0 0)) hrel.box (by decide) (fun b hb => by rw [Below.heap_setCell _ _ _ _ hb, Below.heap_setCell _ _ _ _ hb])
        exact h1'.other (by rw [Below.heap_setCell _ _ _ _ (by simp), Below.heap_setCell _ _ _ _ (by simp)]; exact hrel.res) (by decide) (store4_other _ _ _ _ _ _)
      · exact below_store4 ((hrel.below.setCell (p := ⟨w.heap.size, 0, none⟩) (Nat.le_refl _) _).setCell (p := ⟨w.heap.size, 1, none⟩) (Nat.le_refl _) _) _ (by omega) _ _ _ _

end Go.Proofs.YtgeiemccjionpaaGreat.Dsk

/- DRFlush -/
namespace Go.Proofs.YtgeiemccjionpaaGreat.Dsk
open Go.RowKit

set_option maxRecDepth 100000 in
set_option maxHeartbeats 1000000 in
theorem rsettle_nil (c : Nat) (A' : Option Addr) (c' : Nat) (dead : Bool) (left : Int) (stay : Nat) (w : World) :
    Calls Tryz.prog 57 #[.agg #[.slice none 0 c, .slice A' 0 c', .bool dead, .int .i64 left], .int .u64 stay] w fun e w' =>
      ∃ g, e = .returned (.agg #[.slice g 0 0, .slice none 0 0, .bool dead, .int .i64 left]) ∧ Below w.heap.size w w' := by
  go_enter Tryz.func57, Tryz.ntmps57
  go_wp2_with fail
  refine wp_loop_rounds 1 ?_
  rw [rounds_succ]
  go_wp2_with fail
  exact bodyPost_ret (v := .agg #[.slice (some ⟨w.heap.size + 1 + 1, 0, none⟩) 0 0, .slice none 0 0, .bool dead, .int .i64 left]) (by simp [results, Tryz.results57, go_sem]) rfl ⟨_, rfl, (((Below.refl _ _).alloc (Nat.le_refl _) _).alloc (by simp) _).alloc (by simp; omega) _⟩

set_option maxRecDepth 100000 in
set_option maxHeartbeats 1000000 in
theorem rsettle_zero (a : Addr) (c : Nat) (A' : Option Addr) (c' : Nat) (dead : Bool) (left : Int) (stay : Nat) (w : World) :
    Calls Tryz.prog 57 #[.agg #[.slice (some a) 0 c, .slice A' 0 c', .bool dead, .int .i64 left], .int .u64 stay] w fun e w' =>
      ∃ g, e = .returned (.agg #[.slice g 0 0, .slice none 0 0, .bool dead, .int .i64 left]) ∧ Below w.heap.size w w' := by
  go_enter Tryz.func57, Tryz.ntmps57
  go_wp2_with fail
  refine wp_loop_rounds 1 ?_
  rw [rounds_succ]
  go_wp2_with fail
  exact bodyPost_ret (v := .agg #[.slice (some ⟨w.heap.size + 1 + 1, 0, none⟩) 0 0, .slice none 0 0, .bool dead, .int .i64 left]) (by simp [results, Tryz.results57, go_sem]) rfl ⟨_, rfl, (((Below.refl _ _).alloc (Nat.le_refl _) _).alloc (by simp) _).alloc (by simp; omega) _⟩

/-- ref.settle. -/
theorem rsettle_calls (v : Value) (d : DK) (stay : Nat) (w : World) (hv : IsDisk w v d) (hst : stay < 18446744073709551616) (hn : d.sure.length ≤ 1000000) (hm : d.wet.length ≤ 1000000) (hin : WetIn d) :
    Calls Tryz.prog 57 #[v, .int .u64 stay] w fun e w' => ∃ v', e = .returned v' ∧ IsDisk w' v' { d with sure := settleF stay d.wet d.sure, wet := [] } ∧ Below w.heap.size w w' := by
  obtain ⟨sure, wet, dead, left⟩ := d
  obtain ⟨_, _, rfl, h3, h4⟩ := hv
  obtain ⟨A, c, rfl, hc, hr⟩ := id h3
  obtain ⟨A', c', rfl, hc', hr'⟩ := id h4
  unfold WetIn at hin
  dsimp only at *
  cases A with
  | none =>
    have h0 : sure.length = 0 := by
      rcases Nat.eq_zero_or_pos sure.length with h | h
      · exact h
      · obtain ⟨b, off, e, _⟩ := hr.at_ h
        cases e
    have e0 : sure = [] := List.eq_nil_of_length_eq_zero h0
    subst e0
    have e1 : wet = [] := by
      cases wet with
      | nil => rfl
      | cons o l => have := hin o (by simp); simp at this; omega
    subst e1
    refine (rsettle_nil c A' c' dead left stay w).mono ?_
    rintro e w' ⟨g, rfl, hb⟩
    exact ⟨_, rfl, ⟨_, _, rfl, ⟨g, 0, rfl, Nat.le_refl _, Reads.none_⟩, SL.nil _ _ _⟩, hb⟩
  | some a =>
    rcases Nat.eq_zero_or_pos sure.length with h0 | h0
    · have e0 : sure = [] := List.eq_nil_of_length_eq_zero h0
      subst e0
      have e1 : wet = [] := by
        cases wet with
        | nil => rfl
        | cons o l => have := hin o (by simp); simp at this; omega
      subst e1
      refine (rsettle_zero a c A' c' dead left stay w).mono ?_
      rintro e w' ⟨g, rfl, hb⟩
      exact ⟨_, rfl, ⟨_, _, rfl, ⟨g, 0, rfl, Nat.le_refl _, Reads.none_⟩, SL.nil _ _ _⟩, hb⟩
    obtain ⟨b, off, ea, _⟩ := hr.at_ h0
    injection ea with ea
    subst ea
    refine (rsettle_some b off sure c A' c' wet dead left stay w hst hn hm hin h3 h4).mono ?_
    rintro e w' ⟨v', rfl, hs, hb⟩
    refine ⟨_, rfl, ⟨_, _, rfl, ?_, SL.nil _ _ _⟩, hb⟩
    have e1 : (settleF stay wet sure).length = sure.length := settleK_length _ _ _ _
    dsimp only
    rw [e1]
    exact hs

theorem rsettle_all (v : Value) (d : DK) (w : World) (hv : IsDisk w v d) (hd : d.ok) (hin : WetIn d) :
    Calls Tryz.prog 57 #[v, .int .u64 18446744073709551615] w fun e w' => ∃ v', e = .returned v' ∧ IsDisk w' v' { d with sure := settleF allBits d.wet d.sure, wet := [] } ∧ Below w.heap.size w w' :=
  rsettle_calls v d allBits w hv (by decide) (by have := hd.sure; omega) (by have := hd.wet; omega) hin

set_option maxRecDepth 100000 in
set_option maxHeartbeats 1000000 in
theorem rflush_calls (v : Value) (d : DK) (w : World) (hv : IsDisk w v d) (hd : d.ok) (hin : WetIn d) :
    Calls Tryz.prog 33 #[v] w fun e w' => ∃ v', e = .returned (.tuple #[v', .int .i64 (if deedB d = true then 0 else 12)]) ∧ IsDisk w' v' (if deedB d = true then { deedD d with sure := settleF allBits d.wet d.sure, wet := [] } else deedD d) ∧ Below w.heap.size w w' := by
  obtain ⟨A, n, c, A', m, c', rfl⟩ := hv.parts
  have hwt : (deedD d).wet = d.wet := by unfold deedD; split <;> (try split) <;> rfl
  have hsr : (deedD d).sure = d.sure := by unfold deedD; split <;> (try split) <;> rfl
  have hdo := deedD_ok hd
  have hdi : WetIn (deedD d) := by unfold WetIn; rw [hwt, hsr]; exact hin
  obtain ⟨d1, hd1⟩ : ∃ d1, d1 = deedD d := ⟨_, rfl⟩
  obtain ⟨b1, hb1⟩ : ∃ b1, b1 = deedB d := ⟨_, rfl⟩
  have hde : ∀ W : World, Below w.heap.size w W → Calls Tryz.prog 55 #[.agg #[.slice A n c, .slice A' m c', .bool d.dead, .int .i64 d.left]] W fun e w' => ∃ v', e = .returned (.tuple #[v', .bool b1]) ∧ IsDisk w' v' d1 ∧ Below W.heap.size W w' := fun W hb => by
    rw [hd1, hb1]; exact rdeed_calls _ d W (hv.below hb) hd.lo hd.hi
  rw [← hd1] at hwt hsr hdo hdi ⊢
  rw [← hb1, ← hwt, ← hsr]
  clear hd1 hb1 hwt hsr hv hd hin
  obtain ⟨sure, wet, dead, left⟩ := d
  dsimp only at hde
  have HDE := Lib.hid hde
  have HDO := Lib.hid hdo
  have HDI := Lib.hid hdi
  clear hde hdo hdi
  go_enter Tryz.func33, Tryz.ntmps33
  go_wp2_with fail
  have hb0 : Below w.heap.size w ((w.alloc (.cells #[.slice A n c, .slice A' m c', .bool dead, .int .i64 left] 27)).alloc (.cells #[.slice none 0 0, .slice none 0 0, .bool false, .int .i64 0] 27)) := ((Below.refl _ _).alloc (Nat.le_refl _) _).alloc (by simp) _
  with_reducible refine (HDE.out _ hb0).mono ?_
  clear HDE
  rintro e w1 ⟨v1, rfl, hv1, hb1⟩
  obtain ⟨A1, n1, c1, A1', m1, c1', rfl⟩ := hv1.parts
  obtain ⟨sure1, wet1, dead1, left1⟩ := d1
  dsimp only at hv1 ⊢
  have hg1 := box_kept w.heap.size (box_alloc (heap_alloc_new w _) _) hb1
  have hg2 : w1.heap[w.heap.size + 1]? = some (.cells #[.slice none 0 0, .slice none 0 0, .bool false, .int .i64 0] 27 (0, 0)) := box_kept (w.heap.size + 1) (by have := heap_alloc_new (w.alloc (.cells #[.slice A n c, .slice A' m c', .bool dead, .int .i64 left] 27)) (.cells #[.slice none 0 0, .slice none 0 0, .bool false, .int .i64 0] 27); simpa using this) hb1
  have hbw := below_trans' hb0 hb1
  obtain ⟨w2, e2, hG2, hK2, hB2⟩ := box_store4 hg1 (.slice A1 n1 c1) (.slice A1' m1 c1') (.bool dead1) (.int .i64 left1)
  have HV2 := Lib.hid (hv1.other hg1 (by decide) (by decide) hK2)
  have HB := Lib.hid (hB2 _ _ hbw (Nat.le_refl _))
  have hr2 : w2.heap[w.heap.size + 1]? = _ := (hK2 _ (by omega)).trans hg2
  obtain ⟨⟨hp0, hp1, hp2, hp3⟩, hf0, hf1, hf2, hf3⟩ := box4 hg1
  have HG2 := Lib.hid hG2
  have HR2 := Lib.hid hr2
  have E2 := Lib.hid e2
  clear hb0 hb1 hv1 hg1 hg2 hbw e2 hG2 hK2 hB2 hr2
  go_upto_region 2 with (fail)
  rw [E2.out]
  clear hp0 hp1 hp2 hp3 hf0 hf1 hf2 hf3 E2
  obtain ⟨⟨hp0, hp1, hp2, hp3⟩, hf0, hf1, hf2, hf3⟩ := box4 HG2.out
  obtain ⟨⟨hq0, hq1, hq2, hq3⟩, hr0, hr1, hr2, hr3⟩ := box4 HR2.out
  cases b1 with
  | false =>
    go_wp2_with fail
    refine bodyPost_ret (v := .tuple #[.agg #[.slice A1 n1 c1, .slice A1' m1 c1', .bool dead1, .int .i64 left1], .int .i64 12]) (by simp [results, Tryz.results33, go_sem, hq0, hq1, hq2, hq3]) rfl ⟨_, rfl, ?_, ?_⟩
    · exact HV2.out.other HR2.out (by decide) (by decide) (store4_other _ _ _ _ _ _)
    · exact below_store4 HB.out _ (by omega) _ _ _ _
  | true =>
    go_wp2_with fail
    with_reducible refine (rsettle_all _ _ _ HV2.out HDO.out HDI.out).mono ?_
    rintro e w3 ⟨v3, rfl, hv3, hb3⟩
    obtain ⟨A3, n3, c3, A3', m3, c3', rfl⟩ := hv3.parts
    dsimp only at hv3 ⊢
    have hg3 := box_kept _ HR2.out hb3
    have HV3 := Lib.hid hv3
    have HB3 := Lib.hid (below_trans' HB.out (hb3.mono (by have := HB.out.size; omega)))
    have HG3 := Lib.hid hg3
    clear hq0 hq1 hq2 hq3 hr0 hr1 hr2 hr3 hp0 hp1 hp2 hp3 hf0 hf1 hf2 hf3
    obtain ⟨⟨hq0, hq1, hq2, hq3⟩, hr0, hr1, hr2, hr3⟩ := box4 hg3
    clear hv3 hb3 hg3
    go_wp2_with fail
    refine bodyPost_ret (v := .tuple #[.agg #[.slice A3 n3 c3, .slice A3' m3 c3', .bool dead1, .int .i64 left1], .int .i64 0]) (by simp [results, Tryz.results33, go_sem, hq0, hq1, hq2, hq3]) rfl ⟨_, rfl, ?_, ?_⟩
    · exact HV3.out.other HG3.out (by decide) (by decide) (store4_other _ _ _ _ _ _)
    · exact below_store4 HB3.out _ (by omega) _ _ _ _
end Go.Proofs.YtgeiemccjionpaaGreat.Dsk
