/- disk.Flush and disk.Start. No statement is proved here. -/
import Derived.Test.YtnnbbkfdijionaaSettle
import Derived.Test.YtnnbbkfdijionaaDeed
import Derived.Deep.Cut
namespace Go.Proofs.Ytnnbbkfdijionaa
open Go.RowKit

def allBits : Nat := 18446744073709551615

/-- A disk may be handed on: few sectors, a left that is an int. -/
structure DK.ok (d : DK) : Prop where
  sure : d.sure.length ≤ 2000
  wet : d.wet.length ≤ 2000
  lo : -1 ≤ d.left
  hi : d.left ≤ 9223372036854775807

theorem deedD_ok {d : DK} (h : d.ok) : (deedD d).ok := by
  unfold deedD
  split
  · exact ⟨h.sure, h.wet, h.lo, h.hi⟩
  · split
    · exact ⟨h.sure, h.wet, by dsimp only; omega, by have := h.hi; dsimp only; omega⟩
    · exact h

theorem settled_all (v : Value) (d : DK) (w : World) (hv : IsDisk w v d) (hd : d.ok) :
    Calls Try.prog 31 #[v, .int .u64 18446744073709551615] w fun e w' => ∃ v', e = .returned v' ∧ IsDisk w' v' { d with sure := settleF allBits d.wet d.sure, wet := [] } ∧ Below w.heap.size w w' :=
  settled_calls v d allBits w hv (by decide) (by have := hd.sure; omega) (by have := hd.wet; omega)

/-- The parts of a disk's value. -/
theorem IsDisk.parts {w : World} {v : Value} {d : DK} (h : IsDisk w v d) : ∃ A n c A' m c', v = .agg #[.slice A n c, .slice A' m c', .bool d.dead, .int .i64 d.left] := by
  obtain ⟨vs, vw, rfl, h3, h4⟩ := h
  obtain ⟨A, c, rfl, _⟩ := h3
  obtain ⟨A', c', rfl, _⟩ := h4
  exact ⟨A, _, c, A', _, c', rfl⟩

/-- Stores into a box of another type leave a disk. -/
theorem IsDisk.other {w w' : World} {v : Value} {d : DK} (h : IsDisk w v d) {g : Nat} {t : TypeId} {cur : Array Value} {fr : Nat × Nat} (hg : w.heap[g]? = some (.cells cur t fr)) (h9 : t ≠ 9) (h52 : t ≠ 52) (hk : ∀ b : Nat, b ≠ g → w'.heap[b]? = w.heap[b]?) : IsDisk w' v d := by
  obtain ⟨vs, vw, e, h3, h4⟩ := h
  exact ⟨vs, vw, e, h3.other hg h9 hk, h4.other hg h52 hk⟩

theorem IsDisk.redo {w : World} {A A' : Option Addr} {n c m c' : Nat} {b : Bool} {l : Int} {d : DK} (h : IsDisk w (.agg #[.slice A n c, .slice A' m c', .bool b, .int .i64 l]) d) (x : Bool) (y : Int) :
    IsDisk w (.agg #[.slice A n c, .slice A' m c', .bool x, .int .i64 y]) { d with dead := x, left := y } := by
  obtain ⟨vs, vw, e, h3, h4⟩ := h
  simp only [Value.agg.injEq, Array.mk.injEq, List.cons.injEq] at e
  obtain ⟨rfl, rfl, _⟩ := e
  exact ⟨_, _, rfl, h3, h4⟩

theorem heap_store4 {w : World} {g : Nat} {v0 v1 v2 v3 u0 u1 u2 u3 : Value} {t : TypeId} {fr : Nat × Nat} (h : w.heap[g]? = some (.cells #[v0, v1, v2, v3] t fr)) :
    ((((w.setCell ⟨g, 0, none⟩ u0).setCell ⟨g, 1, none⟩ u1).setCell ⟨g, 2, none⟩ u2).setCell ⟨g, 3, none⟩ u3).heap[g]? = some (.cells #[u0, u1, u2, u3] t fr) := by
  rw [heap_setCell_at (heap_setCell_at (heap_setCell_at (heap_setCell_at h)))]; rfl

/-- The world behind the store of a whole box, under a name of its own. -/
theorem box_store4 {w : World} {g : Nat} {v0 v1 v2 v3 : Value} {t : TypeId} (h : w.heap[g]? = some (.cells #[v0, v1, v2, v3] t (0, 0))) (u0 u1 u2 u3 : Value) :
    ∃ w2, (((w.setCell ⟨g, 0, none⟩ u0).setCell ⟨g, 1, none⟩ u1).setCell ⟨g, 2, none⟩ u2).setCell ⟨g, 3, none⟩ u3 = w2 ∧ w2.heap[g]? = some (.cells #[u0, u1, u2, u3] t (0, 0)) ∧
      (∀ k : Nat, k ≠ g → w2.heap[k]? = w.heap[k]?) ∧ (∀ (B : Nat) (a : World), Below B a w → B ≤ g → Below B a w2) :=
  ⟨_, rfl, heap_store4 h, fun k hk => store4_other _ _ _ _ _ _ k hk, fun _ _ hb hg => below_store4 hb _ hg _ _ _ _⟩

set_option maxHeartbeats 1000000 in
theorem start_calls (v : Value) (d : DK) (stay : Nat) (w : World) (hv : IsDisk w v d) (hd : d.ok) (hst : stay < 18446744073709551616) :
    Calls Try.prog 20 #[v, .int .u64 stay] w fun e w' => ∃ v', e = .returned v' ∧ IsDisk w' v' ⟨settleF stay d.wet d.sure, [], false, -1⟩ ∧ Below w.heap.size w w' := by
  obtain ⟨A, n, c, A', m, c', rfl⟩ := hv.parts
  obtain ⟨sure, wet, dead, left⟩ := d
  dsimp only at hv ⊢
  have HV := Lib.hid hv
  have HD := Lib.hid hd
  have HS := Lib.hid hst
  clear hv hd hst
  go_enter Try.func20, Try.ntmps20
  go_wp2_with fail
  have hb0 : Below w.heap.size w ((w.alloc (.cells #[.slice A n c, .slice A' m c', .bool dead, .int .i64 left] 28)).alloc (.cells #[.slice none 0 0, .slice none 0 0, .bool false, .int .i64 0] 28)) := ((Below.refl _ _).alloc (Nat.le_refl _) _).alloc (by simp) _
  have hcl := settled_calls _ _ stay _ (HV.out.below hb0) HS.out (by have := HD.out.sure; omega) (by have := HD.out.wet; omega)
  with_reducible refine hcl.mono ?_
  clear hcl
  rintro e w1 ⟨v1, rfl, hv1, hb1⟩
  obtain ⟨A1, n1, c1, A1', m1, c1', rfl⟩ := hv1.parts
  dsimp only at hv1 ⊢
  have hg1 := box_kept w.heap.size (box_alloc (heap_alloc_new w _) _) hb1
  have hg2 : w1.heap[w.heap.size + 1]? = some (.cells #[.slice none 0 0, .slice none 0 0, .bool false, .int .i64 0] 28 (0, 0)) := box_kept (w.heap.size + 1) (by have := heap_alloc_new (w.alloc (.cells #[.slice A n c, .slice A' m c', .bool dead, .int .i64 left] 28)) (.cells #[.slice none 0 0, .slice none 0 0, .bool false, .int .i64 0] 28); simpa using this) hb1
  have hbw := below_trans' hb0 hb1
  obtain ⟨w2, e2, hG2, hK2, hB2⟩ := box_store4 hg1 (.slice A1 n1 c1) (.slice A1' m1 c1') (.bool dead) (.int .i64 left)
  have HV2 := Lib.hid (hv1.other hg1 (by decide) (by decide) hK2)
  have HB := Lib.hid (hB2 _ _ hbw (Nat.le_refl _))
  have hr2 : w2.heap[w.heap.size + 1]? = _ := (hK2 _ (by omega)).trans hg2
  obtain ⟨⟨hp0, hp1, hp2, hp3⟩, hf0, hf1, hf2, hf3⟩ := box4 hg1
  have HG2 := Lib.hid hG2
  have HR2 := Lib.hid hr2
  have E2 := Lib.hid e2
  clear hb0 hb1 hv1 hg1 hg2 hbw e2 hG2 hK2 hB2 hr2
  go_upto_region 2 with (fail)
  rw [E2.out]
  clear hp0 hp1 hp2 hp3 hf0 hf1 hf2 hf3 E2
  obtain ⟨⟨hp0, hp1, hp2, hp3⟩, hf0, hf1, hf2, hf3⟩ := box4 HG2.out
  obtain ⟨⟨hq0, hq1, hq2, hq3⟩, hr0, hr1, hr2, hr3⟩ := box4 HR2.out
  go_wp2_with fail
  refine bodyPost_ret (v := .agg #[.slice A1 n1 c1, .slice A1' m1 c1', .bool false, .int .i64 (-1)]) (by simp [results, Try.results20, go_sem, hq0, hq1, hq2, hq3, hr0, hr1, hr2, hr3]) rfl ⟨_, rfl, ?_, ?_⟩
  · have h1 : IsDisk w2 (.agg #[.slice A1 n1 c1, .slice A1' m1 c1', .bool false, .int .i64 (-1)]) ⟨settleF stay wet sure, [], false, -1⟩ := HV2.out.redo false (-1)
    have h2 := h1.other (w' := (w2.setCell ⟨w.heap.size, 2, none⟩ (.bool false)).setCell ⟨w.heap.size, 3, none⟩ (.int .i64 (-1))) HG2.out (by decide) (by decide) (fun b hb => by rw [Below.heap_setCell _ _ _ _ hb, Below.heap_setCell _ _ _ _ hb])
    exact h2.other (by rw [Below.heap_setCell _ _ _ _ (by simp), Below.heap_setCell _ _ _ _ (by simp)]; exact HR2.out) (by decide) (by decide) (store4_other _ _ _ _ _ _)
  · exact below_store4 ((HB.out.setCell (p := ⟨w.heap.size, 2, none⟩) (Nat.le_refl _) _).setCell (p := ⟨w.heap.size, 3, none⟩) (Nat.le_refl _) _) _ (by omega) _ _ _ _

set_option maxHeartbeats 1000000 in
theorem flush_calls (v : Value) (d : DK) (w : World) (hv : IsDisk w v d) (hd : d.ok) :
    Calls Try.prog 19 #[v] w fun e w' => ∃ v', e = .returned (.tuple #[v', .int .i64 (if deedB d = true then 0 else 12)]) ∧ IsDisk w' v' (if deedB d = true then { deedD d with sure := settleF allBits d.wet d.sure, wet := [] } else deedD d) ∧ Below w.heap.size w w' := by
  obtain ⟨A, n, c, A', m, c', rfl⟩ := hv.parts
  have hwt : (deedD d).wet = d.wet := by unfold deedD; split <;> (try split) <;> rfl
  have hsr : (deedD d).sure = d.sure := by unfold deedD; split <;> (try split) <;> rfl
  have hdo := deedD_ok hd
  obtain ⟨d1, hd1⟩ : ∃ d1, d1 = deedD d := ⟨_, rfl⟩
  obtain ⟨b1, hb1⟩ : ∃ b1, b1 = deedB d := ⟨_, rfl⟩
  have hde : ∀ W : World, Below w.heap.size w W → Calls Try.prog 30 #[.agg #[.slice A n c, .slice A' m c', .bool d.dead, .int .i64 d.left]] W fun e w' => ∃ v', e = .returned (.tuple #[v', .bool b1]) ∧ IsDisk w' v' d1 ∧ Below W.heap.size W w' := fun W hb => by
    rw [hd1, hb1]; exact deed_calls _ d W (hv.below hb) hd.hi
  rw [← hd1] at hwt hsr hdo ⊢
  rw [← hb1, ← hwt, ← hsr]
  clear hd1 hb1 hwt hsr hv hd
  obtain ⟨sure, wet, dead, left⟩ := d
  dsimp only at hde
  have HDE := Lib.hid hde
  have HDO := Lib.hid hdo
  clear hde hdo
  go_enter Try.func19, Try.ntmps19
  go_wp2_with fail
  have hb0 : Below w.heap.size w ((w.alloc (.cells #[.slice A n c, .slice A' m c', .bool dead, .int .i64 left] 28)).alloc (.cells #[.slice none 0 0, .slice none 0 0, .bool false, .int .i64 0] 28)) := ((Below.refl _ _).alloc (Nat.le_refl _) _).alloc (by simp) _
  with_reducible refine (HDE.out _ hb0).mono ?_
  clear HDE
  rintro e w1 ⟨v1, rfl, hv1, hb1⟩
  obtain ⟨A1, n1, c1, A1', m1, c1', rfl⟩ := hv1.parts
  obtain ⟨sure1, wet1, dead1, left1⟩ := d1
  dsimp only at hv1 ⊢
  have hg1 := box_kept w.heap.size (box_alloc (heap_alloc_new w _) _) hb1
  have hg2 : w1.heap[w.heap.size + 1]? = some (.cells #[.slice none 0 0, .slice none 0 0, .bool false, .int .i64 0] 28 (0, 0)) := box_kept (w.heap.size + 1) (by have := heap_alloc_new (w.alloc (.cells #[.slice A n c, .slice A' m c', .bool dead, .int .i64 left] 28)) (.cells #[.slice none 0 0, .slice none 0 0, .bool false, .int .i64 0] 28); simpa using this) hb1
  have hbw := below_trans' hb0 hb1
  obtain ⟨w2, e2, hG2, hK2, hB2⟩ := box_store4 hg1 (.slice A1 n1 c1) (.slice A1' m1 c1') (.bool dead1) (.int .i64 left1)
  have HV2 := Lib.hid (hv1.other hg1 (by decide) (by decide) hK2)
  have HB := Lib.hid (hB2 _ _ hbw (Nat.le_refl _))
  have hr2 : w2.heap[w.heap.size + 1]? = _ := (hK2 _ (by omega)).trans hg2
  obtain ⟨⟨hp0, hp1, hp2, hp3⟩, hf0, hf1, hf2, hf3⟩ := box4 hg1
  have HG2 := Lib.hid hG2
  have HR2 := Lib.hid hr2
  have E2 := Lib.hid e2
  clear hb0 hb1 hv1 hg1 hg2 hbw e2 hG2 hK2 hB2 hr2
  go_upto_region 2 with (fail)
  rw [E2.out]
  clear hp0 hp1 hp2 hp3 hf0 hf1 hf2 hf3 E2
  obtain ⟨⟨hp0, hp1, hp2, hp3⟩, hf0, hf1, hf2, hf3⟩ := box4 HG2.out
  obtain ⟨⟨hq0, hq1, hq2, hq3⟩, hr0, hr1, hr2, hr3⟩ := box4 HR2.out
  cases b1 with
  | false =>
    go_wp2_with fail
    refine bodyPost_ret (v := .tuple #[.agg #[.slice A1 n1 c1, .slice A1' m1 c1', .bool dead1, .int .i64 left1], .int .i64 12]) (by simp [results, Try.results19, go_sem, hq0, hq1, hq2, hq3, hr0, hr1, hr2, hr3]) rfl ⟨_, rfl, ?_, ?_⟩
    · exact HV2.out.other HR2.out (by decide) (by decide) (store4_other _ _ _ _ _ _)
    · exact below_store4 HB.out _ (by omega) _ _ _ _
  | true =>
    go_wp2_with fail
    with_reducible refine (settled_all _ _ _ HV2.out HDO.out).mono ?_
    rintro e w3 ⟨v3, rfl, hv3, hb3⟩
    obtain ⟨A3, n3, c3, A3', m3, c3', rfl⟩ := hv3.parts
    dsimp only at hv3 ⊢
    have hg3 := box_kept _ HR2.out hb3
    have HV3 := Lib.hid hv3
    have HB3 := Lib.hid (below_trans' HB.out (hb3.mono (by have := HB.out.size; omega)))
    have HG3 := Lib.hid hg3
    clear hq0 hq1 hq2 hq3 hr0 hr1 hr2 hr3 hp0 hp1 hp2 hp3 hf0 hf1 hf2 hf3
    obtain ⟨⟨hq0, hq1, hq2, hq3⟩, hr0, hr1, hr2, hr3⟩ := box4 hg3
    clear hv3 hb3 hg3
    go_wp2_with fail
    refine bodyPost_ret (v := .tuple #[.agg #[.slice A3 n3 c3, .slice A3' m3 c3', .bool dead1, .int .i64 left1], .int .i64 0]) (by simp [results, Try.results19, go_sem, hq0, hq1, hq2, hq3, hr0, hr1, hr2, hr3]) rfl ⟨_, rfl, ?_, ?_⟩
    · exact HV3.out.other HG3.out (by decide) (by decide) (store4_other _ _ _ _ _ _)
    · exact below_store4 HB3.out _ (by omega) _ _ _ _
end Go.Proofs.Ytnnbbkfdijionaa
