/- A disk behind deeds: the law's 'played'. No statement is proved here. -/
import Derived.Test.YtnnbbkfdijionaaDoes
import Derived.Deep.RegionHeld3
import Derived.Deep.RegionWith
import Derived.Deep.DrawnRows
namespace Go.Proofs.Ytnnbbkfdijionaa
open Go.RowKit
attribute [local go_sem ↓] Go.wp_at_zero Go.wp_at_succ

theorem stepW_len (p : Wt) (st : List Wt × Bool) (o : Wt) : (stepW p st o).1.length + st.2.toNat ≤ st.1.length + 1 + (stepW p st o).2.toNat := by
  obtain ⟨l, b⟩ := st
  unfold stepW
  cases b <;> dsimp only <;> (repeat' split) <;> simp_all <;> omega

theorem foldW_len (p : Wt) (l : List Wt) : ∀ st : List Wt × Bool, (l.foldl (stepW p) st).1.length + st.2.toNat ≤ st.1.length + l.length + (l.foldl (stepW p) st).2.toNat := by
  induction l with
  | nil => intro st; exact Nat.le_refl _
  | cons o l ih =>
    intro st
    have h1 := stepW_len p st o
    have h2 := ih (stepW p st o)
    rw [List.foldl_cons, List.length_cons]
    omega

theorem withF_len (p : Wt) (l : List Wt) : (withF p l).length ≤ l.length + 1 := by
  have h := foldW_len p l ([], false)
  unfold withF withSt
  split
  · rename_i e
    rw [e] at h
    simp at h
    omega
  · rename_i e
    have e' : (List.foldl (stepW p) ([], false) l).2 = false := by simpa using e
    rw [e'] at h
    simp at h
    simp
    omega

/-- A disk of n sectors, at most i of which are to be something else. -/
structure Good (n i : Nat) (d : DK) : Prop where
  sure : d.sure.length = n
  wet : d.wet.length ≤ i
  lo : -1 ≤ d.left
  hi : d.left ≤ 9223372036854775807

theorem Good.ok {n i : Nat} {d : DK} (h : Good n i d) (hn : n ≤ 2000) (hi : i ≤ 2000) : d.ok := ⟨by rw [h.sure]; exact hn, Nat.le_trans h.wet hi, h.lo, h.hi⟩
theorem Good.more {n i j : Nat} {d : DK} (h : Good n i d) (hij : i ≤ j) : Good n j d := ⟨h.sure, Nat.le_trans h.wet hij, h.lo, h.hi⟩

theorem deedD_good {n i : Nat} {d : DK} (h : Good n i d) : Good n i (deedD d) := by
  unfold deedD
  split
  · exact ⟨h.sure, h.wet, h.lo, h.hi⟩
  · split
    · exact ⟨h.sure, h.wet, by dsimp only; omega, by have := h.hi; dsimp only; omega⟩
    · exact h

theorem wrD_good {n i : Nat} {d : DK} (h : Good n i d) (at_ : Int) (data : ByteArray) : Good n (i + 1) (wrD d at_ data) := by
  unfold wrD
  split
  · unfold writeD
    have g := deedD_good h
    split
    · exact ⟨g.sure, Nat.le_trans (withF_len _ _) (by have := h.wet; omega), g.lo, g.hi⟩
    · exact g.more (by omega)
  · exact h.more (by omega)

theorem flD_good {n i : Nat} {d : DK} (h : Good n i d) : Good n i (flD d) := by
  unfold flD
  have g := deedD_good h
  split
  · exact ⟨by dsimp only; rw [settleF, settleK_length]; exact h.sure, by simp, g.lo, g.hi⟩
  · exact g

theorem stD_good {n i : Nat} {d : DK} (h : Good n i d) (stay : Nat) : Good n 0 (stD d stay) :=
  ⟨by unfold stD; dsimp only; rw [settleF, settleK_length]; exact h.sure, by simp [stD], by simp [stD], by simp [stD]⟩

theorem doesD_good {n i : Nat} {d : DK} (h : Good n i d) (a : AK) (ha : a.place ≤ 9223372036854775807) : Good n (i + 1) (doesD d a) := by
  unfold doesD
  split
  · exact wrD_good h _ _
  split
  · exact (flD_good h).more (by omega)
  split
  · exact ⟨h.sure, by have := h.wet; dsimp only; omega, by dsimp only; omega, by dsimp only; omega⟩
  split
  · exact (stD_good h _).more (by omega)
  · exact h.more (by omega)

theorem newD_good (n : Nat) : Good n 0 (newD n) := ⟨by simp [newD], by simp [newD], by simp [newD], by simp [newD]⟩

/-- The disk's box, and a deed's four cells, behind whatever turned nothing old. -/
theorem keep8 {wr W : World} {Bd b o : Nat} {v0 v1 v2 v3 u0 u1 u2 u3 : Value} {t : TypeId} (hb : Below wr.heap.size wr W) (hbz : b < wr.heap.size) (h0 : wr.cell? ⟨b, o, none⟩ = some u0) (h1 : wr.cell? ⟨b, o + 1, none⟩ = some u1) (h2 : wr.cell? ⟨b, o + 2, none⟩ = some u2) (h3 : wr.cell? ⟨b, o + 3, none⟩ = some u3) (hg : wr.heap[Bd]? = some (.cells #[v0, v1, v2, v3] t (0, 0))) :
    W.cell? ⟨Bd, 0, none⟩ = some v0 ∧ W.cell? ⟨Bd, 1, none⟩ = some v1 ∧ W.cell? ⟨Bd, 2, none⟩ = some v2 ∧ W.cell? ⟨Bd, 3, none⟩ = some v3 ∧ W.cell? ⟨b, o, none⟩ = some u0 ∧ W.cell? ⟨b, o + 1, none⟩ = some u1 ∧ W.cell? ⟨b, o + 2, none⟩ = some u2 ∧ W.cell? ⟨b, o + 3, none⟩ = some u3 := by
  obtain ⟨⟨c0, c1, c2, c3⟩, _⟩ := box4 (box_kept _ hg hb)
  exact ⟨c0, c1, c2, c3, (hb.cell (p := ⟨b, o, none⟩) hbz).trans h0, (hb.cell (p := ⟨b, o + 1, none⟩) hbz).trans h1, (hb.cell (p := ⟨b, o + 2, none⟩) hbz).trans h2, (hb.cell (p := ⟨b, o + 3, none⟩) hbz).trans h3⟩

theorem disk_drew {w : World} {v : Value} {d : DK} (h : IsDisk w v d) : IsDisk w.drew v d := h

/-- Two boxes, the second one laid behind a call. -/
structure PlRel (w : World) (g2 g3 i : Nat) (A B : Option Addr) (n c m e : Nat) (D : DK) (wr : World) : Prop where
  good : Good 5 i D
  boxR : wr.heap[g2]? = some (.cells #[.slice none 0 0, .slice none 0 0, .bool false, .int .i64 0] 28 (0, 0))
  boxD : wr.heap[g3]? = some (.cells #[.slice A n c, .slice B m e, .bool D.dead, .int .i64 D.left] 28 (0, 0))
  disk : IsDisk wr (.agg #[.slice A n c, .slice B m e, .bool D.dead, .int .i64 D.left]) D
  below : Below w.heap.size w wr
  le2 : w.heap.size ≤ g2
  le3 : w.heap.size ≤ g3
  ne : g2 ≠ g3

theorem pl_new (w y : World) (v0 v1 v2 v3 : Value) (o : Obj) (hb : Below (w.alloc o).heap.size (w.alloc o) y) : ∃ X g2 g3, y.alloc (.cells #[v0, v1, v2, v3] 28) = X ∧ w.heap.size = g2 ∧ y.heap.size = g3 ∧ X.heap[g2]? = some o ∧ X.heap[g3]? = some (.cells #[v0, v1, v2, v3] 28 (0, 0)) ∧ Below w.heap.size w X ∧ Below y.heap.size y X ∧ w.heap.size ≤ g2 ∧ w.heap.size ≤ g3 ∧ g2 ≠ g3 := by
  have h1 := hb.size
  simp at h1
  have hk := box_kept _ (heap_alloc_new w o) hb
  refine ⟨_, _, _, rfl, rfl, rfl, box_alloc hk _, heap_alloc_new _ _, ?_, (Below.refl _ _).alloc (Nat.le_refl _) _, Nat.le_refl _, by omega, by omega⟩
  exact (below_trans' ((Below.refl _ w).alloc (Nat.le_refl _) o) hb).alloc (by omega) _

theorem PlRel.step {w wr y : World} {g2 g3 i : Nat} {A B : Option Addr} {n c m e : Nat} {D D2 : DK} (h : PlRel w g2 g3 i A B n c m e D wr) (hg : Good 5 (i + 1) D2) {A2 B2 : Option Addr} {n2 c2 m2 e2 : Nat} (hb : Below wr.heap.size wr y) (hv : IsDisk y (.agg #[.slice A2 n2 c2, .slice B2 m2 e2, .bool D2.dead, .int .i64 D2.left]) D2) :
    PlRel w g2 g3 (i + 1) A2 B2 n2 c2 m2 e2 D2 ((((y.setCell ⟨g3, 0, none⟩ (.slice A2 n2 c2)).setCell ⟨g3, 1, none⟩ (.slice B2 m2 e2)).setCell ⟨g3, 2, none⟩ (.bool D2.dead)).setCell ⟨g3, 3, none⟩ (.int .i64 D2.left)) := by
  have hD := box_kept _ h.boxD hb
  have hR := box_kept _ h.boxR hb
  exact ⟨hg, (store4_other _ _ _ _ _ _ _ h.ne).trans hR, heap_store4 hD, hv.other hD (by decide) (by decide) (store4_other _ _ _ _ _ _), below_store4 (below_trans' h.below hb) _ h.le3 _ _ _ _, h.le2, h.le3, h.ne⟩

set_option maxRecDepth 100000 in
set_option maxHeartbeats 2000000 in
/-- played: a disk of five sectors behind deeds. -/
theorem played_calls (A0 : Option Addr) (len cap : Nat) (xs : List AK) (w : World) (hR : ActIn w A0 len xs) (hl : len ≤ 60) :
    Calls Try.prog 21 #[.slice A0 len cap] w fun e w' => ∃ v D, e = .returned v ∧ IsDisk w' v D ∧ Good 5 60 D ∧ Below w.heap.size w w' := by
  have HR := Lib.hid hR
  have hnew : ∀ W : World, Calls Try.prog 10 #[.int .i64 5] W fun e w' => ∃ v D, e = .returned (.tuple #[v, .int .i64 0]) ∧ IsDisk w' v D ∧ Good 5 0 D ∧ Below W.heap.size W w' := fun W => (new_calls 5 (by omega) (by omega) W).mono (by rintro e w' ⟨v, rfl, hv, hb⟩; exact ⟨v, _, rfl, hv, newD_good 5, hb⟩)
  have HN := Lib.hid hnew
  clear hR hnew
  go_enter Try.func21, Try.ntmps21
  go_upto_region 2 with (go_at_call 10; (with_reducible refine (HN.out _).mono ?_); rintro e y ⟨v1, D1, rfl, hv1, hg1, hb1⟩; obtain ⟨A1, n1, c1, B1, m1, e1, rfl⟩ := hv1.parts; have HV1 := Lib.hid hv1; have HB1 := Lib.hid hb1; have HG1 := Lib.hid hg1; clear hv1 hb1 hg1)
  obtain ⟨X, g2, g3, eX, e2, e3, hR2, hD3, hBX, hBy, hl2, hl3, hne⟩ := pl_new w y (.slice A1 n1 c1) (.slice B1 m1 e1) (.bool D1.dead) (.int .i64 D1.left) _ HB1.out
  rw [eX, e2, e3]
  have hrel0 : PlRel w g2 g3 0 A1 B1 n1 c1 m1 e1 D1 X := ⟨HG1.out, hR2, hD3, HV1.out.below hBy, hBX, hl2, hl3, hne⟩
  clear eX hR2 hD3 hBX hBy HG1 HV1 HB1 HN e2 e3
  generalize Value.tuple #[Value.agg #[Value.slice A1 n1 c1, Value.slice B1 m1 e1, Value.bool D1.dead, Value.int IntKind.i64 D1.left], Value.int IntKind.i64 0] = tu1
  generalize Value.agg #[Value.slice A1 n1 c1, Value.slice B1 m1 e1, Value.bool D1.dead, Value.int IntKind.i64 D1.left] = ag1
  go_wp2_with fail
  go_loopw [5] (fun u5 wr => ∃ (i : Nat) (A B : Option Addr) (n c m d : Nat) (D : DK), i ≤ len ∧ u5 = .int .i64 i ∧ PlRel w g2 g3 i A B n c m d D wr) (fun u _ => len - (intOf u).toNat)
  case atStart => exact ⟨0, A1, B1, n1, c1, m1, e1, D1, Nat.zero_le _, rfl, hrel0⟩
  case round =>
    obtain ⟨i, A, B, n, c, m, d, D, hi, rfl, hrel⟩ := hrel
    clear hrel0
    by_cases hlt : i < len
    · obtain ⟨a, ha⟩ : ∃ a, xs[i]? = some a := ⟨_, List.getElem?_eq_getElem (by have := HR.out.1; omega)⟩
      obtain ⟨b, off, rfl, hbl, hcell⟩ := HR.out.2.2 (by omega)
      have hb := hrel.below
      have hc0 := (hb.cell (p := ⟨b, off + i * 4, none⟩) hbl).trans (hcell i a ha).1
      have hc1 := (hb.cell (p := ⟨b, off + i * 4 + 1, none⟩) hbl).trans (hcell i a ha).2.1
      have hc2 := (hb.cell (p := ⟨b, off + i * 4 + 2, none⟩) hbl).trans (hcell i a ha).2.2.1
      have hc3 := (hb.cell (p := ⟨b, off + i * 4 + 3, none⟩) hbl).trans (hcell i a ha).2.2.2
      have hbnd := HR.out.2.1 a (List.mem_of_getElem? ha)
      obtain ⟨⟨p0, p1, p2, p3⟩, f0, f1, f2, f3⟩ := box4 hrel.boxD
      have hz : g3 < wr.heap.size := (Array.getElem?_eq_some_iff.1 hrel.boxD).1
      have hbz : b < wr.heap.size := by have := hb.size; omega
      have hi1 : (0 : Int) ≤ (i : Int) := by omega
      have hi2 : (i : Int) < (len : Int) := by omega
      have hdoes : ∀ W : World, IsDisk W (.agg #[.slice A n c, .slice B m d, .bool D.dead, .int .i64 D.left]) D → Calls Try.prog 13 #[.agg #[.slice A n c, .slice B m d, .bool D.dead, .int .i64 D.left], .agg #[.int .i64 a.kind, .int .i64 a.place, .string a.data, .int .u64 a.stay]] W fun e w' => ∃ A2 n2 c2 B2 m2 d2 D2 S E, e = .returned (.tuple #[.agg #[.slice A2 n2 c2, .slice B2 m2 d2, .bool D2.dead, .int .i64 D2.left], .string S, .int .i64 E]) ∧ IsDisk w' (.agg #[.slice A2 n2 c2, .slice B2 m2 d2, .bool D2.dead, .int .i64 D2.left]) D2 ∧ Good 5 (i + 1) D2 ∧ Below W.heap.size W w' := fun W hv => by
        refine (does_calls _ D a W hv (hrel.good.ok (by omega) (by omega)) hbnd.1).mono ?_
        rintro e w' ⟨v', rfl, hv', hb'⟩
        obtain ⟨A2, n2, c2, B2, m2, d2, rfl⟩ := hv'.parts
        exact ⟨A2, n2, c2, B2, m2, d2, _, _, _, rfl, hv', doesD_good hrel.good a hbnd.2, hb'⟩
      have HDO := Lib.hid hdoes
      have HREL := Lib.hid hrel
      clear hdoes hcell ha hbnd hb hrel
      go_wp2_with fail
      go_region_with (first | (go_at_call 13; (with_reducible refine (HDO.out _ (disk_drew HREL.out.disk)).mono ?_); rintro e y ⟨A2, n2, c2, B2, m2, d2, D2, S, E, rfl, hvy, hgy, hby⟩; have HvY := Lib.hid hvy; have HgY := Lib.hid hgy; have HbY := Lib.hid hby; have hyb := box4 (box_kept _ HREL.out.boxD (below_of_drew (by with_reducible exact hby))); obtain ⟨⟨z0, z1, z2, z3⟩, e0, e1, e2, e3⟩ := hyb; clear hvy hgy hby))
      all_goals
        have hr' := HREL.out.step HgY.out (below_of_drew HbY.out) HvY.out
        have HR' := Lib.hid hr'
        clear hr' HDO HREL
        go_wp2_with fail
        exact ⟨⟨i + 1, A2, B2, n2, c2, m2, d2, D2, by omega, by go_num, HR'.out⟩, by simp [intOf]; omega⟩
    · have hnl : decide ((i : Int) < (len : Int)) = false := by simp; omega
      obtain ⟨⟨p0, p1, p2, p3⟩, _⟩ := box4 hrel.boxD
      obtain ⟨⟨r0, r1, r2, r3⟩, s0, s1, s2, s3⟩ := box4 hrel.boxR
      have HREL := Lib.hid hrel
      clear hrel
      go_wp2_with fail
      refine bodyPost_ret (v := .agg #[.slice A n c, .slice B m d, .bool D.dead, .int .i64 D.left]) (by simp [results, Try.results21, go_sem, r0, r1, r2, r3, s0, s1, s2, s3]) rfl ⟨_, D, rfl, ?_, ?_, ?_⟩
      · exact HREL.out.disk.other HREL.out.boxR (by decide) (by decide) (store4_other _ _ _ _ _ _)
      · exact HREL.out.good.more (by omega)
      · exact below_store4 HREL.out.below _ hl2 _ _ _ _

end Go.Proofs.Ytnnbbkfdijionaa
