/- Contracts and plain mathematics that the statement's proof wants: no statement is proved here, nothing is assumed. -/
import Derived.Deep.RegionHeld3
import Derived.Deep.RegionWith
import Derived.Maps.AppendAt
import Derived.Laws.ResultCell
import Derived.Test.YtnbbijpmkhdgpaaGreatMg10
/- VRHome -/
namespace Go.Proofs.YtnbbijpmkhdgpaaGreat.Vlt
open Go.RowKit Go.Sort
open Dsk

theorem LOk.take {n : Int} {l : List Lf} (h : LOk n l) (i : Nat) : LOk n (l.take i) := ⟨fun x hx => h.lo x (List.mem_of_mem_take hx), fun x hx => h.hi x (List.mem_of_mem_take hx), fun x hx => h.len x (List.mem_of_mem_take hx)⟩
theorem home_take {x : Sh} {l : List Lf} {i : Nat} {o : Lf} (ho : l[i]? = some o) : homeW x (l.take (i + 1)) = homeW x (l.take i) ++ [(placeN x o.no, strB (Ent.leafL o.no o.data))] := by
  unfold homeW
  rw [List.take_add_one, ho]
  simp
/-- One write more. -/
theorem wrs_next {d : DK} {l : List (Int × ByteArray)} {a : Int} {b : ByteArray} (h : (wrsF d l).2 = 0) : wrsF d (l ++ [(a, b)]) = (wrD (wrsF d l).1 a b, wrE (wrsF d l).1 a b) := by rw [wrs_snoc, if_pos h]
theorem wrs_stop {d : DK} : ∀ {l : List (Int × ByteArray)} {k : Nat}, (wrsF d (l.take k)).2 ≠ 0 → wrsF d l = wrsF d (l.take k) := by
  intro l
  induction l generalizing d with
  | nil => intro k _; simp
  | cons p l ih =>
    intro k h
    cases k with
    | zero => exact absurd rfl h
    | succ k =>
      rw [List.take_succ_cons] at h ⊢
      unfold wrsF at h ⊢
      by_cases e : wrE d p.1 p.2 = 0
      · rw [if_pos e] at h ⊢
        rw [if_pos e]
        exact ih h
      · rw [if_neg e, if_neg e]
/-- What stands behind the first writes may be handed on. -/
theorem wrs_pl {n : Nat} : ∀ (l : List (Int × ByteArray)) {i : Nat} {d : DK}, Pl n i d → Pl n (i + l.length) (wrsF d l).1
  | [], _, _, h => h
  | p :: l, i, d, h => by
    have h1 := wrD_pl h p.1 p.2
    unfold wrsF
    split
    · have := wrs_pl l h1
      rw [show i + (p :: l).length = i + 1 + l.length by simp; omega]
      exact this
    · exact ⟨h1.good.more (by simp), h1.rise, h1.inn⟩

/-- The boxes of home, between rounds: the disk's, the shape's, the answer's. -/
structure HB3 (w W : World) (x : Sh) (vs vw : Value) (d : DK) : Prop where
  dk : W.heap[w.heap.size]? = some (.cells #[vs, vw, .bool d.dead, .int .i64 d.left] 28 (0, 0))
  isd : IsDisk W (.agg #[vs, vw, .bool d.dead, .int .i64 d.left]) d
  sh : SBox W (w.heap.size + 1) x
  zr : W.heap[w.heap.size + 2]? = some (.cells #[.slice none 0 0, .slice none 0 0, .bool false, .int .i64 0] 28 (0, 0))
  below : Below w.heap.size w W
section
variable {w W W' : World} {x : Sh} {vs vw us uw : Value} {d e : DK}
theorem HB3.more (h : HB3 w W x vs vw d) (k : Below W.heap.size W W') : HB3 w W' x vs vw d :=
  ⟨box_kept _ h.dk k, h.isd.below k, h.sh.below k, box_kept _ h.zr k, Dsk.below_trans' h.below k⟩
theorem HB3.new (w : World) (h : IsDisk w (.agg #[vs, vw, .bool d.dead, .int .i64 d.left]) d) (x : Sh) :
    ∃ Y, Y = ((w.alloc (.cells #[vs, vw, .bool d.dead, .int .i64 d.left] 28)).alloc (.cells #[.int .i64 x.pages, .int .i64 x.journal] 30)).alloc (.cells #[.slice none 0 0, .slice none 0 0, .bool false, .int .i64 0] 28) ∧ HB3 w Y x vs vw d := by
  have b1 := below_one w (.cells #[vs, vw, .bool d.dead, .int .i64 d.left] 28)
  have b2 := below_one (w.alloc (.cells #[vs, vw, .bool d.dead, .int .i64 d.left] 28)) (.cells #[.int .i64 x.pages, .int .i64 x.journal] 30)
  have b3 := below_one ((w.alloc (.cells #[vs, vw, .bool d.dead, .int .i64 d.left] 28)).alloc (.cells #[.int .i64 x.pages, .int .i64 x.journal] 30)) (.cells #[.slice none 0 0, .slice none 0 0, .bool false, .int .i64 0] 28)
  refine ⟨_, rfl, box_kept _ (box_kept _ (heap_alloc_new w _) b2) b3, ((h.below b1).below b2).below b3, ?_, ?_, Dsk.below_trans' (Dsk.below_trans' b1 b2) b3⟩
  · have := SBox.new (w.alloc (.cells #[vs, vw, .bool d.dead, .int .i64 d.left] 28)) x
    rw [show (w.alloc (.cells #[vs, vw, .bool d.dead, .int .i64 d.left] 28)).heap.size = w.heap.size + 1 by simp] at this
    exact this.below b3
  · have := heap_alloc_new ((w.alloc (.cells #[vs, vw, .bool d.dead, .int .i64 d.left] 28)).alloc (.cells #[.int .i64 x.pages, .int .i64 x.journal] 30)) (.cells #[.slice none 0 0, .slice none 0 0, .bool false, .int .i64 0] 28)
    simpa using this
/-- Another disk is stored into the first box. -/
theorem HB3.put (h : HB3 w W x vs vw d) (hv : IsDisk W (.agg #[us, uw, .bool e.dead, .int .i64 e.left]) e) :
    ∃ X, (((W.setCell ⟨w.heap.size, 0, none⟩ us).setCell ⟨w.heap.size, 1, none⟩ uw).setCell ⟨w.heap.size, 2, none⟩ (.bool e.dead)).setCell ⟨w.heap.size, 3, none⟩ (.int .i64 e.left) = X ∧ HB3 w X x us uw e := by
  obtain ⟨X, hX, hb, hk, hB⟩ := box_store4 h.dk us uw (.bool e.dead) (.int .i64 e.left)
  refine ⟨X, hX, hb, hv.other h.dk (by decide) (by decide) hk, h.sh.keep (hk _ (by omega)), (hk _ (by omega)).trans h.zr, hB _ _ h.below (Nat.le_refl _)⟩
end

theorem home_at {w W W' : World} {A : Option Addr} {n : Nat} {l : List Lf} {i : Nat} {o : Lf} (h : Reads w 52 2 A n (lfCells l)) (hb : Below w.heap.size w W) (ho : l[i]? = some o) (hn : 0 < n) :
    ∃ b off, A = some ⟨b, off, none⟩ ∧ ∀ W', Below W.heap.size W W' → W'.cell? ⟨b, off + i * 2, none⟩ = some (.int .i64 o.no) ∧ W'.cell? ⟨b, off + i * 2 + 1, none⟩ = some (.string (strB o.data)) := by
  obtain ⟨b, off, e, hbl, hc⟩ := h.at_ hn
  obtain ⟨h0, h1⟩ := lfCells_at l i o ho
  refine ⟨b, off, e, fun W' k => ?_⟩
  have hk := Dsk.below_trans' hb k
  exact ⟨(hk.cell (p := ⟨b, off + i * 2, none⟩) hbl).trans (hc _ _ h0), (hk.cell (p := ⟨b, off + i * 2 + 1, none⟩) hbl).trans (hc _ _ h1)⟩

/-- What lies in a round of home. -/
structure HRD (w V W : World) (x : Sh) (vs vw : Value) (d : DK) : Prop where
  b : HB3 w W x vs vw d
  k : Below V.heap.size V W
theorem HRD.more {w V W W' : World} {x : Sh} {vs vw : Value} {d : DK} (h : HRD w V W x vs vw d) (k : Below W.heap.size W W') : HRD w V W' x vs vw d := ⟨h.b.more k, Dsk.below_trans' h.k k⟩
theorem HRD.cells {w V W : World} {x : Sh} {vs vw : Value} {d : DK} (h : HRD w V W x vs vw d) :
    (W.cell? ⟨w.heap.size, 0, none⟩ = some vs ∧ W.cell? ⟨w.heap.size, 1, none⟩ = some vw ∧ W.cell? ⟨w.heap.size, 2, none⟩ = some (.bool d.dead) ∧ W.cell? ⟨w.heap.size, 3, none⟩ = some (.int .i64 d.left)) ∧
    W.cell? ⟨w.heap.size + 1, 0, none⟩ = some (.int .i64 x.pages) ∧ W.cell? ⟨w.heap.size + 1, 1, none⟩ = some (.int .i64 x.journal) :=
  ⟨(box4 h.b.dk).1, h.b.sh.c0, h.b.sh.c1⟩

def zeroBox : Obj := .cells #[.slice none 0 0, .slice none 0 0, .bool false, .int .i64 0] 28
/-- A box of no disk, laid in a round. -/
structure NB (V W : World) (g : Nat) : Prop where
  box : W.heap[g]? = some (.cells #[.slice none 0 0, .slice none 0 0, .bool false, .int .i64 0] 28 (0, 0))
  le : V.heap.size ≤ g
section
variable {w V W W' : World} {x : Sh} {vs vw : Value} {d e : DK} {g : Nat} {us uw : Value}
theorem NB.more (h : NB V W g) (k : Below W.heap.size W W') : NB V W' g := ⟨box_kept _ h.box k, h.le⟩
theorem NB.new (h : HRD w V W x vs vw d) : NB V (W.alloc (.cells #[.slice none 0 0, .slice none 0 0, .bool false, .int .i64 0] 28)) W.heap.size := ⟨heap_alloc_new W _, h.k.size⟩
/-- What lies behind a round's write: the boxes, and the disk in a box of its own. -/
structure NX (w V X : World) (x : Sh) (vs vw us uw : Value) (d e : DK) (g : Nat) : Prop where
  h : HRD w V X x vs vw d
  box : X.heap[g]? = some (.cells #[us, uw, .bool e.dead, .int .i64 e.left] 28 (0, 0))
  isd : IsDisk X (.agg #[us, uw, .bool e.dead, .int .i64 e.left]) e
theorem NX.fresh (h : HRD w V W x vs vw d) (hv : IsDisk W (.agg #[us, uw, .bool e.dead, .int .i64 e.left]) e) :
    ∃ X, W.alloc (.cells #[us, uw, .bool e.dead, .int .i64 e.left] 28) = X ∧ NX w V X x vs vw us uw d e W.heap.size :=
  ⟨_, rfl, h.more (below_one _ _), heap_alloc_new W _, hv.below (below_one _ _)⟩
theorem NX.store (h : HRD w V W x vs vw d) (z : NB V W g) (hv : IsDisk W (.agg #[us, uw, .bool e.dead, .int .i64 e.left]) e) (hV : w.heap.size + 2 < V.heap.size) :
    ∃ X, (((W.setCell ⟨g, 0, none⟩ us).setCell ⟨g, 1, none⟩ uw).setCell ⟨g, 2, none⟩ (.bool e.dead)).setCell ⟨g, 3, none⟩ (.int .i64 e.left) = X ∧ NX w V X x vs vw us uw d e g := by
  obtain ⟨X, hX, hb, hk, hB⟩ := box_store4 z.box us uw (.bool e.dead) (.int .i64 e.left)
  have hle := z.le
  refine ⟨X, hX, ⟨⟨(hk _ (by omega)).trans h.b.dk, h.b.isd.other z.box (by decide) (by decide) hk, h.b.sh.keep (hk _ (by omega)), (hk _ (by omega)).trans h.b.zr, hB _ _ h.b.below (by omega)⟩, hB _ _ h.k hle⟩, hb, hv.other z.box (by decide) (by decide) hk⟩
end

set_option maxRecDepth 100000 in
set_option maxHeartbeats 4000000 in
theorem rhome_calls (v vl : Value) (d : DK) (x : Sh) (l : List Lf) (w : World) {nn ii : Nat} (hv : IsDisk w v d) (hp : Pl nn ii d) (hnn : nn ≤ 2000) (hii : ii + l.length ≤ 2000)
    (hl : IsLfs w vl l) (hd : ∀ q ∈ l, q.data.length ≤ 240) :
    Calls Tryz.prog 72 #[v, shV x, vl] w fun e w' => ∃ v', e = .returned (.tuple #[v', .int .i64 (wfF d (homeW x l)).2]) ∧ IsDisk w' v' (wfF d (homeW x l)).1 ∧ Below w.heap.size w w' := by
  obtain ⟨X1, X2, X3, X4, X5, X6, rfl⟩ := hv.parts
  obtain ⟨A, n, c, rfl, hn, _, hr⟩ := hl.open_
  obtain ⟨Y, hY, hB⟩ := HB3.new w hv x
  have HY := Lib.hid hY
  have HB0 := Lib.hid hB
  have HN := Lib.hid hn
  have HR := Lib.hid hr
  have HP := Lib.hid hp
  have HDT := Lib.hid hd
  have hnm : n ≤ 2000 := by omega
  have HII := Lib.hid hii
  clear hY hB hn hr hp hd hii hv hl
  unfold shV
  go_enter Tryz.func72, Tryz.ntmps72
  go_wp2_with fail
  rw [← HY.out]
  clear HY
  go_loopw [8] (fun u wr => ∃ (i : Nat) (D : DK) (B1 : Option Addr) (B2 B3 : Nat) (B4 : Option Addr) (B5 B6 : Nat), i ≤ n ∧ u = .int .i64 i ∧ wrsF d (homeW x (l.take i)) = (D, 0) ∧ HB3 w wr x (.slice B1 B2 B3) (.slice B4 B5 B6) D) (fun u _ => n - (intOf u).toNat)
  case atStart => exact ⟨0, d, _, _, _, _, _, _, Nat.zero_le _, rfl, rfl, HB0.out⟩
  case round =>
    obtain ⟨i, D, B1, B2, B3, B4, B5, B6, hi, rfl, hw, hb⟩ := hrel
    have HW := Lib.hid hw
    have HT0 := Lib.hid hb
    clear hw hb HB0
    by_cases hlt : i < n
    · obtain ⟨o, ho⟩ : ∃ o, l[i]? = some o := ⟨_, List.getElem?_eq_getElem (by have := HN.out; omega)⟩
      obtain ⟨b, off, rfl, hc⟩ := home_at (W' := wr) HR.out HT0.out.below ho (by omega)
      have HC := Lib.hid hc
      have HO := Lib.hid ho
      have hi1 : (0 : Int) ≤ (i : Int) := by omega
      have hi2 : (i : Int) < (n : Int) := by omega
      have hDpl := wrs_pl (homeW x (l.take i)) HP.out
      rw [HW.out] at hDpl
      have hlen : (homeW x (l.take i)).length ≤ i := by simp [homeW]; omega
      have hDok : D.ok := hDpl.ok (by omega) (by have := HII.out; have := HN.out; omega)
      obtain ⟨PL, hPL⟩ : ∃ p, p = placeN x o.no := ⟨_, rfl⟩
      obtain ⟨S, hS⟩ : ∃ s, s = strB (Ent.leafL o.no o.data) := ⟨_, rfl⟩
      obtain ⟨D2, hD2⟩ : ∃ z, z = wrD D PL S := ⟨_, rfl⟩
      obtain ⟨E2, hE2⟩ : ∃ z, z = wrE D PL S := ⟨_, rfl⟩
      have CW : Hid (∀ v W, IsDisk W v D → Calls Tryz.prog 21 #[v, .int .i64 PL, .string S] W fun e w' => ∃ v', e = .returned (.tuple #[v', .int .i64 E2]) ∧ IsDisk w' v' D2 ∧ Below W.heap.size W w') := Lib.hid (fun v W h => by rw [hD2, hE2]; exact rwr_calls v D PL S W h hDok hDpl.rise)
      have C1 := rplace_calls x o.no
      have C2 := fun W => Ent.rleaf_calls o.no o.data W (HDT.out o (List.mem_of_getElem? ho))
      rw [← hPL] at C1
      rw [← hS] at C2
      unfold shV at C1
      unfold Ent.lfV at C2
      have C1 := Lib.hid C1
      have C2 := Lib.hid C2
      have hst := home_take (x := x) ho
      rw [← hPL, ← hS] at hst
      have hnx : wrsF d (homeW x (l.take (i + 1))) = (D2, E2) := by rw [hst, wrs_next (by rw [HW.out]), HW.out, hD2, hE2]
      have HNW := Lib.hid hnx
      have hstop : E2 ≠ 0 → wfF d (homeW x l) = (D2, E2) := fun he => by
        have e1 : homeW x (l.take (i + 1)) = (homeW x l).take (i + 1) := by unfold homeW; rw [List.map_take]
        rw [e1] at hnx
        have e2 := wrs_stop (d := d) (l := homeW x l) (k := i + 1) (by rw [hnx]; exact he)
        unfold wfF
        rw [e2, hnx, if_neg he]
      have HST := Lib.hid hstop
      have HT : Hid (HRD w wr wr.drew x (.slice B1 B2 B3) (.slice B4 B5 B6) D) := Lib.hid ⟨HT0.out.more (Below.refl _ _).drew, (Below.refl _ _).drew⟩
      have HVS : Hid (w.heap.size + 2 < wr.heap.size) := Lib.hid (Array.getElem?_eq_some_iff.1 HT0.out.zr).1
      have HTA : Hid (HRD w wr (wr.alloc (.cells #[.slice none 0 0, .slice none 0 0, .bool false, .int .i64 0] 28)).drew x (.slice B1 B2 B3) (.slice B4 B5 B6) D) := Lib.hid ⟨(HT0.out.more (below_one wr _)).more (Below.refl _ _).drew, Dsk.below_trans' (below_one wr _) (Below.refl _ _).drew⟩
      have HZA : Hid (NB wr (wr.alloc (.cells #[.slice none 0 0, .slice none 0 0, .bool false, .int .i64 0] 28)).drew wr.heap.size) := Lib.hid ⟨heap_alloc_new wr _, Nat.le_refl _⟩
      clear hc ho hDpl hlen hDok hst hPL hS hnx hstop hD2 hE2
      go_wp2_with fail
      go_region_held3 (fun W => ((W.cell? ⟨w.heap.size, 0, none⟩ = some (.slice B1 B2 B3) ∧ W.cell? ⟨w.heap.size, 1, none⟩ = some (.slice B4 B5 B6) ∧ W.cell? ⟨w.heap.size, 2, none⟩ = some (.bool D.dead) ∧ W.cell? ⟨w.heap.size, 3, none⟩ = some (.int .i64 D.left)) ∧
          W.cell? ⟨w.heap.size + 1, 0, none⟩ = some (.int .i64 x.pages) ∧ W.cell? ⟨w.heap.size + 1, 1, none⟩ = some (.int .i64 x.journal)) ∧
          W.cell? ⟨b, off + i * 2, none⟩ = some (.int .i64 o.no) ∧ W.cell? ⟨b, off + i * 2 + 1, none⟩ = some (.string (strB o.data))) (first | with_reducible exact ⟨HT.out.cells, HC.out _ HT.out.k⟩ | with_reducible exact ⟨(HT.out.more (below_one _ _)).cells, HC.out _ (HT.out.more (below_one _ _)).k⟩ | with_reducible exact ⟨HTA.out.cells, HC.out _ HTA.out.k⟩ | (obtain ⟨X, hX, hN⟩ := NX.store HT.out HZ.out HV.out HVS.out; rw [hX]; with_reducible exact ⟨hN.h.cells, HC.out _ hN.h.k⟩)) (first
        | (go_at_call 69; (with_reducible refine (C1.out _).mono ?_); rintro e wa ⟨rfl, hBa⟩; first
            | ((with_reducible replace HT := Lib.hid (HT.out.more hBa)); (try ((with_reducible replace HZ := Lib.hid (HZ.out.more hBa)); obtain ⟨⟨z0, z1, z2, z3⟩, e0, e1, e2, e3⟩ := box4 HZ.out.box)); clear hBa)
            | ((with_reducible have HZ := Lib.hid (HZA.out.more hBa)); (with_reducible replace HT := Lib.hid (HTA.out.more hBa)); obtain ⟨⟨z0, z1, z2, z3⟩, e0, e1, e2, e3⟩ := box4 HZ.out.box; clear hBa)
            | ((with_reducible have HZ := Lib.hid ((NB.new HT.out).more hBa)); (with_reducible replace HT := Lib.hid ((HT.out.more (below_one _ _)).more hBa)); obtain ⟨⟨z0, z1, z2, z3⟩, e0, e1, e2, e3⟩ := box4 HZ.out.box; clear hBa))
        | (go_at_call 19; (with_reducible refine (C2.out _).mono ?_); rintro e wa ⟨rfl, hBa⟩; first
            | ((with_reducible replace HT := Lib.hid (HT.out.more hBa)); (try ((with_reducible replace HZ := Lib.hid (HZ.out.more hBa)); obtain ⟨⟨z0, z1, z2, z3⟩, e0, e1, e2, e3⟩ := box4 HZ.out.box)); clear hBa)
            | ((with_reducible have HZ := Lib.hid (HZA.out.more hBa)); (with_reducible replace HT := Lib.hid (HTA.out.more hBa)); obtain ⟨⟨z0, z1, z2, z3⟩, e0, e1, e2, e3⟩ := box4 HZ.out.box; clear hBa)
            | ((with_reducible have HZ := Lib.hid ((NB.new HT.out).more hBa)); (with_reducible replace HT := Lib.hid ((HT.out.more (below_one _ _)).more hBa)); obtain ⟨⟨z0, z1, z2, z3⟩, e0, e1, e2, e3⟩ := box4 HZ.out.box; clear hBa))
        | (go_at_call 21; (with_reducible refine (CW.out _ _ HT.out.b.isd).mono ?_); rintro e wa ⟨v', rfl, hv', hBa⟩; (with_reducible replace HT := Lib.hid (HT.out.more hBa)); (try ((with_reducible replace HZ := Lib.hid (HZ.out.more hBa)); obtain ⟨⟨z0, z1, z2, z3⟩, e0, e1, e2, e3⟩ := box4 HZ.out.box)); obtain ⟨T1, T2, T3, T4, T5, T6, rfl⟩ := hv'.parts; have HV := Lib.hid hv'; clear hv' hBa)
        | (go_at_call 21; (with_reducible refine (CW.out _ _ (HT.out.more (below_one _ _)).b.isd).mono ?_); rintro e wa ⟨v', rfl, hv', hBa⟩; (with_reducible have HZ := Lib.hid ((NB.new HT.out).more hBa)); (with_reducible replace HT := Lib.hid ((HT.out.more (below_one _ _)).more hBa)); obtain ⟨⟨z0, z1, z2, z3⟩, e0, e1, e2, e3⟩ := box4 HZ.out.box; obtain ⟨T1, T2, T3, T4, T5, T6, rfl⟩ := hv'.parts; have HV := Lib.hid hv'; clear hv' hBa))
      all_goals
        (rename_i hheld; clear hheld)
        first
          | (obtain ⟨X, eX, hNX⟩ := NX.fresh HT.out HV.out; rw [eX])
          | (obtain ⟨X, eX, hNX⟩ := NX.store HT.out HZ.out HV.out HVS.out; rw [eX])
        have HNX := Lib.hid hNX
        clear eX hNX
        obtain ⟨⟨z0, z1, z2, z3⟩, _⟩ := box4 HNX.out.box
        obtain ⟨⟨p0, p1, p2, p3⟩, f0, f1, f2, f3⟩ := box4 HNX.out.h.b.dk
        obtain ⟨X6, e6, hb6⟩ := HNX.out.h.b.put HNX.out.isd
        have HX6 := Lib.hid e6
        have HB6 := Lib.hid hb6
        clear e6 hb6
        by_cases hE : E2 = 0
        · have hE1 : (E2 == 0) = true := by simpa using hE
          go_wp2_with fail
          rw [HX6.out]
          exact ⟨⟨i + 1, D2, _, _, _, _, _, _, by omega, by go_num, by rw [HNW.out, hE], HB6.out⟩, by simp [intOf]; omega⟩
        · have hE1 : (E2 == 0) = false := by simpa using hE
          obtain ⟨⟨q0, q1, q2, q3⟩, _⟩ := box4 HB6.out.dk
          obtain ⟨⟨r0, r1, r2, r3⟩, g0, g1, g2, g3⟩ := box4 HB6.out.zr
          obtain ⟨X7, e7, hb7, hk7, hB7⟩ := box_store4 HB6.out.zr (.slice T1 T2 T3) (.slice T4 T5 T6) (.bool D2.dead) (.int .i64 D2.left)
          have HX7 := Lib.hid e7
          have HB7 := Lib.hid (And.intro (HB6.out.isd.other HB6.out.zr (by decide) (by decide) hk7) (hB7 _ _ HB6.out.below (by omega)))
          obtain ⟨⟨s0, s1, s2, s3⟩, _⟩ := box4 hb7
          have hfin := HST.out hE
          have HF := Lib.hid hfin
          clear e7 hb7 hk7 hB7 hfin
          go_upto_region 6 with (fail)
          rw [HX6.out]
          clear z0 z1 z2 z3 p0 p1 p2 p3 f0 f1 f2 f3 HX6
          go_wp2_with fail
          rw [HX7.out]
          refine bodyPost_ret (v := .tuple #[.agg #[.slice T1 T2 T3, .slice T4 T5 T6, .bool D2.dead, .int .i64 D2.left], .int .i64 E2]) (by simp [results, Tryz.results72, go_sem, s0, s1, s2, s3]) rfl ⟨_, by rw [HF.out], by rw [HF.out]; exact HB7.out.1, HB7.out.2⟩
    · have hnl : decide ((i : Int) < (n : Int)) = false := by simp; omega
      have hin : i = n := by omega
      subst hin
      have hall : wrsF d (homeW x l) = (D, 0) := by
        have := HW.out
        rwa [show l.take i = l by rw [HN.out, List.take_length]] at this
      have hfin : wfF d (homeW x l) = (flD D, flE D) := by unfold wfF; rw [hall, if_pos rfl]
      have hDpl := wrs_pl (homeW x l) HP.out
      rw [hall] at hDpl
      have hlen : (homeW x l).length = l.length := by simp [homeW]
      have hDok : D.ok := hDpl.ok (by omega) (by have := HII.out; omega)
      have HF := Lib.hid hfin
      have CF := Lib.hid (fun v W (h : IsDisk W v D) => rfl_calls v D W h hDok hDpl.inn)
      obtain ⟨⟨p0, p1, p2, p3⟩, _⟩ := box4 HT0.out.dk
      clear hall hfin hDpl hlen hDok
      go_wp2_with fail
      (with_reducible refine (CF.out _ _ HT0.out.isd).mono ?_)
      rintro e wa ⟨v', rfl, hv', hBa⟩
      obtain ⟨T1, T2, T3, T4, T5, T6, rfl⟩ := hv'.parts
      have HT := Lib.hid (HT0.out.more hBa)
      have HV := Lib.hid hv'
      obtain ⟨⟨r0, r1, r2, r3⟩, g0, g1, g2, g3⟩ := box4 HT.out.zr
      obtain ⟨X7, e7, hb7, hk7, hB7⟩ := box_store4 HT.out.zr (.slice T1 T2 T3) (.slice T4 T5 T6) (.bool (flD D).dead) (.int .i64 (flD D).left)
      have HX7 := Lib.hid e7
      have HB7 := Lib.hid (And.intro (hv'.other HT.out.zr (by decide) (by decide) hk7) (hB7 _ _ HT.out.below (by omega)))
      obtain ⟨⟨s0, s1, s2, s3⟩, _⟩ := box4 hb7
      clear hv' hBa e7 hb7 hk7 hB7 p0 p1 p2 p3
      go_wp2_with fail
      rw [HX7.out]
      refine bodyPost_ret (v := .tuple #[.agg #[.slice T1 T2 T3, .slice T4 T5 T6, .bool (flD D).dead, .int .i64 (flD D).left], .int .i64 (flE D)]) (by simp [results, Tryz.results72, go_sem, s0, s1, s2, s3]) rfl ⟨_, by rw [HF.out], by rw [HF.out]; exact HB7.out.1, HB7.out.2⟩

end Go.Proofs.YtnbbijpmkhdgpaaGreat.Vlt

/- VOwn -/
namespace Go.Proofs.YtnbbijpmkhdgpaaGreat.Vlt
open Go.RowKit Go.Sort
open Dsk

/-- A slice of the call's own that reads as these pages. -/
def OwnL (B : Nat) (w : World) (v : Value) (l : List Lf) : Prop := w.ownsRow B 52 2 v l.length (lfCells l)
section
variable {B : Nat} {w w' : World} {v : Value} {l : List Lf}
theorem OwnL.isLfs (h : OwnL B w v l) : IsLfs w v l := SL.of_own h
theorem OwnL.nil (B : Nat) (w : World) : OwnL B w (.slice none 0 0) [] := World.ownsRow_nil _ _ _ _
theorem OwnL.ge (h : OwnL B w v l) : ∀ k, v.ownBlock = some k → B ≤ k := fun k hk => (World.ownsRow.lt h k hk).1
theorem OwnL.below (h : OwnL B w v l) (hb : Below w.heap.size w w') : OwnL B w' v l := by
  refine ⟨h.1, ?_⟩
  rcases h.2 with hn | ⟨g, cap, cur, rfl, hg1, hg, rest⟩
  · exact .inl hn
  · exact .inr ⟨g, cap, cur, rfl, hg1, (hb.block g (Array.getElem?_eq_some_iff.1 hg).1).trans hg, rest⟩
theorem OwnL.form (h : OwnL B w v l) : ∃ A c, v = .slice A l.length c := by
  obtain ⟨A, n, c, e, hn, _⟩ := h.isLfs.open_
  subst hn
  exact ⟨A, c, e⟩
theorem ownL_snoc {x : Lf} (h : w.ownsRow B 52 2 v (l.length + 1) (lfCells l ++ [.int .i64 x.no, .string (strB x.data)])) : OwnL B w v (l ++ [x]) := by
  unfold OwnL
  rw [lfCells_append, lfCells_one, List.length_append]
  exact h
theorem newsL {W : World} (x : Lf) {g : Nat} (hg : W.heap.size = g) : ∀ (j : Nat) (u : Value), ([.int .i64 x.no, .string (strB x.data)] : List Value)[j]? = some u → (W.alloc (.cells #[.int .i64 x.no, .string (strB x.data)] 52)).cell? ((⟨g, 0, none⟩ : Addr).add j) = some u := by
  intro j u hj
  subst hg
  rw [Addr.add_lit, Nat.zero_add, cell_of_row _ _ _ _ _ _ (heap_alloc_new W _), ← hj]
  exact List.getElem?_toArray
theorem oneL (x : Lf) : ∀ u ∈ ([.int .i64 x.no, .string (strB x.data)] : List Value), u.oneCell' = true := by
  intro u hu
  simp only [List.mem_cons, List.not_mem_nil, or_false] at hu
  rcases hu with rfl | rfl <;> rfl
theorem info48 : (Tryz.prog.info? 52).map (fun i => (i.zero, i.size, i.bytes)) = some (some (.agg #[.int .i64 0, .string ⟨#[]⟩]), 2, 24) := by kernel_rfl
theorem below_grown {B : Nat} {a w w' : World} {row : Option Nat} (h : Below B a w) (k : w.grownBy w' row) (hr : ∀ i, row = some i → B ≤ i) (hB : B ≤ w.heap.size) : Below B a w' :=
  ⟨k.os.trans h.os, k.tape.trans h.tape, k.output.trans h.output, Nat.le_trans h.size k.size, fun i hi => (k.block i (by omega) (fun e => by have := hr i e.symm; omega)).trans (h.block i hi)⟩
end

end Go.Proofs.YtnbbijpmkhdgpaaGreat.Vlt

/- VRWrite -/
namespace Go.Proofs.YtnbbijpmkhdgpaaGreat.Vlt
open Go.RowKit Go.Sort
open Dsk

theorem tw_takeL {p : Lf} : ∀ (l : List Lf) (i : Nat), (∀ q x, q < i → l[q]? = some x → x.no < p.no) → (∀ x, l[i]? = some x → ¬ x.no < p.no) → i ≤ l.length →
    l.takeWhile (fun o => decide (o.no < p.no)) = l.take i ∧ l.dropWhile (fun o => decide (o.no < p.no)) = l.drop i
  | [], i, _, _, hi => by simp
  | y :: l, i, h1, h2, hi => by
    cases i with
    | zero =>
      have := h2 y rfl
      rw [List.takeWhile_cons_of_neg (by simpa using this), List.dropWhile_cons_of_neg (by simpa using this)]
      exact ⟨rfl, rfl⟩
    | succ i =>
      have h0 := h1 0 y (by omega) rfl
      obtain ⟨a, b⟩ := tw_takeL l i (fun q x hq hx => h1 (q + 1) x (by omega) (by simpa using hx)) (fun x hx => h2 x (by simpa using hx)) (by simpa using hi)
      rw [List.takeWhile_cons_of_pos (by simpa using h0), List.dropWhile_cons_of_pos (by simpa using h0), a, b]
      exact ⟨rfl, rfl⟩
theorem acc_nextL {l : List Lf} {i j : Nat} {o p : Lf} (h : i ≤ j) (ho : l[j]? = some o) :
    ((l.drop i).take (j + 1 - i)).filter (fun o => decide (o.no ≠ p.no)) = ((l.drop i).take (j - i)).filter (fun o => decide (o.no ≠ p.no)) ++ (if o.no = p.no then [] else [o]) := by
  have e : (l.drop i).take (j + 1 - i) = (l.drop i).take (j - i) ++ [o] := by
    rw [show j + 1 - i = j - i + 1 by omega, List.take_add_one, List.getElem?_drop, show i + (j - i) = j by omega, ho]
    rfl
  rw [e, List.filter_append]
  by_cases hn : o.no = p.no
  · simp [hn]
  · simp [hn]

/-- The world behind the store of a whole vault, under a name of its own. -/
theorem box_store8 {w : World} {g : Nat} {a0 a1 a2 a3 a4 a5 a6 a7 : Value} (h : w.heap[g]? = some (.cells #[a0, a1, a2, a3, a4, a5, a6, a7] 33 (0, 0))) (b0 b1 b2 b3 b4 b5 b6 b7 : Value) :
    ∃ X, (((((((w.setCell ⟨g, 0, none⟩ b0).setCell ⟨g, 1, none⟩ b1).setCell ⟨g, 2, none⟩ b2).setCell ⟨g, 3, none⟩ b3).setCell ⟨g, 4, none⟩ b4).setCell ⟨g, 5, none⟩ b5).setCell ⟨g, 6, none⟩ b6).setCell ⟨g, 7, none⟩ b7 = X ∧
      X.heap[g]? = some (.cells #[b0, b1, b2, b3, b4, b5, b6, b7] 33 (0, 0)) ∧ (∀ k : Nat, k ≠ g → X.heap[k]? = w.heap[k]?) ∧ (∀ (B : Nat) (a : World), Below B a w → B ≤ g → Below B a X) := by
  refine ⟨_, rfl, ?_, fun k hk => ?_, fun B a hb hg => ?_⟩
  · have h0 : (w.setCell ⟨g, 0, none⟩ b0).heap[g]? = some (.cells #[b0, a1, a2, a3, a4, a5, a6, a7] 33 (0, 0)) := heap_setCell_same w g 0 _ 33 _ h
    have h1 : ((w.setCell ⟨g, 0, none⟩ b0).setCell ⟨g, 1, none⟩ b1).heap[g]? = some (.cells #[b0, b1, a2, a3, a4, a5, a6, a7] 33 (0, 0)) := heap_setCell_same (w.setCell ⟨g, 0, none⟩ b0) g 1 _ 33 _ h0
    have h2 : (((w.setCell ⟨g, 0, none⟩ b0).setCell ⟨g, 1, none⟩ b1).setCell ⟨g, 2, none⟩ b2).heap[g]? = some (.cells #[b0, b1, b2, a3, a4, a5, a6, a7] 33 (0, 0)) := heap_setCell_same ((w.setCell ⟨g, 0, none⟩ b0).setCell ⟨g, 1, none⟩ b1) g 2 _ 33 _ h1
    have h3 : ((((w.setCell ⟨g, 0, none⟩ b0).setCell ⟨g, 1, none⟩ b1).setCell ⟨g, 2, none⟩ b2).setCell ⟨g, 3, none⟩ b3).heap[g]? = some (.cells #[b0, b1, b2, b3, a4, a5, a6, a7] 33 (0, 0)) := heap_setCell_same (((w.setCell ⟨g, 0, none⟩ b0).setCell ⟨g, 1, none⟩ b1).setCell ⟨g, 2, none⟩ b2) g 3 _ 33 _ h2
    have h4 : (((((w.setCell ⟨g, 0, none⟩ b0).setCell ⟨g, 1, none⟩ b1).setCell ⟨g, 2, none⟩ b2).setCell ⟨g, 3, none⟩ b3).setCell ⟨g, 4, none⟩ b4).heap[g]? = some (.cells #[b0, b1, b2, b3, b4, a5, a6, a7] 33 (0, 0)) := heap_setCell_same ((((w.setCell ⟨g, 0, none⟩ b0).setCell ⟨g, 1, none⟩ b1).setCell ⟨g, 2, none⟩ b2).setCell ⟨g, 3, none⟩ b3) g 4 _ 33 _ h3
    have h5 : ((((((w.setCell ⟨g, 0, none⟩ b0).setCell ⟨g, 1, none⟩ b1).setCell ⟨g, 2, none⟩ b2).setCell ⟨g, 3, none⟩ b3).setCell ⟨g, 4, none⟩ b4).setCell ⟨g, 5, none⟩ b5).heap[g]? = some (.cells #[b0, b1, b2, b3, b4, b5, a6, a7] 33 (0, 0)) := heap_setCell_same (((((w.setCell ⟨g, 0, none⟩ b0).setCell ⟨g, 1, none⟩ b1).setCell ⟨g, 2, none⟩ b2).setCell ⟨g, 3, none⟩ b3).setCell ⟨g, 4, none⟩ b4) g 5 _ 33 _ h4
    have h6 : (((((((w.setCell ⟨g, 0, none⟩ b0).setCell ⟨g, 1, none⟩ b1).setCell ⟨g, 2, none⟩ b2).setCell ⟨g, 3, none⟩ b3).setCell ⟨g, 4, none⟩ b4).setCell ⟨g, 5, none⟩ b5).setCell ⟨g, 6, none⟩ b6).heap[g]? = some (.cells #[b0, b1, b2, b3, b4, b5, b6, a7] 33 (0, 0)) := heap_setCell_same ((((((w.setCell ⟨g, 0, none⟩ b0).setCell ⟨g, 1, none⟩ b1).setCell ⟨g, 2, none⟩ b2).setCell ⟨g, 3, none⟩ b3).setCell ⟨g, 4, none⟩ b4).setCell ⟨g, 5, none⟩ b5) g 6 _ 33 _ h5
    have h7 : ((((((((w.setCell ⟨g, 0, none⟩ b0).setCell ⟨g, 1, none⟩ b1).setCell ⟨g, 2, none⟩ b2).setCell ⟨g, 3, none⟩ b3).setCell ⟨g, 4, none⟩ b4).setCell ⟨g, 5, none⟩ b5).setCell ⟨g, 6, none⟩ b6).setCell ⟨g, 7, none⟩ b7).heap[g]? = some (.cells #[b0, b1, b2, b3, b4, b5, b6, b7] 33 (0, 0)) := heap_setCell_same (((((((w.setCell ⟨g, 0, none⟩ b0).setCell ⟨g, 1, none⟩ b1).setCell ⟨g, 2, none⟩ b2).setCell ⟨g, 3, none⟩ b3).setCell ⟨g, 4, none⟩ b4).setCell ⟨g, 5, none⟩ b5).setCell ⟨g, 6, none⟩ b6) g 7 _ 33 _ h6
    exact h7
  · rw [Below.heap_setCell _ _ _ _ hk, Below.heap_setCell _ _ _ _ hk, Below.heap_setCell _ _ _ _ hk, Below.heap_setCell _ _ _ _ hk, Below.heap_setCell _ _ _ _ hk, Below.heap_setCell _ _ _ _ hk, Below.heap_setCell _ _ _ _ hk, Below.heap_setCell _ _ _ _ hk]
  · exact (((((((hb.setCell (p := ⟨g, 0, none⟩) hg _).setCell (p := ⟨g, 1, none⟩) hg _).setCell (p := ⟨g, 2, none⟩) hg _).setCell (p := ⟨g, 3, none⟩) hg _).setCell (p := ⟨g, 4, none⟩) hg _).setCell (p := ⟨g, 5, none⟩) hg _).setCell (p := ⟨g, 6, none⟩) hg _).setCell (p := ⟨g, 7, none⟩) hg _
theorem box8 {W : World} {g : Nat} {v0 v1 v2 v3 v4 v5 v6 v7 : Value} {t : TypeId} (h : W.heap[g]? = some (.cells #[v0, v1, v2, v3, v4, v5, v6, v7] t (0, 0))) :
    (W.cell? ⟨g, 0, none⟩ = some v0 ∧ W.cell? ⟨g, 1, none⟩ = some v1 ∧ W.cell? ⟨g, 2, none⟩ = some v2 ∧ W.cell? ⟨g, 3, none⟩ = some v3 ∧ W.cell? ⟨g, 4, none⟩ = some v4 ∧ W.cell? ⟨g, 5, none⟩ = some v5 ∧ W.cell? ⟨g, 6, none⟩ = some v6 ∧ W.cell? ⟨g, 7, none⟩ = some v7) ∧
    ∀ i : Nat, W.frozen? ⟨g, i, none⟩ = false := by
  refine ⟨⟨?_, ?_, ?_, ?_, ?_, ?_, ?_, ?_⟩, fun i => ?_⟩ <;> simp [World.cell?, World.frozen?, h]

theorem IsVault.other {w w' : World} {v : Value} {k : VK} (h : IsVault w v k) {g : Nat} {cur : Array Value} {fr : Nat × Nat} (hg : w.heap[g]? = some (.cells cur 33 fr)) (hk : ∀ b : Nat, b ≠ g → w'.heap[b]? = w.heap[b]?) : IsVault w' v k := by
  obtain ⟨vs, vw, vd, e, h1, h2⟩ := h
  exact ⟨vs, vw, vd, e, h1.other hg (by decide) (by decide) hk, SL.other h2 hg (by decide) hk⟩

/-- The boxes of Write: the vault's, the answer's. -/
structure WB (w W : World) (v0 v1 v7 : Value) (k : VK) : Prop where
  a : VBox W w.heap.size v0 v1 v7 k
  z : W.heap[w.heap.size + 1]? = some (.cells #[.slice none 0 0, .slice none 0 0, .bool false, .int .i64 0, .int .i64 0, .int .i64 0, .int .i64 0, .slice none 0 0] 33 (0, 0))
  below : Below w.heap.size w W
theorem WB.more {w W W' : World} {v0 v1 v7 : Value} {k : VK} (h : WB w W v0 v1 v7 k) (hb : Below W.heap.size W W') : WB w W' v0 v1 v7 k := ⟨h.a.below hb, box_kept _ h.z hb, Dsk.below_trans' h.below hb⟩
theorem WB.new (w : World) (v0 v1 v7 : Value) (k : VK) : ∃ Y, Y = (w.alloc (.cells #[v0, v1, .bool k.disk.dead, .int .i64 k.disk.left, .int .i64 k.shape.pages, .int .i64 k.shape.journal, .int .i64 k.seq, v7] 33)).alloc (.cells #[.slice none 0 0, .slice none 0 0, .bool false, .int .i64 0, .int .i64 0, .int .i64 0, .int .i64 0, .slice none 0 0] 33) ∧ WB w Y v0 v1 v7 k := by
  refine ⟨_, rfl, (VBox.new w v0 v1 v7 k).below (below_one _ _), ?_, Dsk.below_trans' (below_one _ _) (below_one _ _)⟩
  have := heap_alloc_new (w.alloc (.cells #[v0, v1, .bool k.disk.dead, .int .i64 k.disk.left, .int .i64 k.shape.pages, .int .i64 k.shape.journal, .int .i64 k.seq, v7] 33)) (.cells #[.slice none 0 0, .slice none 0 0, .bool false, .int .i64 0, .int .i64 0, .int .i64 0, .int .i64 0, .slice none 0 0] 33)
  simpa using this

set_option maxRecDepth 100000 in
set_option maxHeartbeats 8000000 in
/-- Refused. -/
theorem rwrite_no (v : Value) (k : VK) (no : Int) (data : List UInt8) (w : World) (hv : IsVault w v k) (E : Int) (hE : (¬ (hasP k no ∧ data.length ≤ 208) ∧ E = 1) ∨ ((hasP k no ∧ data.length ≤ 208) ∧ k.disk.dead = true ∧ E = 12)) :
    Calls Tryz.prog 38 #[v, .int .i64 no, .string (strB data)] w fun e w' => ∃ v', e = .returned (.tuple #[v', .int .i64 E]) ∧ IsVault w' v' k ∧ Below w.heap.size w w' := by
  obtain ⟨vs, vw, vd, rfl, h1, h2⟩ := id hv
  obtain ⟨A1, n1, c1, A2, n2, c2, e1⟩ := h1.parts
  obtain ⟨rfl, rfl⟩ : vs = .slice A1 n1 c1 ∧ vw = .slice A2 n2 c2 := by
    simp only [Value.agg.injEq, Array.mk.injEq, List.cons.injEq] at e1
    exact ⟨e1.1, e1.2.1⟩
  obtain ⟨A, n, c, rfl, hn, _, hr⟩ := h2.open_
  have HB : Hid (∀ o1 o2, Below w.heap.size w ((w.alloc o1).alloc o2)) := Lib.hid (fun o1 o2 => Dsk.below_trans' (below_one w o1) (below_one _ o2))
  have HF : Hid (∀ o1 o2, IsVault ((w.alloc o1).alloc o2) (.agg #[.slice A1 n1 c1, .slice A2 n2 c2, .bool k.disk.dead, .int .i64 k.disk.left, .int .i64 k.shape.pages, .int .i64 k.shape.journal, .int .i64 k.seq, .slice A n c]) k) := Lib.hid (fun o1 o2 => hv.below (HB.out o1 o2))
  have hsz := strB_size data
  clear h1 h2 hn hr hv e1
  rcases hE with ⟨hE, rfl⟩ | ⟨hE, hd, rfl⟩
  · by_cases hlo : no < 0
    · clear hE
      go_enter Tryz.func38, Tryz.ntmps38
      go_wp2_with fail
      exact bodyPost_ret (v := .tuple #[.agg #[.slice A1 n1 c1, .slice A2 n2 c2, .bool k.disk.dead, .int .i64 k.disk.left, .int .i64 k.shape.pages, .int .i64 k.shape.journal, .int .i64 k.seq, .slice A n c], .int .i64 1]) (by simp [results, Tryz.results38, go_sem]) rfl ⟨_, rfl, HF.out _ _, HB.out _ _⟩
    · have hlo' : 0 ≤ no := by omega
      by_cases hhi : k.shape.pages ≤ no
      · clear hE
        go_enter Tryz.func38, Tryz.ntmps38
        go_wp2_with fail
        exact bodyPost_ret (v := .tuple #[.agg #[.slice A1 n1 c1, .slice A2 n2 c2, .bool k.disk.dead, .int .i64 k.disk.left, .int .i64 k.shape.pages, .int .i64 k.shape.journal, .int .i64 k.seq, .slice A n c], .int .i64 1]) (by simp [results, Tryz.results38, go_sem]) rfl ⟨_, rfl, HF.out _ _, HB.out _ _⟩
      · have hl : 208 < data.length := by
          apply Classical.byContradiction
          intro h
          exact hE ⟨⟨hlo', by omega⟩, by omega⟩
        have hl2 : (208 : Int) < ((strB data).size : Int) := by omega
        have hl3 : 208 < (strB data).size := by omega
        have hhi' : no < k.shape.pages := by omega
        clear hE
        go_enter Tryz.func38, Tryz.ntmps38
        go_wp2_with fail
        exact bodyPost_ret (v := .tuple #[.agg #[.slice A1 n1 c1, .slice A2 n2 c2, .bool k.disk.dead, .int .i64 k.disk.left, .int .i64 k.shape.pages, .int .i64 k.shape.journal, .int .i64 k.seq, .slice A n c], .int .i64 1]) (by simp [results, Tryz.results38, go_sem]) rfl ⟨_, rfl, HF.out _ _, HB.out _ _⟩
  · obtain ⟨⟨h1, h2⟩, h3⟩ := hE
    have hl2 : ¬ (208 : Int) < ((strB data).size : Int) := by omega
    have hl3 : ¬ 208 < (strB data).size := by omega
    rw [hd] at HF ⊢
    go_enter Tryz.func38, Tryz.ntmps38
    go_wp2_with fail
    exact bodyPost_ret (v := .tuple #[.agg #[.slice A1 n1 c1, .slice A2 n2 c2, .bool true, .int .i64 k.disk.left, .int .i64 k.shape.pages, .int .i64 k.shape.journal, .int .i64 k.seq, .slice A n c], .int .i64 12]) (by simp [results, Tryz.results38, go_sem]) rfl ⟨_, rfl, HF.out _ _, HB.out _ _⟩


set_option maxRecDepth 100000 in
set_option maxHeartbeats 16000000 in
/-- Written. -/
theorem rwrite_ok (v : Value) (k : VK) (no : Int) (data : List UInt8) (w : World) (hv : IsVault w v k) (hg : VGood k) (hR : RiseL k.dirty) (hE : hasP k no ∧ data.length ≤ 208) (hd : k.disk.dead = false) :
    Calls Tryz.prog 38 #[v, .int .i64 no, .string (strB data)] w fun e w' => ∃ v', e = .returned (.tuple #[v', .int .i64 0]) ∧ IsVault w' v' { k with dirty := insL ⟨no, padP data⟩ k.dirty } ∧ Below w.heap.size w w' := by
  obtain ⟨vs, vw, vd, rfl, h1, h2⟩ := id hv
  obtain ⟨i1, hi0, hz0, hz1, hz2⟩ := info_parts info48
  obtain ⟨A1, n1, c1, A2, n2, c2, e1⟩ := h1.parts
  obtain ⟨rfl, rfl⟩ : vs = .slice A1 n1 c1 ∧ vw = .slice A2 n2 c2 := by
    simp only [Value.agg.injEq, Array.mk.injEq, List.cons.injEq] at e1
    exact ⟨e1.1, e1.2.1⟩
  obtain ⟨A, n, c, rfl, hn, _, hr⟩ := h2.open_
  obtain ⟨⟨hlo, hhi⟩, hlen⟩ := hE
  have hnm : n ≤ 1000 := by have := hg.dirty; omega
  obtain ⟨Y, hY, hB⟩ := WB.new w (.slice A1 n1 c1) (.slice A2 n2 c2) (.slice A n c) k
  obtain ⟨b, hb⟩ : ∃ b, b = 208 - data.length := ⟨_, rfl⟩
  obtain ⟨P, hP⟩ : ∃ P, P = padP data := ⟨_, rfl⟩
  have hsz := strB_size data
  have hm : (208 : Int) - ((strB data).size : Int) = (b : Nat) := by omega
  have hm1 : (0 : Int) ≤ 208 - ((strB data).size : Int) := by omega
  have hm2 : ((strB data).size : Int) ≤ 208 := by omega
  have hm3 : ¬ (208 : Int) < ((strB data).size : Int) := by omega
  have hm4 : ¬ 208 < (strB data).size := by omega
  have hz3 : (strB data).size + (strB (Ent.zer b)).size ≤ 5000 := by rw [strB_size, strB_size, Ent.zer_len]; omega
  have hz4 : ¬ 9223372036854775807 < (strB data).size + (strB (Ent.zer b)).size := fun h => absurd (Nat.lt_of_lt_of_le h hz3) (by decide)
  have hmk := Wire.make_zeros b (by omega)
  have hc : ∀ W : World, (convert 76 9 (.slice (some ⟨W.heap.size, 0, none⟩) b b)).run Tryz.prog (W.alloc (.cells (madeCells #[.int .u8 0] b) 5)) = .ok (.string (strB (Ent.zer b))) (W.alloc (.cells (madeCells #[.int .u8 0] b) 5)) := Wire.conv_zeros b
  have hf := Lib.hid (show strB data ++ strB (Ent.zer b) = strB P by rw [hP]; unfold padP; rw [strB_append, hb])
  have HP := Lib.hid hP
  have HY := Lib.hid hY
  have HWB := Lib.hid hB
  have HN := Lib.hid hn
  have HR := Lib.hid hr
  have HV := Lib.hid hv
  have HRI := Lib.hid hR
  have HI := Lib.hid (h1)
  have hhi' : ¬ k.shape.pages ≤ no := by omega
  have hlo' : ¬ no < 0 := by omega
  obtain ⟨Y2, hY2⟩ : ∃ Y2, Y2 = (Y.alloc (.cells (madeCells #[.int .u8 0] b) 5)).alloc (.cells #[.int .i64 no, .string (strB P)] 52) := ⟨_, rfl⟩
  have hB2 : Below Y.heap.size Y Y2 := by rw [hY2]; exact Dsk.below_trans' (below_one _ _) (below_one _ _)
  have hs2 : Y2.heap.size = Y.heap.size + 2 := by rw [hY2]; simp
  have hs1 : Y.heap.size = w.heap.size + 2 := by rw [hY]; simp
  have hleaf : Y2.heap[Y.heap.size + 1]? = some (.cells #[.int .i64 no, .string (strB P)] 52 (0, 0)) := by
    have := heap_alloc_new (Y.alloc (.cells (madeCells #[.int .u8 0] b) 5)) (.cells #[.int .i64 no, .string (strB P)] 52)
    rw [← hY2, show (Y.alloc (.cells (madeCells #[.int .u8 0] b) 5)).heap.size = Y.heap.size + 1 by simp] at this
    exact this
  have HY2 := Lib.hid hY2
  have HW2 := Lib.hid (hB.more hB2)
  have HLF := Lib.hid hleaf
  have HS2 := Lib.hid (show Y2.heap.size = w.heap.size + 4 by omega)
  rw [hd] at hv ⊢
  rw [hd] at HY
  clear hY hB hn hr hR h1 h2 hg hb hP hY2 hB2 hs2 hs1 hleaf e1 hz3 hlen hhi hv hsz
  go_enter Tryz.func38, Tryz.ntmps38
  go_upto_region 5 with (fail)
  rw [← HY.out]
  go_wp2_with fail
  rw [hf.out, ← HY2.out]
  clear HY2 hmk hc hf hm hm1 hm2 hm3 hm4 hz4
  obtain ⟨B, hB⟩ : ∃ B, B = Y2.heap.size := ⟨_, rfl⟩
  have HBB := Lib.hid hB
  clear hB
  go_loopw [9, 10] (fun s9 s10 wr => ∃ (i : Nat) (Z : Option Addr) (z : Nat), i ≤ n ∧ s10 = .int .i64 i ∧ s9 = .slice Z (k.dirty.take i).length z ∧ OwnL B wr (.slice Z (k.dirty.take i).length z) (k.dirty.take i) ∧ (∀ q x, q < i → k.dirty[q]? = some x → x.no < no) ∧ Below Y2.heap.size Y2 wr) (fun _ s10 _ => n - (intOf s10).toNat)
  case atStart => exact ⟨0, none, 0, Nat.zero_le _, rfl, rfl, OwnL.nil _ _, fun q x hq => absurd hq (by omega), Below.refl _ _⟩
  case round =>
    obtain ⟨i, Z, z, hi, rfl, rfl, how, hno, hbr⟩ := hrel
    have HOW := Lib.hid how
    have HNO := Lib.hid hno
    have HBR := Lib.hid hbr
    have htl : (k.dirty.take i).length ≤ 1000 := by rw [List.length_take]; omega
    have hBwr : B ≤ wr.heap.size := by rw [HBB.out]; exact hbr.size
    clear how hno hbr
    obtain ⟨i0, i1', i2, i3, i4, i5, i6, i7⟩ := (HW2.out.more HBR.out).a.at_
    rw [hd] at i2
    by_cases hgo : ∃ o, k.dirty[i]? = some o ∧ o.no < no
    · obtain ⟨o, ho, hlt⟩ := hgo
      have hin : i < n := by have := (List.getElem?_eq_some_iff.1 ho).1; have := HN.out; omega
      obtain ⟨bb, off, rfl, x0, x1⟩ := lf_at HR.out (Dsk.below_trans' HW2.out.below HBR.out) ho (by omega)
      have hi1 : (0 : Int) ≤ (i : Int) := by omega
      have hi2 : (i : Int) < (n : Int) := by omega
      have htk : k.dirty.take (i + 1) = k.dirty.take i ++ [o] := by rw [List.take_add_one, ho]; rfl
      have HTK := Lib.hid htk
      have HO := Lib.hid ho
      have HLT := Lib.hid hlt
      clear htk ho
      go_wp2_with (at_builtin; refine wpList_append_own_at _ (by rfl) (.tmp 58) (.tmp 64) 31 (by rfl) B 52 i1 _ 2 24 Tryz.underlying31 hi0 hz0 hz1 hz2 (by rfl) (by omega) _ (k.dirty.take i).length (lfCells (k.dirty.take i)) (by rfl) (by exact World.ownsRow.alloc HOW.out _) ⟨wr.heap.size, 0, none⟩ 1 1 [.int .i64 o.no, .string (strB o.data)] (by rfl) (by rfl) (by exact newsL o rfl) (oneL o) (Nat.le_trans (show (k.dirty.take i).length + 1 ≤ 1000000 by omega) (by decide)) (by omega) (by simp; omega) ?_; intro v' w' hown' hgrow' hnil' hat')
      obtain ⟨Z', z', hZ⟩ := (ownL_snoc (l := k.dirty.take i) (x := o) hown').form
      have HO5 : Hid (OwnL B w' v' (k.dirty.take (i + 1))) := Lib.hid (by rw [HTK.out]; exact ownL_snoc (l := k.dirty.take i) (x := o) hown')
      have HB5 : Hid (Below Y2.heap.size Y2 w') := Lib.hid (below_grown (Dsk.below_trans' HBR.out (below_one _ _)) hgrow' (fun i hi => by have := HOW.out.ge i hi; rw [HBB.out] at this; exact this) (by have := HBR.out.size; simp; omega))
      rw [← HTK.out] at hZ
      clear hown' hgrow' hnil' hat'
      subst hZ
      go_wp2_with fail
      refine ⟨⟨i + 1, Z', z', by omega, by go_num, rfl, HO5.out, fun q x hq hx => ?_, HB5.out⟩, by simp [intOf]; omega⟩
      by_cases e : q = i
      · subst e
        rw [HO.out] at hx
        injection hx with hx
        subst hx
        exact HLT.out
      · exact HNO.out q x (by omega) hx
    · have hstop : ∀ x, k.dirty[i]? = some x → ¬ x.no < no := fun x hx hl => hgo ⟨x, hx, hl⟩
      have htw := tw_takeL (p := ⟨no, P⟩) k.dirty i HNO.out hstop (by have := HN.out; omega)
      have HTW := Lib.hid htw
      obtain ⟨T, hT⟩ : ∃ T, T = k.dirty.take i := ⟨_, rfl⟩
      have HTi : Hid (T.length = i) := Lib.hid (by rw [hT, List.length_take]; have := HN.out; omega)
      have HT := Lib.hid hT
      have hTl : T.length ≤ 1000 := by rw [hT]; exact htl
      have HST := Lib.hid hstop
      rw [← hT] at HOW ⊢
      have hlf := box_kept _ HLF.out HBR.out
      have y0 : wr.cell? ⟨Y.heap.size + 1, 0, none⟩ = some (.int .i64 no) := by rw [cell_of_row wr _ _ _ _ _ hlf]; rfl
      have y1 : wr.cell? ⟨Y.heap.size + 1, 1, none⟩ = some (.string (strB P)) := by rw [cell_of_row wr _ _ _ _ _ hlf]; rfl
      clear htw hT htl hstop hgo hlf
      by_cases hin : i < n
      all_goals
        first
          | (obtain ⟨o, ho⟩ : ∃ o, k.dirty[i]? = some o := ⟨_, List.getElem?_eq_getElem (by have := HN.out; omega)⟩
             obtain ⟨bb, off, rfl, x0, x1⟩ := lf_at HR.out (Dsk.below_trans' HW2.out.below HBR.out) ho (by omega)
             have hi1 : (0 : Int) ≤ (i : Int) := by omega
             have hi2 : (i : Int) < (n : Int) := by omega
             have hge : ¬ o.no < no := HST.out o ho
             clear ho
             go_upto_region 11 with (fail))
          | (have hi2 : ¬ (i : Int) < (n : Int) := by omega
             go_upto_region 11 with (fail))
        go_wp2_with (at_builtin; refine wpList_append_own_at _ (by rfl) (.tmp 68) (.tmp 70) 31 (by rfl) B 52 i1 _ 2 24 Tryz.underlying31 hi0 hz0 hz1 hz2 (by rfl) (by omega) _ T.length (lfCells T) (by rfl) (by exact World.ownsRow.alloc HOW.out _) ⟨wr.heap.size, 0, none⟩ 1 1 [.int .i64 (⟨no, P⟩ : Lf).no, .string (strB (⟨no, P⟩ : Lf).data)] (by rfl) (by rfl) (by exact newsL (⟨no, P⟩ : Lf) rfl) (oneL (⟨no, P⟩ : Lf)) (Nat.le_trans (show T.length + 1 ≤ 1000000 by omega) (by decide)) (by omega) (by simp; omega) ?_; intro v' w' hown' hgrow' hnil' hat')
        obtain ⟨Z', z', hZ⟩ := (ownL_snoc (l := T) (x := ⟨no, P⟩) hown').form
        have HO5 : Hid (OwnL B w' v' (T ++ [⟨no, P⟩])) := Lib.hid (ownL_snoc (l := T) (x := ⟨no, P⟩) hown')
        have HB5 : Hid (Below Y2.heap.size Y2 w') := Lib.hid (below_grown (Dsk.below_trans' HBR.out (below_one _ _)) hgrow' (fun i hi => by have := HOW.out.ge i hi; rw [HBB.out] at this; exact this) (by have := HBR.out.size; simp; omega))
        clear hown' hgrow' hnil' hat'
        subst hZ
        go_wp2_with fail
        have HTL := Lib.hid hTl
        clear i0 i1' i2 i3 i4 i5 i6 i7 y0 y1 HOW HBR hBwr hTl
        go_loopw [9, 12] (fun s9 s12 wr => ∃ (j : Nat) (acc : List Lf) (Z2 : Option Addr) (z2 : Nat), T.length ≤ j ∧ j ≤ n ∧ s12 = .int .i64 j ∧ s9 = .slice Z2 acc.length z2 ∧ acc = T ++ [⟨no, P⟩] ++ ((k.dirty.drop i).take (j - i)).filter (fun o => decide (o.no ≠ no)) ∧ OwnL B wr (.slice Z2 acc.length z2) acc ∧ acc.length ≤ j + 1 ∧ Below Y2.heap.size Y2 wr) (fun _ s12 _ => n - (intOf s12).toNat)
        case atStart => exact ⟨T.length, T ++ [⟨no, P⟩], Z', z', Nat.le_refl _, by rw [HTi.out]; exact hi, rfl, rfl, by rw [HTi.out]; simp, HO5.out, by simp, HB5.out⟩
        case round =>
          obtain ⟨j, acc, Z2, z2, hj1, hj2, rfl, rfl, hacc, how, hal, hbr⟩ := hrel
          have HACC := Lib.hid hacc
          have HOW := Lib.hid how
          have HBR := Lib.hid hbr
          have HAL := Lib.hid hal
          have hij : i ≤ j := by have := HTi.out; omega
          have hBwr : B ≤ wr.heap.size := by rw [HBB.out]; exact hbr.size
          clear hacc how hbr hal
          have hWB := HW2.out.more HBR.out
          obtain ⟨i0, i1', i2, i3, i4, i5, i6, i7⟩ := hWB.a.at_
          rw [hd] at i2
          by_cases hjn : j < n
          · first
              | exact absurd (show i < n by have := HTi.out; omega) hin
              | (obtain ⟨o, ho⟩ : ∃ o, k.dirty[j]? = some o := ⟨_, List.getElem?_eq_getElem (by have := HN.out; omega)⟩
                 obtain ⟨b2, o2, eA, x0, x1⟩ := lf_at HR.out (Dsk.below_trans' HW2.out.below HBR.out) ho (by omega)
                 first
                   | subst eA
                   | (simp only [Option.some.injEq, Addr.mk.injEq] at eA; obtain ⟨rfl, rfl, _⟩ := eA)
                 have hi1 : (0 : Int) ≤ (j : Int) := by omega
                 have hi2 : (j : Int) < (n : Int) := by omega
                 have hnx := acc_nextL (p := ⟨no, P⟩) hij ho
                 have HNX := Lib.hid hnx
                 clear hnx ho hWB
                 by_cases ho : o.no = no
                 · have ho2 : (o.no == no) = true := by simpa using ho
                   have ho3 : (o.no != no) = false := by rw [bne, ho2]; rfl
                   have HO := Lib.hid ho
                   clear ho
                   go_wp2_with fail
                   exact ⟨⟨j + 1, acc, Z2, z2, by omega, by omega, by go_num, rfl, by have h := HNX.out; dsimp only at h; rw [h, if_pos HO.out, List.append_nil]; exact HACC.out, HOW.out, by have := HAL.out; omega, HBR.out⟩, by simp [intOf]; omega⟩
                 · have ho2 : (o.no == no) = false := by simpa using ho
                   have ho3 : (o.no != no) = true := by rw [bne, ho2]; rfl
                   have HO := Lib.hid ho
                   have hacl : acc.length ≤ 1001 := by have := HAL.out; omega
                   clear ho
                   go_wp2_with (at_builtin; refine wpList_append_own_at _ (by rfl) (.tmp 88) (.tmp 94) 31 (by rfl) B 52 i1 _ 2 24 Tryz.underlying31 hi0 hz0 hz1 hz2 (by rfl) (by omega) _ acc.length (lfCells acc) (by rfl) (by exact World.ownsRow.alloc HOW.out _) ⟨wr.heap.size, 0, none⟩ 1 1 [.int .i64 o.no, .string (strB o.data)] (by rfl) (by rfl) (by exact newsL o rfl) (oneL o) (Nat.le_trans (show acc.length + 1 ≤ 1000000 by omega) (by decide)) (by omega) (by simp; omega) ?_; intro v' w' hown' hgrow' hnil' hat')
                   obtain ⟨Z3, z3, hZ⟩ := (ownL_snoc (l := acc) (x := o) hown').form
                   have HO6 : Hid (OwnL B w' v' (acc ++ [o])) := Lib.hid (ownL_snoc (l := acc) (x := o) hown')
                   have HB6 : Hid (Below Y2.heap.size Y2 w') := Lib.hid (below_grown (Dsk.below_trans' HBR.out (below_one _ _)) hgrow' (fun i hi => by have := HOW.out.ge i hi; rw [HBB.out] at this; exact this) (by have := HBR.out.size; simp; omega))
                   clear hown' hgrow' hnil' hat'
                   subst hZ
                   go_wp2_with fail
                   have hE : acc ++ [o] = T ++ [⟨no, P⟩] ++ ((k.dirty.drop i).take (j + 1 - i)).filter (fun o => decide (o.no ≠ no)) := by have h := HNX.out; (try dsimp only at h); rw [h, if_neg HO.out, HACC.out]; simp only [List.append_assoc]
                   exact ⟨⟨j + 1, by omega, by omega, by go_num, acc ++ [o], Z3, z3, rfl, by simpa using hE, HO6.out, by have := HAL.out; simp; omega, HB6.out⟩, by simp [intOf]; omega⟩)
          · have hi2 : ¬ (j : Int) < (n : Int) := by omega
            have hjj : j = n := by omega
            have hfin : acc = insL ⟨no, P⟩ k.dirty := by
              have h := HACC.out
              rw [hjj, List.take_of_length_le (by rw [List.length_drop]; have := HN.out; omega)] at h
              unfold insL
              rw [HTW.out.1, HTW.out.2, ← HT.out, h]
              simp
            have HFI := Lib.hid hfin
            have kf := hWB.a.free
            obtain ⟨X1, hX1⟩ : ∃ X1, X1 = wr.setCell ⟨w.heap.size, 7, none⟩ (.slice Z2 acc.length z2) := ⟨_, rfl⟩
            have ha1 : X1.heap[w.heap.size]? = some (.cells #[.slice A1 n1 c1, .slice A2 n2 c2, .bool k.disk.dead, .int .i64 k.disk.left, .int .i64 k.shape.pages, .int .i64 k.shape.journal, .int .i64 k.seq, .slice Z2 acc.length z2] 33 (0, 0)) := by rw [hX1]; exact heap_setCell_same wr w.heap.size 7 _ 33 _ hWB.a
            have hk1 : ∀ q : Nat, q ≠ w.heap.size → X1.heap[q]? = wr.heap[q]? := fun q hq => by rw [hX1]; exact Below.heap_setCell _ _ _ _ hq
            have hz1' := (hk1 (w.heap.size + 1) (by omega)).trans hWB.z
            have hb1 : Below w.heap.size w X1 := by rw [hX1]; exact hWB.below.setCell (p := ⟨w.heap.size, 7, none⟩) (Nat.le_refl _) _
            obtain ⟨X2, hX2, hbX, hkX, hBX⟩ := box_store8 hz1' (.slice A1 n1 c1) (.slice A2 n2 c2) (.bool k.disk.dead) (.int .i64 k.disk.left) (.int .i64 k.shape.pages) (.int .i64 k.shape.journal) (.int .i64 k.seq) (.slice Z2 acc.length z2)
            have HX1 := Lib.hid hX1
            have HX2 := Lib.hid hX2
            have hvd := (HI.out.below hWB.below).other hWB.a (by decide) (by decide) hk1
            have hvd2 := hvd.other hz1' (by decide) (by decide) hkX
            have hl1 : IsLfs X1 (.slice Z2 acc.length z2) acc := SL.other HOW.out.isLfs hWB.a (by decide) hk1
            have hl2 : IsLfs X2 (.slice Z2 acc.length z2) acc := SL.other hl1 hz1' (by decide) hkX
            have HFIN : Hid (IsVault X2 (.agg #[.slice A1 n1 c1, .slice A2 n2 c2, .bool k.disk.dead, .int .i64 k.disk.left, .int .i64 k.shape.pages, .int .i64 k.shape.journal, .int .i64 k.seq, .slice Z2 acc.length z2]) { k with dirty := insL ⟨no, padP data⟩ k.dirty } ∧ Below w.heap.size w X2) := Lib.hid ⟨⟨_, _, _, rfl, hvd2, by rw [← HP.out, ← HFI.out]; exact hl2⟩, hBX _ _ hb1 (by omega)⟩
            have HA1 := Lib.hid (box8 ha1)
            have HZ1 := Lib.hid (box8 hz1')
            have HBX := Lib.hid (box8 hbX)
            rw [hd] at HFIN HA1 HBX HX2
            clear hfin hjj hX1 ha1 hk1 hz1' hb1 hX2 hbX hkX hBX hvd hvd2 hl1 hl2 hWB
            go_upto_region 19 with (fail)
            rw [← HX1.out]
            clear i0 i1' i2 i3 i4 i5 i6 i7 kf HX1
            obtain ⟨⟨i0, i1', i2, i3, i4, i5, i6, i7⟩, _⟩ := HA1.out
            obtain ⟨⟨z0, z1, z2', z3, z4, z5, z6, z7⟩, zf⟩ := HZ1.out
            go_wp2_with fail
            rw [HX2.out]
            clear i0 i1' i2 i3 i4 i5 i6 i7 z0 z1 z2' z3 z4 z5 z6 z7 zf
            obtain ⟨⟨z0, z1, z2', z3, z4, z5, z6, z7⟩, _⟩ := HBX.out
            exact bodyPost_ret (v := .tuple #[.agg #[.slice A1 n1 c1, .slice A2 n2 c2, .bool false, .int .i64 k.disk.left, .int .i64 k.shape.pages, .int .i64 k.shape.journal, .int .i64 k.seq, .slice Z2 acc.length z2], .int .i64 0]) (by simp [results, Tryz.results38, go_sem, z0, z1, z2', z3, z4, z5, z6, z7]) rfl ⟨_, rfl, HFIN.out.1, HFIN.out.2⟩

/-- Whatever is asked. -/
theorem rwrite_calls (v : Value) (k : VK) (no : Int) (data : List UInt8) (w : World) (hv : IsVault w v k) (hg : VGood k) (hR : RiseL k.dirty) :
    Calls Tryz.prog 38 #[v, .int .i64 no, .string (strB data)] w fun e w' => ∃ v', e = .returned (.tuple #[v', .int .i64 (writeV k no data).2]) ∧ IsVault w' v' (writeV k no data).1 ∧ Below w.heap.size w w' := by
  unfold writeV
  by_cases hE : hasP k no ∧ data.length ≤ 208
  · rw [if_neg (by simp [hE])]
    rcases Bool.eq_false_or_eq_true k.disk.dead with hd | hd
    · rw [if_pos hd]
      exact rwrite_no v k no data w hv 12 (.inr ⟨hE, hd, rfl⟩)
    · rw [if_neg (by simp [hd])]
      exact rwrite_ok v k no data w hv hg hR hE hd
  · rw [if_pos hE]
    exact rwrite_no v k no data w hv 1 (.inl ⟨hE, rfl⟩)

end Go.Proofs.YtnbbijpmkhdgpaaGreat.Vlt
