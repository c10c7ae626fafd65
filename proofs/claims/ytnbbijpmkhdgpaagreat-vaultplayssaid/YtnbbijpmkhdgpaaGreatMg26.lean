/- Contracts and plain mathematics that the statement's proof wants: no statement is proved here, nothing is assumed. -/
import Derived.Test.YtnbbijpmkhdgpaaGreatMg14
import Derived.Test.YtnbbijpmkhdgpaaGreatMg23
import Derived.Test.YtnbbijpmkhdgpaaGreatMg24
import Derived.Test.YtnbbijpmkhdgpaaGreatMg25
/- POpen1 -/
namespace Go.Proofs.YtnbbijpmkhdgpaaGreat.Vlt
open Go.RowKit Go.Sort
open Dsk
open Ent (isE parseE)

/-- A slice that reads as these entries. -/
def enCells (l : List Ent.En) : List Value := l.flatMap fun x => [.int .i64 x.seq, .int .i64 x.index, .bool x.last, .int .i64 x.no, .string (strB x.data)]
theorem enCells_cons (x : Ent.En) (l : List Ent.En) : enCells (x :: l) = [.int .i64 x.seq, .int .i64 x.index, .bool x.last, .int .i64 x.no, .string (strB x.data)] ++ enCells l := rfl
theorem enCells_len (l : List Ent.En) : (enCells l).length = l.length * 5 := by
  induction l with
  | nil => rfl
  | cons a l ih => rw [enCells_cons, List.length_append, ih]; simp; omega

/-- The rows of the journal's list: each entry in its five cells. -/
structure EnRow (w : World) (g : Nat) (n : Nat) (f : Nat → Ent.En) : Prop where
  row : ∃ cur, w.heap[g]? = some (.cells cur 55 (0, 0)) ∧ cur.size = n * 5 ∧ ∀ i, i < n → cur[i * 5]? = some (.int .i64 (f i).seq) ∧ cur[i * 5 + 1]? = some (.int .i64 (f i).index) ∧ cur[i * 5 + 2]? = some (.bool (f i).last) ∧ cur[i * 5 + 3]? = some (.int .i64 (f i).no) ∧ cur[i * 5 + 4]? = some (.string (strB (f i).data))
section
variable {w w' : World} {g n : Nat} {f : Nat → Ent.En}
theorem EnRow.lt (h : EnRow w g n f) : g < w.heap.size := by
  obtain ⟨cur, h1, _⟩ := h.row
  exact (Array.getElem?_eq_some_iff.1 h1).1
theorem EnRow.keep (h : EnRow w g n f) (e : w'.heap[g]? = w.heap[g]?) : EnRow w' g n f := by
  obtain ⟨cur, h1, h2⟩ := h.row
  exact ⟨cur, e.trans h1, h2⟩
theorem EnRow.below (h : EnRow w g n f) (hb : Below w.heap.size w w') : EnRow w' g n f := h.keep (hb.block g h.lt)
theorem EnRow.at_ (h : EnRow w g n f) {i : Nat} (hi : i < n) : w.cell? ⟨g, i * 5, none⟩ = some (.int .i64 (f i).seq) ∧ w.cell? ⟨g, i * 5 + 1, none⟩ = some (.int .i64 (f i).index) ∧ w.cell? ⟨g, i * 5 + 2, none⟩ = some (.bool (f i).last) ∧ w.cell? ⟨g, i * 5 + 3, none⟩ = some (.int .i64 (f i).no) ∧ w.cell? ⟨g, i * 5 + 4, none⟩ = some (.string (strB (f i).data)) := by
  obtain ⟨cur, h1, h2, h3⟩ := h.row
  obtain ⟨a, b, c, d, e⟩ := h3 i hi
  refine ⟨?_, ?_, ?_, ?_, ?_⟩ <;> (rw [cell_of_row w g _ _ _ _ h1]; assumption)
theorem EnRow.free (h : EnRow w g n f) (i : Nat) : w.frozen? ⟨g, i, none⟩ = false := by
  obtain ⟨cur, h1, _⟩ := h.row
  simp [World.frozen?, h1]
/-- One entry is stored. -/
theorem EnRow.put (h : EnRow w g n f) {i : Nat} (hi : i < n) (x : Ent.En) :
    ∃ X, ((((w.setCell ⟨g, i * 5, none⟩ (.int .i64 x.seq)).setCell ⟨g, i * 5 + 1, none⟩ (.int .i64 x.index)).setCell ⟨g, i * 5 + 2, none⟩ (.bool x.last)).setCell ⟨g, i * 5 + 3, none⟩ (.int .i64 x.no)).setCell ⟨g, i * 5 + 4, none⟩ (.string (strB x.data)) = X ∧
      EnRow X g n (fun j => if j = i then x else f j) ∧ (∀ k : Nat, k ≠ g → X.heap[k]? = w.heap[k]?) ∧ (∀ (B : Nat) (a : World), Below B a w → B ≤ g → Below B a X) := by
  obtain ⟨cur, h1, h2, h3⟩ := h.row
  refine ⟨_, rfl, ⟨_, heap_setCell_same _ g _ _ 55 _ (heap_setCell_same _ g _ _ 55 _ (heap_setCell_same _ g _ _ 55 _ (heap_setCell_same _ g _ _ 55 _ (heap_setCell_same w g _ _ 55 _ h1)))), by simp [h2], fun j hj => ?_⟩, fun k hk => ?_, fun B a hb hg => ?_⟩
  · obtain ⟨a, b, c, d, e⟩ := h3 j hj
    simp only [Array.getElem?_setIfInBounds, Array.size_setIfInBounds, h2]
    by_cases hji : j = i
    · subst hji
      rw [if_pos rfl]
      refine ⟨?_, ?_, ?_, ?_, ?_⟩ <;> (repeat (first | rw [if_neg (by omega)] | rw [if_pos (by omega)]))
    · rw [if_neg hji]
      refine ⟨?_, ?_, ?_, ?_, ?_⟩ <;> (repeat rw [if_neg (by omega)]) <;> assumption
  · rw [Below.heap_setCell _ _ _ _ hk, Below.heap_setCell _ _ _ _ hk, Below.heap_setCell _ _ _ _ hk, Below.heap_setCell _ _ _ _ hk, Below.heap_setCell _ _ _ _ hk]
  · exact ((((hb.setCell (p := ⟨g, i * 5, none⟩) hg _).setCell (p := ⟨g, i * 5 + 1, none⟩) hg _).setCell (p := ⟨g, i * 5 + 2, none⟩) hg _).setCell (p := ⟨g, i * 5 + 3, none⟩) hg _).setCell (p := ⟨g, i * 5 + 4, none⟩) hg _
end

theorem zeroEn : ∃ z : Ent.En, z = ⟨0, 0, false, 0, []⟩ := ⟨_, rfl⟩
theorem info55 : (Tryz.prog.info? 55).map (fun i => (i.zero, i.size, i.bytes)) = some (some (.agg #[.int .i64 0, .int .i64 0, .bool false, .int .i64 0, .string ⟨#[]⟩]), 5, 48) := by kernel_rfl

end Go.Proofs.YtnbbijpmkhdgpaaGreat.Vlt

/- PShape -/
namespace Go.Proofs.YtnbbijpmkhdgpaaGreat.Vlt
open Go.RowKit Go.Sort
open Dsk

set_option maxRecDepth 100000 in
theorem eql_nil (A : Option Addr) (n c : Nat) (w : World) : (binOp .eql 26 (.slice A n c) (.slice none 0 0)).run Tryz.prog w = .ok (.bool A.isNone) w := by
  cases A with
  | none => first | (go_simp; done) | (go_simp; rfl)
  | some a => first | (go_simp; done) | (go_simp; rfl)

set_option maxRecDepth 100000 in
set_option maxHeartbeats 4000000 in
theorem clonew_calls (v : Value) (l : List (Int × ByteArray)) (w : World) (h : SL w 72 2 v l.length (wetCells l)) (hn : l.length ≤ 100000) :
    Calls Tryz.prog 90 #[v] w fun e w' => ∃ v', e = .returned v' ∧ SL w' 72 2 v' l.length (wetCells l) ∧ Below w.heap.size w w' := by
  obtain ⟨i1, hi0, hz0, hz1, hz2⟩ := info_parts info72
  obtain ⟨A, c, rfl, hc, hr⟩ := h
  obtain ⟨n, hnl⟩ : ∃ n, n = l.length := ⟨_, rfl⟩
  rw [← hnl] at hr hc ⊢
  have hq := fun W => eql_nil A n c W
  cases A with
  | none =>
    have h0 : n = 0 := by
      rcases Nat.eq_zero_or_pos n with h | h
      · exact h
      · obtain ⟨b, off, e, _⟩ := hr.at_ h
        cases e
    subst h0
    have e0 : l = [] := List.eq_nil_of_length_eq_zero hnl.symm
    subst e0
    rw [show (none : Option Addr).isNone = true from rfl] at hq
    clear hr hc hnl
    go_enter Tryz.func90, Tryz.ntmps90
    go_wp2_with fail
    go_ret
    exact ⟨_, rfl, SL.nil _ _ _, Below.refl _ _⟩
  | some ad =>
    rw [show (some ad).isNone = false from rfl] at hq
    have hnews : ∀ (j : Nat) (u : Value), (wetCells l)[j]? = some u → ∀ W, Below w.heap.size w W → W.cell? (ad.add j) = some u := by
      intro j u hu W hW
      have hlt := (List.getElem?_eq_some_iff.1 hu).1
      rw [wetCells_length] at hlt
      obtain ⟨b, off, e, hb, hcl⟩ := hr.at_ (by omega)
      injection e with e
      subst e
      rw [Addr.add_lit]
      exact (hW.cell (p := ⟨b, off + j, none⟩) hb).trans (hcl j u hu)
    have hone : ∀ u ∈ wetCells l, u.oneCell' = true := by
      intro u hu
      unfold wetCells at hu
      obtain ⟨p, _, hp⟩ := List.mem_flatMap.1 hu
      simp only [List.mem_cons, List.not_mem_nil, or_false] at hp
      rcases hp with rfl | rfl <;> rfl
    have hlen : (wetCells l).length = n * 2 := by rw [wetCells_length, hnl]
    have HNW := Lib.hid hnews
    have HONE := Lib.hid hone
    have HLEN := Lib.hid hlen
    have hn' : n ≤ 100000 := by omega
    have hown : ∀ W : World, World.ownsRow (W.alloc (.cells #[] 72)) W.heap.size 72 2 (.slice (some ⟨W.heap.size, 0, none⟩) 0 0) 0 [] := fun W =>
      ⟨rfl, .inr ⟨W.heap.size, 0, #[], rfl, Nat.le_refl _, heap_alloc_new W _, Nat.le_refl _, by decide, rfl, rfl⟩⟩
    have HOWN := Lib.hid hown
    clear hr hc hnews hone hlen hown hnl
    go_enter Tryz.func90, Tryz.ntmps90
    go_wp2_with (at_builtin; refine wpList_append_own_at _ (by rfl) (.tmp 5) (.tmp 6) 26 (by rfl) w.heap.size 72 i1 _ 2 24 Tryz.underlying26 hi0 hz0 hz1 hz2 (by rfl) (by omega) _ 0 [] (by rfl) (by exact HOWN.out w) ad n c (wetCells l) (by rfl) HLEN.out (fun j u hu => HNW.out j u hu _ (below_one _ _)) HONE.out (Nat.le_trans (show 0 + n ≤ 1000000 by omega) (by decide)) (by omega) (by simp) ?_; intro v' w' hown' hgrow' hnil' hat')
    have hsl : SL w' 72 2 v' n (wetCells l) := by have := SL.of_own hown'; simpa using this
    have hbl : Below w.heap.size w w' := below_grown (below_one w (.cells #[] 72)) hgrow' (fun q hq => by have h : some w.heap.size = some q := hq; injection h with h; omega) (by simp)
    have HS := Lib.hid hsl
    have HB := Lib.hid hbl
    clear hown' hgrow' hnil' hat' hsl hbl
    go_wp2_with fail
    go_ret
    exact ⟨_, rfl, HS.out, HB.out⟩

theorem SB2.put0 {w W : World} {vs vw us : Value} {d : DK} (h : SB2 w W vs vw d) (hs : SL W 9 1 us d.sure.length (d.sure.map Value.string)) :
    ∃ X, W.setCell ⟨w.heap.size, 0, none⟩ us = X ∧ SB2 w X us vw d := by
  refine ⟨_, rfl, heap_setCell_same W w.heap.size 0 _ 28 _ h.dk, ?_, (Below.heap_setCell _ _ _ _ (show w.heap.size + 1 ≠ w.heap.size by omega)).trans h.zr, h.below.setCell (p := ⟨w.heap.size, 0, none⟩) (Nat.le_refl _) _⟩
  obtain ⟨_, _, e, h1, h2⟩ := h.isd
  simp only [Value.agg.injEq, Array.mk.injEq, List.cons.injEq] at e
  obtain ⟨rfl, rfl, _⟩ := e
  have hk : ∀ b : Nat, b ≠ w.heap.size → (W.setCell ⟨w.heap.size, 0, none⟩ us).heap[b]? = W.heap[b]? := fun b hb => Below.heap_setCell _ _ _ _ hb
  exact ⟨_, _, rfl, hs.other h.dk (by decide) hk, h2.other h.dk (by decide) hk⟩
theorem SB2.put1 {w W : World} {vs vw uw : Value} {d : DK} (h : SB2 w W vs vw d) (hs : SL W 72 2 uw d.wet.length (wetCells d.wet)) :
    ∃ X, W.setCell ⟨w.heap.size, 1, none⟩ uw = X ∧ SB2 w X vs uw d := by
  refine ⟨_, rfl, heap_setCell_same W w.heap.size 1 _ 28 _ h.dk, ?_, (Below.heap_setCell _ _ _ _ (show w.heap.size + 1 ≠ w.heap.size by omega)).trans h.zr, h.below.setCell (p := ⟨w.heap.size, 1, none⟩) (Nat.le_refl _) _⟩
  obtain ⟨_, _, e, h1, h2⟩ := h.isd
  simp only [Value.agg.injEq, Array.mk.injEq, List.cons.injEq] at e
  obtain ⟨rfl, rfl, _⟩ := e
  have hk : ∀ b : Nat, b ≠ w.heap.size → (W.setCell ⟨w.heap.size, 1, none⟩ uw).heap[b]? = W.heap[b]? := fun b hb => Below.heap_setCell _ _ _ _ hb
  exact ⟨_, _, rfl, h1.other h.dk (by decide) hk, hs.other h.dk (by decide) hk⟩

set_option maxRecDepth 100000 in
set_option maxHeartbeats 4000000 in
theorem apart_calls (v : Value) (d : DK) (w : World) (hv : IsDisk w v d) (h1 : d.sure.length ≤ 100000) (h2 : d.wet.length ≤ 100000) :
    Calls Tryz.prog 56 #[v] w fun e w' => ∃ v', e = .returned v' ∧ IsDisk w' v' d ∧ Below w.heap.size w w' := by
  obtain ⟨X1, X2, X3, X4, X5, X6, rfl⟩ := hv.parts
  obtain ⟨Y, hY, hB⟩ := SB2.new w hv
  have hsd : SL w 9 1 (.slice X1 X2 X3) d.sure.length (d.sure.map Value.string) ∧ SL w 72 2 (.slice X4 X5 X6) d.wet.length (wetCells d.wet) := by
    obtain ⟨_, _, e, a, b⟩ := hv
    simp only [Value.agg.injEq, Array.mk.injEq, List.cons.injEq] at e
    obtain ⟨rfl, rfl, _⟩ := e
    exact ⟨a, b⟩
  have C1 := Lib.hid (fun W (hb : Below w.heap.size w W) => Dsk.clone_calls (.slice X1 X2 X3) d.sure W (hsd.1.below hb) (by omega))
  have C2 := Lib.hid (fun W (hb : Below w.heap.size w W) => clonew_calls (.slice X4 X5 X6) d.wet W (hsd.2.below hb) h2)
  have HY := Lib.hid hY
  have HB := Lib.hid hB
  obtain ⟨⟨p0, p1, p2, p3⟩, f0, f1, f2, f3⟩ := box4 hB.dk
  clear hY hB hsd hv h1 h2
  go_enter Tryz.func56, Tryz.ntmps56
  go_upto_region 1 with (fail)
  rw [← HY.out]
  clear HY
  go_wp2_with fail
  (with_reducible refine (C1.out _ HB.out.below).mono ?_)
  rintro e w1 ⟨u, rfl, hu, hb1⟩
  obtain ⟨U1, U2, rfl, hU3, hU4⟩ := SL.of_own hu
  have HB1 := Lib.hid (HB.out.more hb1)
  obtain ⟨Z1, hZ1, hz1⟩ := HB1.out.put0 ⟨U1, U2, rfl, hU3, hU4⟩
  have HZ1 := Lib.hid hZ1
  have HQ1 := Lib.hid hz1
  clear hu hb1 hU3 hU4 hZ1 hz1 p0 p1 p2 p3 f0 f1 f2 f3
  obtain ⟨⟨p0, p1, p2, p3⟩, f0, f1, f2, f3⟩ := box4 HB1.out.dk
  go_upto_region 2 with (fail)
  rw [HZ1.out]
  clear p0 p1 p2 p3 f0 f1 f2 f3 HZ1
  obtain ⟨⟨p0, p1, p2, p3⟩, f0, f1, f2, f3⟩ := box4 HQ1.out.dk
  go_wp2_with fail
  (with_reducible refine (C2.out _ HQ1.out.below).mono ?_)
  rintro e w2 ⟨u2, rfl, hu2, hb2⟩
  obtain ⟨V1, V2, rfl, hV3, hV4⟩ := hu2
  have HB2 := Lib.hid (HQ1.out.more hb2)
  obtain ⟨Z2, hZ2, hz2⟩ := HB2.out.put1 ⟨V1, V2, rfl, hV3, hV4⟩
  have HZ2 := Lib.hid hZ2
  have HQ2 := Lib.hid hz2
  clear hb2 hV3 hV4 hZ2 hz2 p0 p1 p2 p3 f0 f1 f2 f3
  obtain ⟨⟨p0, p1, p2, p3⟩, f0, f1, f2, f3⟩ := box4 HB2.out.dk
  go_upto_region 3 with (fail)
  rw [HZ2.out]
  clear p0 p1 p2 p3 f0 f1 f2 f3 HZ2
  obtain ⟨⟨p0, p1, p2, p3⟩, f0, f1, f2, f3⟩ := box4 HQ2.out.dk
  obtain ⟨⟨r0, r1, r2, r3⟩, g0, g1, g2, g3⟩ := box4 HQ2.out.zr
  obtain ⟨X7, e7, hb7, hk7, hB7⟩ := box_store4 HQ2.out.zr (.slice U1 d.sure.length U2) (.slice V1 d.wet.length V2) (.bool d.dead) (.int .i64 d.left)
  have HX7 := Lib.hid e7
  have HB7 := Lib.hid (And.intro (HQ2.out.isd.other HQ2.out.zr (by decide) (by decide) hk7) (hB7 _ _ HQ2.out.below (by omega)))
  obtain ⟨⟨s0, s1, s2, s3⟩, _⟩ := box4 hb7
  clear e7 hb7 hk7 hB7
  go_wp2_with fail
  rw [HX7.out]
  exact bodyPost_ret (v := .agg #[.slice U1 d.sure.length U2, .slice V1 d.wet.length V2, .bool d.dead, .int .i64 d.left]) (by simp [results, Tryz.results56, go_sem, s0, s1, s2, s3]) rfl ⟨_, rfl, HB7.out.1, HB7.out.2⟩

/-- The shape that a disk begins with. -/
def shapeR (d : DK) : Sh × Int := if rdE d 0 = 12 then (zeroS, 12) else if ¬ (isS (headS d) = true ∧ (d.sure.length : Int) = sizeX (parseS (headS d))) then (zeroS, 14) else (parseS (headS d), 0)

set_option maxRecDepth 100000 in
set_option maxHeartbeats 8000000 in
theorem shape_calls (v : Value) (d : DK) (w : World) (hv : IsDisk w v d) (hok : d.ok) :
    Calls Tryz.prog 51 #[v] w fun e w' => e = .returned (.tuple #[shV (shapeR d).1, .int .i64 (shapeR d).2]) ∧ Below w.heap.size w w' := by
  obtain ⟨X1, X2, X3, X4, X5, X6, rfl⟩ := hv.parts
  obtain ⟨n, hn⟩ : ∃ n, n = d.sure.length := ⟨_, rfl⟩
  have hX2 : X2 = n := by
    obtain ⟨_, _, e, ⟨_, _, e2, _⟩, _⟩ := hv
    simp only [Value.agg.injEq, Array.mk.injEq, List.cons.injEq] at e
    rw [← e.1] at e2
    injection e2 with _ e3
    rw [e3, hn]
  subst hX2
  obtain ⟨Y, hY⟩ : ∃ Y, Y = (w.alloc (.cells #[.slice X1 X2 X3, .slice X4 X5 X6, .bool d.dead, .int .i64 d.left] 28)).alloc (.cells #[.int .i64 0, .int .i64 0] 30) := ⟨_, rfl⟩
  have hB : Below w.heap.size w Y := by rw [hY]; exact Dsk.below_trans' (below_one _ _) (below_one _ _)
  have hdk : Y.heap[w.heap.size]? = some (.cells #[.slice X1 X2 X3, .slice X4 X5 X6, .bool d.dead, .int .i64 d.left] 28 (0, 0)) := by rw [hY]; exact box_kept _ (heap_alloc_new w _) (below_one _ _)
  have hzr : SBox Y (w.heap.size + 1) zeroS := by
    have h := heap_alloc_new (w.alloc (.cells #[.slice X1 X2 X3, .slice X4 X5 X6, .bool d.dead, .int .i64 d.left] 28)) (.cells #[.int .i64 0, .int .i64 0] 30)
    rw [← hY, show (w.alloc (.cells #[.slice X1 X2 X3, .slice X4 X5 X6, .bool d.dead, .int .i64 d.left] 28)).heap.size = w.heap.size + 1 by simp] at h
    exact h
  obtain ⟨S, hS⟩ : ∃ S, S = headS d := ⟨_, rfl⟩
  have hS2 : rdS d 0 = strB S := by rw [hS]; unfold headS; rw [strB_of]
  obtain ⟨E, hE⟩ : ∃ E, E = rdE d 0 := ⟨_, rfl⟩
  have CR := Dsk.read_calls _ d 0 Y (hv.below hB) hok
  rw [hS2, ← hE] at CR
  have HSR : Hid (shapeR d = if E = 12 then (zeroS, 12) else if ¬ (isS S = true ∧ (X2 : Int) = sizeX (parseS S)) then (zeroS, 14) else (parseS S, 0)) := Lib.hid (by unfold shapeR; rw [← hS, ← hE, hn])
  obtain ⟨⟨p0, p1, p2, p3⟩, _⟩ := box4 hdk
  have CR := Lib.hid CR
  have HY := Lib.hid hY
  have HB := Lib.hid hB
  have HDK := Lib.hid hdk
  have HZR := Lib.hid hzr
  obtain ⟨y, hy⟩ : ∃ y, y = parseS S := ⟨_, rfl⟩
  obtain ⟨ok, hko⟩ : ∃ b, b = isS S := ⟨_, rfl⟩
  have CP := fun W => parse_calls S W
  rw [← hy, ← hko] at CP
  rw [← hy, ← hko] at HSR
  have CP := Lib.hid CP
  have CZ := fun W => size_calls y W
  obtain ⟨N, hN⟩ : ∃ N, N = sizeX y := ⟨_, rfl⟩
  rw [show placeN y y.pages = N from hN.symm] at CZ
  rw [← hN] at HSR
  have CZ := Lib.hid CZ
  unfold shV at CP CZ ⊢
  clear hY hB hdk hzr hS hS2 hE hv hok hn hy hko hN
  go_enter Tryz.func51, Tryz.ntmps51
  go_upto_region 1 with (fail)
  rw [← HY.out]
  clear HY
  by_cases h12 : E = 12
  · subst h12
    rw [if_pos rfl] at HSR
    go_wp2_with fail
    (with_reducible refine CR.out.mono ?_)
    rintro e w1 ⟨rfl, hB1⟩
    have hz := HZR.out.below hB1
    obtain ⟨Z, hZ, hzb, hzo⟩ := store2 hz zeroS
    have HF : Hid (Below w.heap.size w Z) := Lib.hid (Only.after (Dsk.below_trans' HB.out hB1) hzo (by omega))
    have kf := hz.free
    have k0 := hz.c0
    have k1 := hz.c1
    have q0 := hzb.c0
    have q1 := hzb.c1
    unfold zeroS at hZ k0 k1 q0 q1
    dsimp only at hZ k0 k1 q0 q1
    have HZ := Lib.hid hZ
    clear hB1 hz hZ hzb hzo
    go_wp2_with fail
    rw [HZ.out]
    exact bodyPost_ret (v := .tuple #[.agg #[.int .i64 0, .int .i64 0], .int .i64 12]) (by simp [results, Tryz.results51, go_sem, q0, q1]) rfl ⟨by rw [HSR.out]; rfl, HF.out⟩
  · have he12 : (E == 12) = false := by simpa using h12
    rw [if_neg h12] at HSR
    clear h12
    have z1 : True := trivial
    cases ok with
    | false =>
      rw [if_pos (by simp)] at HSR
      go_wp2_with fail
      (with_reducible refine CR.out.mono ?_)
      rintro e w1 ⟨rfl, hB1⟩
      have HB1 := Lib.hid hB1
      clear hB1 p0 p1 p2 p3
      go_wp2_with fail
      (with_reducible refine (CP.out _).mono ?_)
      rintro e w2 ⟨rfl, hB2⟩
      obtain ⟨Y3, hY3⟩ : ∃ Y3, Y3 = w2.alloc (.cells #[.int .i64 y.pages, .int .i64 y.journal] 30) := ⟨_, rfl⟩
      have hby : Below w2.heap.size w2 Y3 := by rw [hY3]; exact below_one _ _
      have hyb : SBox Y3 w2.heap.size y := by rw [hY3]; exact SBox.new w2 y
      have hb3 := Dsk.below_trans' (Dsk.below_trans' HB1.out hB2) hby
      have HB3 := Lib.hid hb3
      have HYB := Lib.hid hyb
      have HY3 := Lib.hid hY3
      obtain ⟨G, hG⟩ : ∃ G, G = w2.heap.size := ⟨_, rfl⟩
      have HG := Lib.hid hG.symm
      rw [← hG] at HYB
      clear hby hyb hb3 hB2 hY3 hG
      go_upto_region 5 with (fail)
      rw [← HY3.out]
      rw [HG.out]
      clear HY3
      have q := fun dd os => Dsk.below_trans' HB3.out (below_regrown Y3 dd os)
      have p0 := fun dd os => (box4 (box_kept _ HDK.out (q dd os))).1.1
      have t0 := fun dd os => (HYB.out.below (below_regrown Y3 dd os)).c0
      have t1 := fun dd os => (HYB.out.below (below_regrown Y3 dd os)).c1
      have D1 := Lib.hid (rg CZ.out Y3)
      clear q
      refine wp_region_quiet_below (by kernel_rfl) (by kernel_rfl) ?_
      (try simp only [List.append_eq, List.cons_append, List.nil_append])
      repeat (first | go_big_quiet_step (first | (with_reducible exact D1.out _ _)) | quiet_step (first | (with_reducible exact D1.out _ _)))
      refine wpQuiet_nil ?_
      intro _ hw'
      obtain ⟨⟨dq, osq⟩, hw''⟩ := hw'
      subst hw''
      have HB4 := Lib.hid (Dsk.below_trans' HB3.out (below_regrown Y3 dq osq))
      have HYB4 := Lib.hid (HYB.out.below (below_regrown Y3 dq osq))
      generalize grow (redrawn Y3 dq) osq = W1 at *
      clear p0 t0 t1 D1
      have hz := HZR.out.below HB4.out
      obtain ⟨Z, hZ, hzb, hzo⟩ := store2 hz zeroS
      have HF : Hid (Below w.heap.size w Z) := Lib.hid (Only.after (Dsk.below_trans' HB.out HB4.out) hzo (by omega))
      have kf := hz.free
      have k0 := hz.c0
      have k1 := hz.c1
      have q0 := hzb.c0
      have q1 := hzb.c1
      unfold zeroS at hZ k0 k1 q0 q1
      dsimp only at hZ k0 k1 q0 q1
      have HZ := Lib.hid hZ
      clear hz hZ hzb hzo
      go_wp2_with fail
      rw [HZ.out]
      exact bodyPost_ret (v := .tuple #[.agg #[.int .i64 0, .int .i64 0], .int .i64 14]) (by simp [results, Tryz.results51, go_sem, q0, q1]) rfl ⟨by rw [HSR.out]; rfl, HF.out⟩
    | true =>
      by_cases hN : (X2 : Int) = N
      · have hNb : ((X2 : Int) != N) = false := by simpa using hN
        rw [if_neg (by simp [hN])] at HSR
        clear hN
        go_wp2_with fail
        (with_reducible refine CR.out.mono ?_)
        rintro e w1 ⟨rfl, hB1⟩
        have HB1 := Lib.hid hB1
        clear hB1 p0 p1 p2 p3
        go_wp2_with fail
        (with_reducible refine (CP.out _).mono ?_)
        rintro e w2 ⟨rfl, hB2⟩
        obtain ⟨Y3, hY3⟩ : ∃ Y3, Y3 = w2.alloc (.cells #[.int .i64 y.pages, .int .i64 y.journal] 30) := ⟨_, rfl⟩
        have hby : Below w2.heap.size w2 Y3 := by rw [hY3]; exact below_one _ _
        have hyb : SBox Y3 w2.heap.size y := by rw [hY3]; exact SBox.new w2 y
        have hb3 := Dsk.below_trans' (Dsk.below_trans' HB1.out hB2) hby
        have HB3 := Lib.hid hb3
        have HYB := Lib.hid hyb
        have HY3 := Lib.hid hY3
        obtain ⟨G, hG⟩ : ∃ G, G = w2.heap.size := ⟨_, rfl⟩
        have HG := Lib.hid hG.symm
        rw [← hG] at HYB
        clear hby hyb hb3 hB2 hY3 hG
        go_upto_region 5 with (fail)
        rw [← HY3.out]
        rw [HG.out]
        clear HY3
        have q := fun dd os => Dsk.below_trans' HB3.out (below_regrown Y3 dd os)
        have p0 := fun dd os => (box4 (box_kept _ HDK.out (q dd os))).1.1
        have t0 := fun dd os => (HYB.out.below (below_regrown Y3 dd os)).c0
        have t1 := fun dd os => (HYB.out.below (below_regrown Y3 dd os)).c1
        have D1 := Lib.hid (rg CZ.out Y3)
        clear q
        refine wp_region_quiet_below (by kernel_rfl) (by kernel_rfl) ?_
        (try simp only [List.append_eq, List.cons_append, List.nil_append])
        repeat (first | go_big_quiet_step (first | (with_reducible exact D1.out _ _)) | quiet_step (first | (with_reducible exact D1.out _ _)))
        refine wpQuiet_nil ?_
        intro _ hw'
        obtain ⟨⟨dq, osq⟩, hw''⟩ := hw'
        subst hw''
        have HB4 := Lib.hid (Dsk.below_trans' HB3.out (below_regrown Y3 dq osq))
        have HYB4 := Lib.hid (HYB.out.below (below_regrown Y3 dq osq))
        generalize grow (redrawn Y3 dq) osq = W1 at *
        clear p0 t0 t1 D1
        have hz := HZR.out.below HB4.out
        obtain ⟨Z, hZ, hzb, hzo⟩ := store2 hz y
        have HF : Hid (Below w.heap.size w Z) := Lib.hid (Only.after (Dsk.below_trans' HB.out HB4.out) hzo (by omega))
        have kf := hz.free
        have k0 := hz.c0
        have k1 := hz.c1
        have q0 := hzb.c0
        have q1 := hzb.c1
        have u0 := HYB4.out.c0
        have u1 := HYB4.out.c1
        unfold zeroS at k0 k1
        dsimp only at k0 k1
        have HZ := Lib.hid hZ
        clear hz hZ hzb hzo
        go_wp2_with fail
        rw [HZ.out]
        exact bodyPost_ret (v := .tuple #[.agg #[.int .i64 y.pages, .int .i64 y.journal], .int .i64 0]) (by simp [results, Tryz.results51, go_sem, q0, q1]) rfl ⟨by rw [HSR.out], HF.out⟩
      · have hNb : ((X2 : Int) != N) = true := by simpa using hN
        rw [if_pos (by simp [hN])] at HSR
        clear hN
        go_wp2_with fail
        (with_reducible refine CR.out.mono ?_)
        rintro e w1 ⟨rfl, hB1⟩
        have HB1 := Lib.hid hB1
        clear hB1 p0 p1 p2 p3
        go_wp2_with fail
        (with_reducible refine (CP.out _).mono ?_)
        rintro e w2 ⟨rfl, hB2⟩
        obtain ⟨Y3, hY3⟩ : ∃ Y3, Y3 = w2.alloc (.cells #[.int .i64 y.pages, .int .i64 y.journal] 30) := ⟨_, rfl⟩
        have hby : Below w2.heap.size w2 Y3 := by rw [hY3]; exact below_one _ _
        have hyb : SBox Y3 w2.heap.size y := by rw [hY3]; exact SBox.new w2 y
        have hb3 := Dsk.below_trans' (Dsk.below_trans' HB1.out hB2) hby
        have HB3 := Lib.hid hb3
        have HYB := Lib.hid hyb
        have HY3 := Lib.hid hY3
        obtain ⟨G, hG⟩ : ∃ G, G = w2.heap.size := ⟨_, rfl⟩
        have HG := Lib.hid hG.symm
        rw [← hG] at HYB
        clear hby hyb hb3 hB2 hY3 hG
        go_upto_region 5 with (fail)
        rw [← HY3.out]
        rw [HG.out]
        clear HY3
        have q := fun dd os => Dsk.below_trans' HB3.out (below_regrown Y3 dd os)
        have p0 := fun dd os => (box4 (box_kept _ HDK.out (q dd os))).1.1
        have t0 := fun dd os => (HYB.out.below (below_regrown Y3 dd os)).c0
        have t1 := fun dd os => (HYB.out.below (below_regrown Y3 dd os)).c1
        have D1 := Lib.hid (rg CZ.out Y3)
        clear q
        refine wp_region_quiet_below (by kernel_rfl) (by kernel_rfl) ?_
        (try simp only [List.append_eq, List.cons_append, List.nil_append])
        repeat (first | go_big_quiet_step (first | (with_reducible exact D1.out _ _)) | quiet_step (first | (with_reducible exact D1.out _ _)))
        refine wpQuiet_nil ?_
        intro _ hw'
        obtain ⟨⟨dq, osq⟩, hw''⟩ := hw'
        subst hw''
        have HB4 := Lib.hid (Dsk.below_trans' HB3.out (below_regrown Y3 dq osq))
        have HYB4 := Lib.hid (HYB.out.below (below_regrown Y3 dq osq))
        generalize grow (redrawn Y3 dq) osq = W1 at *
        clear p0 t0 t1 D1
        have hz := HZR.out.below HB4.out
        obtain ⟨Z, hZ, hzb, hzo⟩ := store2 hz zeroS
        have HF : Hid (Below w.heap.size w Z) := Lib.hid (Only.after (Dsk.below_trans' HB.out HB4.out) hzo (by omega))
        have kf := hz.free
        have k0 := hz.c0
        have k1 := hz.c1
        have q0 := hzb.c0
        have q1 := hzb.c1
        unfold zeroS at hZ k0 k1 q0 q1
        dsimp only at hZ k0 k1 q0 q1
        have HZ := Lib.hid hZ
        clear hz hZ hzb hzo
        go_wp2_with fail
        rw [HZ.out]
        exact bodyPost_ret (v := .tuple #[.agg #[.int .i64 0, .int .i64 0], .int .i64 14]) (by simp [results, Tryz.results51, go_sem, q0, q1]) rfl ⟨by rw [HSR.out]; rfl, HF.out⟩

end Go.Proofs.YtnbbijpmkhdgpaaGreat.Vlt

/- PJour -/
namespace Go.Proofs.YtnbbijpmkhdgpaaGreat.Vlt
open Go.RowKit Go.Sort
open Dsk
open Ent (isE parseE)

def logF (d : DK) (i : Nat) : Nat → Ent.En := fun j => if j < i then parseE (secK d j) else Ent.zeroE

/-- What lies between the rounds of journal. -/
structure JB (w W : World) (vs vw : Value) (d : DK) (J i : Nat) : Prop where
  dk : W.heap[w.heap.size]? = some (.cells #[vs, vw, .bool d.dead, .int .i64 d.left] 28 (0, 0))
  isd : IsDisk W (.agg #[vs, vw, .bool d.dead, .int .i64 d.left]) d
  row : EnRow W (w.heap.size + 2) J (logF d i)
  below : Below w.heap.size w W
theorem JB.more {w W W' : World} {vs vw : Value} {d : DK} {J i : Nat} (h : JB w W vs vw d J i) (k : Below W.heap.size W W') : JB w W' vs vw d J i :=
  ⟨box_kept _ h.dk k, h.isd.below k, h.row.below k, Dsk.below_trans' h.below k⟩
theorem JB.put {w W : World} {vs vw : Value} {d : DK} {J i : Nat} (h : JB w W vs vw d J i) (hi : i < J) {x : Ent.En} (hx : x = parseE (secK d i)) :
    ∃ X, ((((W.setCell ⟨w.heap.size + 2, i * 5, none⟩ (.int .i64 x.seq)).setCell ⟨w.heap.size + 2, i * 5 + 1, none⟩ (.int .i64 x.index)).setCell ⟨w.heap.size + 2, i * 5 + 2, none⟩ (.bool x.last)).setCell ⟨w.heap.size + 2, i * 5 + 3, none⟩ (.int .i64 x.no)).setCell ⟨w.heap.size + 2, i * 5 + 4, none⟩ (.string (strB x.data)) = X ∧ JB w X vs vw d J (i + 1) := by
  obtain ⟨X, hX, hr, hk, hB⟩ := h.row.put hi x
  obtain ⟨cur, hc, _⟩ := h.row.row
  refine ⟨X, hX, (hk _ (by omega)).trans h.dk, h.isd.other hc (by decide) (by decide) hk, ?_, hB _ _ h.below (by omega)⟩
  have e : (fun j => if j = i then x else logF d i j) = logF d (i + 1) := by
    funext j
    unfold logF
    by_cases e : j = i
    · rw [if_pos e, if_pos (by omega), hx, e]
    · rw [if_neg e]
      by_cases e2 : j < i
      · rw [if_pos e2, if_pos (by omega)]
      · rw [if_neg e2, if_neg (by omega)]
  rw [← e]
  exact hr

theorem make_ens (n : Nat) (hn : n ≤ 100000) (W : World) : ∃ Z : Array Value, (Instr.makeSlice 89 (.int .i64 (n : Nat)) (.int .i64 (n : Nat))).run Tryz.prog W = .ok (.slice (some ⟨W.heap.size, 0, none⟩) n n) (W.alloc (.cells Z 55)) ∧ EnRow (W.alloc (.cells Z 55)) W.heap.size n (fun _ => Ent.zeroE) := by
  obtain ⟨i0, hi, hz0, hz1, hz2⟩ := info_parts info55
  refine ⟨madeCells (Value.cells (.agg #[.int .i64 0, .int .i64 0, .bool false, .int .i64 0, .string ⟨#[]⟩])) (n * 5), ?_, ⟨_, heap_alloc_new W _, size_madeCells _ _, fun i hi => ?_⟩⟩
  · have := run_make (P := Tryz.prog) W 89 55 i0 _ Tryz.underlying89 hi hz0 .i64 .i64 (n : Int) (n : Int) (by omega) (by omega) (by rw [hz2]; omega) (by omega)
    rw [this, hz1]
    rfl
  · have h : ∀ r, r < 5 → (madeCells (Value.cells (.agg #[.int .i64 0, .int .i64 0, .bool false, .int .i64 0, .string ⟨#[]⟩])) (n * 5))[i * 5 + r]? = some ((Value.cells (.agg #[.int .i64 0, .int .i64 0, .bool false, .int .i64 0, .string ⟨#[]⟩]))[r]!) := by
      intro r hr
      have e : (i * 5 + r) % (Value.cells (.agg #[.int .i64 0, .int .i64 0, .bool false, .int .i64 0, .string ⟨#[]⟩])).size = r := by
        rw [show (Value.cells (.agg #[.int .i64 0, .int .i64 0, .bool false, .int .i64 0, .string ⟨#[]⟩])).size = 5 from rfl]
        omega
      have hl : i * 5 + r < n * 5 := by omega
      simp only [madeCells, Array.getElem?_map, Array.getElem?_range, hl, if_true, Option.map_some, e]
    exact ⟨h 0 (by omega), h 1 (by omega), h 2 (by omega), h 3 (by omega), h 4 (by omega)⟩

set_option maxRecDepth 100000 in
set_option maxHeartbeats 8000000 in
theorem journal_calls (v : Value) (d : DK) (x : Sh) (w : World) (hv : IsDisk w v d) (hok : d.ok) {J : Nat} (hJ : x.journal = (J : Nat)) (hJ2 : J ≤ 256) :
    Calls Tryz.prog 52 #[v, shV x] w fun e w' => ∃ g, e = .returned (.slice (some ⟨g, 0, none⟩) J J) ∧ EnRow w' g J (logF d J) ∧ w.heap.size ≤ g ∧ Below w.heap.size w w' := by
  obtain ⟨X1, X2, X3, X4, X5, X6, rfl⟩ := hv.parts
  obtain ⟨Y0, hY0⟩ : ∃ Y0, Y0 = (w.alloc (.cells #[.slice X1 X2 X3, .slice X4 X5 X6, .bool d.dead, .int .i64 d.left] 28)).alloc (.cells #[.int .i64 x.pages, .int .i64 (J : Nat)] 30) := ⟨_, rfl⟩
  have hs0 : Y0.heap.size = w.heap.size + 2 := by rw [hY0]; simp
  have hb0 : Below w.heap.size w Y0 := by rw [hY0]; exact Dsk.below_trans' (below_one _ _) (below_one _ _)
  have hdk : Y0.heap[w.heap.size]? = some (.cells #[.slice X1 X2 X3, .slice X4 X5 X6, .bool d.dead, .int .i64 d.left] 28 (0, 0)) := by rw [hY0]; exact box_kept _ (heap_alloc_new w _) (below_one _ _)
  have hsh : Y0.cell? ⟨w.heap.size + 1, 1, none⟩ = some (.int .i64 (J : Nat)) := by
    have h := heap_alloc_new (w.alloc (.cells #[.slice X1 X2 X3, .slice X4 X5 X6, .bool d.dead, .int .i64 d.left] 28)) (.cells #[.int .i64 x.pages, .int .i64 (J : Nat)] 30)
    rw [← hY0, show (w.alloc (.cells #[.slice X1 X2 X3, .slice X4 X5 X6, .bool d.dead, .int .i64 d.left] 28)).heap.size = w.heap.size + 1 by simp] at h
    rw [cell_of_row _ _ _ _ _ _ h]
    rfl
  obtain ⟨Z, hmk, hrow⟩ := make_ens J (by omega) Y0
  obtain ⟨Y, hY⟩ : ∃ Y, Y = Y0.alloc (.cells Z 55) := ⟨_, rfl⟩
  rw [← hY] at hmk hrow
  rw [hs0] at hmk hrow
  have hjb : JB w Y (.slice X1 X2 X3) (.slice X4 X5 X6) d J 0 := by
    have hB : Below Y0.heap.size Y0 Y := by rw [hY]; exact below_one _ _
    refine ⟨box_kept _ hdk hB, hv.below (Dsk.below_trans' hb0 hB), ?_, Dsk.below_trans' hb0 hB⟩
    have e : logF d 0 = fun _ => Ent.zeroE := by funext j; unfold logF; rw [if_neg (by omega)]
    rw [e]
    exact hrow
  have HY0 := Lib.hid hY0
  have HJB := Lib.hid hjb
  have HOK := Lib.hid hok
  clear hY hY0 hs0 hb0 hdk hrow hjb hv hok
  unfold shV
  rw [hJ]
  clear hJ
  go_enter Tryz.func52, Tryz.ntmps52
  go_upto_region 1 with (fail)
  rw [← HY0.out]
  clear HY0
  go_wp2_with fail
  clear hmk hsh
  go_loopw [14] (fun u wr => ∃ i : Nat, i ≤ J ∧ u = .int .i64 i ∧ JB w wr (.slice X1 X2 X3) (.slice X4 X5 X6) d J i) (fun u _ => J - (intOf u).toNat)
  case atStart => exact ⟨0, Nat.zero_le _, rfl, HJB.out⟩
  case round =>
    obtain ⟨i, hi, rfl, hb⟩ := hrel
    have HT := Lib.hid hb
    clear hb
    by_cases hlt : i < J
    · have hi1 : (0 : Int) ≤ (i : Int) := by omega
      have hi2 : (i : Int) < (J : Int) := by omega
      obtain ⟨L, hL⟩ : ∃ L, L = logN (i : Int) := ⟨_, rfl⟩
      have hL2 : L = 1 + (i : Int) := by rw [hL]; unfold logN wrap64; omega
      have q1 := fun dd os => HT.out.more (below_regrown wr dd os)
      have i0 := fun dd os => (box4 (q1 dd os).dk).1.1
      have i1 := fun dd os => (box4 (q1 dd os).dk).1.2.1
      have i2 := fun dd os => (box4 (q1 dd os).dk).1.2.2.1
      have i3 := fun dd os => (box4 (q1 dd os).dk).1.2.2.2
      have D1 := rg0 (log_calls (i : Int)) wr
      rw [← hL] at D1
      have D2 := fun dd os => Calls.regrown_of (Dsk.read_calls _ d L (grow (redrawn wr dd) os) (q1 dd os).isd HOK.out)
      obtain ⟨S, hS⟩ : ∃ S, S = secK d i := ⟨_, rfl⟩
      have hS2 : rdS d L = strB S := by rw [hS, hL2]; unfold secK; rw [strB_of]
      rw [hS2] at D2
      obtain ⟨RE, hRE⟩ : ∃ r, r = rdE d L := ⟨_, rfl⟩
      rw [← hRE] at D2
      have D1 := Lib.hid D1
      have D2 := Lib.hid D2
      have HSS := Lib.hid hS
      clear q1 hS2 hRE hS hL2 hL
      go_wp2_with fail
      refine wp_region_quiet_below (by kernel_rfl) (by kernel_rfl) ?_
      (try simp only [List.append_eq, List.cons_append, List.nil_append])
      repeat (first | go_big_quiet_step (first | (with_reducible exact D1.out _ _) | (with_reducible exact D2.out _ _)))
      refine wpQuiet_nil ?_
      intro _ hw'
      obtain ⟨⟨dq, osq⟩, hw''⟩ := hw'
      subst hw''
      have HT2 := Lib.hid (HT.out.more (below_regrown wr dq osq))
      generalize grow (redrawn wr dq) osq = W1 at *
      clear i0 i1 i2 i3 D1 D2 HT
      go_wp2_with fail
      (with_reducible refine (Ent.parse_calls S _).mono ?_)
      rintro e w3 ⟨rfl, hB3⟩
      have HT3 := Lib.hid (HT2.out.more hB3)
      have hxk : parseE S = parseE (secK d i) := by rw [HSS.out]
      obtain ⟨y, hy⟩ : ∃ y, y = parseE S := ⟨_, rfl⟩
      obtain ⟨ok, hoke⟩ : ∃ b, b = isE S := ⟨_, rfl⟩
      rw [← hy, ← hoke]
      obtain ⟨X, hX, hjb⟩ := HT3.out.put hlt (x := y) (by rw [hy, hxk])
      have HX := Lib.hid hX
      have HJ := Lib.hid hjb
      have kf := HT3.out.row.free
      obtain ⟨k0, k1, k2, k3, k4⟩ := HT3.out.row.at_ hlt
      unfold Ent.enV
      clear hB3 hxk hy hoke hX hjb HT2
      go_wp2_with fail
      rw [HX.out]
      exact ⟨⟨i + 1, by omega, by go_num, HJ.out⟩, by simp [intOf]; omega⟩
    · have hnl : decide ((i : Int) < (J : Int)) = false := by simp; omega
      obtain rfl : i = J := by omega
      go_wp2_with fail
      go_ret
      exact ⟨_, rfl, HT.out.row, by omega, HT.out.below⟩

end Go.Proofs.YtnbbijpmkhdgpaaGreat.Vlt

/- PWhole -/
namespace Go.Proofs.YtnbbijpmkhdgpaaGreat.Vlt
open Go.RowKit Go.Sort
open Dsk
open Ent (isE parseE)

theorem most_step (S : Nat → List UInt8) (k : Nat) : max (mostF S k) (parseE (S k)).seq = mostF S (k + 1) := by
  rw [most_next]
  cases h : isE (S k) with
  | true => rw [if_pos rfl]
  | false =>
    rw [if_neg (by simp)]
    have e : parseE (S k) = Ent.zeroE := by unfold parseE; rw [h, if_neg (by simp)]
    rw [e]
    have := most_nn S k
    unfold Ent.zeroE
    dsimp only
    omega

set_option maxRecDepth 100000 in
set_option maxHeartbeats 4000000 in
theorem greatest_calls (g J : Nat) (d : DK) (w : World) (hr : EnRow w g J (logF d J)) (hJ : J ≤ 256) :
    Calls Tryz.prog 53 #[.slice (some ⟨g, 0, none⟩) J J] w fun e w' => e = .returned (.int .i64 (mostF (secK d) J)) ∧ Below w.heap.size w w' := by
  have HR := Lib.hid hr
  clear hr
  go_enter Tryz.func53, Tryz.ntmps53
  go_wp2_with fail
  go_loopw [3, 8] (fun s3 s8 wr => ∃ i : Nat, i ≤ J ∧ s8 = .int .i64 i ∧ s3 = .int .i64 (mostF (secK d) i) ∧ Below w.heap.size w wr) (fun _ u _ => J - (intOf u).toNat)
  case atStart => exact ⟨0, Nat.zero_le _, rfl, rfl, Below.refl _ _⟩
  case round =>
    obtain ⟨i, hi, rfl, rfl, hb⟩ := hrel
    have HB := Lib.hid hb
    clear hb
    obtain ⟨m, hm⟩ : ∃ m, m = mostF (secK d) i := ⟨_, rfl⟩
    by_cases hlt : i < J
    · have hi1 : (0 : Int) ≤ (i : Int) := by omega
      have hi2 : (i : Int) < (J : Int) := by omega
      obtain ⟨x0, x1, x2, x3, x4⟩ := (HR.out.below HB.out).at_ hlt
      have hf : logF d J i = parseE (secK d i) := by unfold logF; rw [if_pos hlt]
      rw [hf] at x0 x1 x2 x3 x4
      have hs := most_step (secK d) i
      obtain ⟨y, hy⟩ : ∃ y, y = parseE (secK d i) := ⟨_, rfl⟩
      rw [← hy] at x0 x1 x2 x3 x4 hs
      rw [← hm] at hs ⊢
      obtain ⟨ys, yi, yl, yn, yd⟩ := y
      dsimp only at x0 x1 x2 x3 x4 hs
      have HS := Lib.hid hs
      clear hm hf hy hs
      go_wp2_with fail
      exact ⟨⟨i + 1, by omega, by go_num, by rw [← HS.out], Dsk.below_trans' HB.out (below_one _ _)⟩, by simp [intOf]; omega⟩
    · have hnl : decide ((i : Int) < (J : Int)) = false := by simp; omega
      obtain rfl : i = J := by omega
      go_wp2_with fail
      go_ret
      exact ⟨rfl, HB.out⟩

theorem below_dn (W : World) (q : Nat) : Below W.heap.size W (W.drewN q) := ⟨rfl, rfl, rfl, Nat.le_refl _, fun _ _ => rfl⟩
theorem Jst.start' (n : Int) (S : Nat → List UInt8) : Jst n S 0 [] (parseE (S 0)).seq 0 false true := { Jst.start n S with iseq := fun _ => rfl }

set_option maxRecDepth 100000 in
set_option maxHeartbeats 16000000 in
theorem whole_calls (g J : Nat) (d : DK) (x : Sh) (w : World) (hr : EnRow w g J (logF d J)) (hJ : J ≤ 256) :
    Calls Tryz.prog 54 #[.slice (some ⟨g, 0, none⟩) J J, shV x] w fun e w' => ∃ v', e = .returned v' ∧ IsLfs w' v' (jl x.pages J (secK d)) ∧ Below w.heap.size w w' := by
  obtain ⟨i1', hi0, hz0, hz1, hz2⟩ := info_parts info48
  have HR := Lib.hid hr
  obtain ⟨S, hS⟩ : ∃ S, S = secK d := ⟨_, rfl⟩
  rw [← hS]
  obtain ⟨Y, hY, hsb, hB⟩ : ∃ Y, Y = w.alloc (.cells #[.int .i64 x.pages, .int .i64 x.journal] 30) ∧ SBox Y w.heap.size x ∧ Below w.heap.size w Y := ⟨_, rfl, SBox.new _ _, below_one _ _⟩
  obtain ⟨B, hBB⟩ : ∃ B, B = w.heap.size + 1 := ⟨_, rfl⟩
  have hys : Y.heap.size = B := by rw [hY, hBB]; simp
  have HY := Lib.hid hY
  have HSB := Lib.hid hsb
  have HBY := Lib.hid hB
  have HYS := Lib.hid hys
  have HS := Lib.hid hS
  have HHAS := Lib.hid (fun no W => has_calls x no W)
  unfold shV at HHAS
  obtain ⟨s0, hs0⟩ : ∃ s, s = (parseE (S 0)).seq := ⟨_, rfl⟩
  have HS0 := Lib.hid hs0
  clear hr hY hsb hB hys hS hs0 hBB
  unfold shV
  go_enter Tryz.func54, Tryz.ntmps54
  go_wp2_with fail
  rw [← HY.out]
  clear HY
  go_loopw [5, 11] (fun s5 s11 wr => ∃ (i : Nat) (l : List Lf) (m : Int) (Z : Option Addr) (z : Nat), i ≤ J ∧ s11 = .int .i64 i ∧ s5 = .slice Z l.length z ∧ Jst x.pages S i l s0 m false true ∧ OwnL B wr (.slice Z l.length z) l ∧ Below Y.heap.size Y wr) (fun _ u _ => J - (intOf u).toNat)
  case atStart => exact ⟨0, [], 0, none, 0, Nat.zero_le _, rfl, rfl, by rw [HS0.out]; exact Jst.start' _ _, OwnL.nil _ _, Below.refl _ _⟩
  case round =>
    obtain ⟨i, l, m, Z, z, hi, rfl, rfl, hj, how, hb⟩ := hrel
    have HJ := Lib.hid hj
    have HOW := Lib.hid how
    have HB := Lib.hid hb
    clear hj how hb
    by_cases hlt : i < J
    rotate_left
    · have hnl : decide ((i : Int) < (J : Int)) = false := by simp; omega
      obtain rfl : i = J := by omega
      have hfin := HJ.out.done.2
      rw [if_neg (by simp)] at hfin
      have HF := Lib.hid hfin
      clear hfin
      go_wp2_with fail
      go_ret
      exact ⟨_, rfl, by rw [← HF.out]; exact IsLfs.nil _, Dsk.below_trans' HBY.out HB.out⟩
    have hi1 : (0 : Int) ≤ (i : Int) := by omega
    have hi2 : (i : Int) < (J : Int) := by omega
    have hll : l.length ≤ 256 := by have := (HJ.out.iop rfl).2.1; omega
    have hBw : B ≤ wr.heap.size := by rw [← HYS.out]; exact HB.out.size
    have hrow := HR.out.below (Dsk.below_trans' HBY.out HB.out)
    obtain ⟨x0, x1, x2, x3, x4⟩ := hrow.at_ hlt
    have hf : logF d J i = parseE (S i) := by unfold logF; rw [if_pos hlt, ← HS.out]
    have hf0 : logF d J 0 = parseE (S 0) := by unfold logF; rw [if_pos (by omega), ← HS.out]
    have c0 : ∀ W, Below wr.heap.size wr W → W.cell? ⟨g, 0, none⟩ = some (.int .i64 s0) := fun W hW => by
      have := ((hrow.below hW).at_ (i := 0) (by omega)).1
      rw [hf0, ← HS0.out, show 0 * 5 = 0 from rfl] at this
      exact this
    rw [hf] at x0 x1 x2 x3 x4
    obtain ⟨y, hy⟩ : ∃ y, y = parseE (S i) := ⟨_, rfl⟩
    obtain ⟨ok, hok⟩ : ∃ b, b = isE (S i) := ⟨_, rfl⟩
    have JS := HJ.out.step hy.symm hok.symm (q := s0) (by
      by_cases e : i = 0
      · rw [if_pos e, HS0.out, hy, e]
      · rw [if_neg e])
    have hrt : ok = true → 1 ≤ y.seq ∧ 0 ≤ y.no := fun e => by
      have := Ent.right_iff.1 (is_right (s := S i) (by rw [← hok, e]))
      rw [← hy] at this
      omega
    have hzz : ok = false → y.seq = 0 := fun e => by rw [hy]; unfold parseE; rw [← hok, e, if_neg (by simp)]; rfl
    have hnone : ∀ l' m', Jst x.pages S (i + 1) l' s0 m' false false → jl x.pages J S = [] := fun l' m' h => jl_none fun k => h.ino rfl rfl J k
    have hyes : ∀ m', Jst x.pages S (i + 1) l s0 m' true false → jl x.pages J S = l := fun m' h => jl_is ((h.iyes rfl).2 J (by omega))
    rw [← hy] at x0 x1 x2 x3 x4
    obtain ⟨Y2, hY2⟩ : ∃ Y2, Y2 = wr.alloc (.cells #[.int .i64 y.seq, .int .i64 y.index, .bool y.last, .int .i64 y.no, .string (strB y.data)] 55) := ⟨_, rfl⟩
    have hbb : Below wr.heap.size wr Y2 := by rw [hY2]; exact below_one _ _
    have heb : Ent.EBox Y2 wr.heap.size y := by rw [hY2]; exact Ent.EBox.new wr y
    have hc0 := c0 Y2 hbb
    obtain ⟨y0, y1, y2, y3, y4⟩ := heb.at_
    have HEB := Lib.hid heb
    have HOW2 := Lib.hid (HOW.out.below hbb)
    have HB2 := Lib.hid (Dsk.below_trans' HB.out hbb)
    have hsz : Y2.heap.size = wr.heap.size + 1 := by rw [hY2]; simp
    have hBw2 : B ≤ Y2.heap.size := by omega
    have sb := HSB.out.below HB2.out
    have t0 := sb.c0
    have t1 := sb.c1
    have HY2 := Lib.hid hY2
    obtain ⟨G, hG⟩ : ∃ G, G = wr.heap.size := ⟨_, rfl⟩
    rw [← hG] at y0 y1 y2 y3 y4
    have HG := Lib.hid hG.symm
    have HN := Lib.hid hnone
    have HYE := Lib.hid hyes
    have HFB := Lib.hid (Dsk.below_trans' HBY.out HB2.out)
    obtain ⟨ys, yi, yl, yn, yd⟩ := y
    dsimp only at x0 x1 x2 x3 x4 JS hrt hzz y0 y1 y2 y3 y4
    dsimp only at HY2
    clear hrow hf hf0 c0 hy hok hbb heb hsz sb hY2 hG hnone hyes HOW HB
    cases ok with
    | false =>
      have hys := hzz rfl
      subst hys
      have HF := Lib.hid (HN.out _ _ (JS.2.2 (fun h => by cases h.1) (fun h => by cases h.1)))
      clear JS hrt hzz
      go_upto_region 5 with (fail)
      rw [← HY2.out]
      rw [HG.out]
      clear x0 x1 x2 x3 x4 HY2
      go_wp2_with fail
      go_quiet (fail)
      go_wp2_with fail
      go_ret
      exact ⟨_, rfl, by rw [HF.out]; exact IsLfs.nil _, Dsk.below_trans' HFB.out (below_dn _ _)⟩
    | true =>
      obtain ⟨hge, hno0⟩ := hrt rfl
      have hnn : ¬ ys < 1 := by omega
      clear hrt hzz
      by_cases hsq : ys = s0
      rotate_left
      · have hsb : (ys != s0) = true := by simpa using hsq
        have HF := Lib.hid (HN.out _ _ (JS.2.2 (fun h => hsq h.2.1) (fun h => hsq h.2.1)))
        clear JS
        go_upto_region 5 with (fail)
        rw [← HY2.out]
        rw [HG.out]
        clear x0 x1 x2 x3 x4 HY2
        go_wp2_with fail
        go_quiet (fail)
        go_wp2_with fail
        go_ret
        exact ⟨_, rfl, by rw [HF.out]; exact IsLfs.nil _, Dsk.below_trans' HFB.out (below_dn _ _)⟩
      have hsb : (ys != s0) = false := by simpa using hsq
      by_cases hix : yi = (i : Int)
      rotate_left
      · have hib : (yi != (i : Int)) = true := by simpa using hix
        have HF := Lib.hid (HN.out _ _ (JS.2.2 (fun h => hix h.2.2.1) (fun h => hix h.2.2.1)))
        clear JS hsq
        go_upto_region 5 with (fail)
        rw [← HY2.out]
        rw [HG.out]
        clear x0 x1 x2 x3 x4 HY2
        go_wp2_with fail
        go_quiet (fail)
        go_wp2_with fail
        go_ret
        exact ⟨_, rfl, by rw [HF.out]; exact IsLfs.nil _, Dsk.below_trans' HFB.out (below_dn _ _)⟩
      have hib : (yi != (i : Int)) = false := by simpa using hix
      have HLEN := Lib.hid (HJ.out.iop rfl).2.1
      cases yl with
      | true =>
        by_cases hno : yn = (i : Int)
        · have hnb : (yn == (i : Int)) = true := by simpa using hno
          have HF := Lib.hid (HYE.out _ (JS.2.1 ⟨rfl, hsq, hix, rfl, by rw [hno, HLEN.out]⟩))
          clear JS hsq hix hno
          go_upto_region 5 with (fail)
          rw [← HY2.out]
          rw [HG.out]
          clear x0 x1 x2 x3 x4 HY2
          go_wp2_with fail
          go_quiet (fail)
          go_wp2_with fail
          go_ret
          exact ⟨_, rfl, by rw [HF.out]; exact HOW2.out.isLfs.below (below_dn _ _), Dsk.below_trans' HFB.out (below_dn _ _)⟩
        · have hnb : (yn == (i : Int)) = false := by simpa using hno
          have HF := Lib.hid (HN.out _ _ (JS.2.2 (fun h => by cases h.2.2.2.1) (fun h => hno (by rw [h.2.2.2.2, HLEN.out]))))
          clear JS hsq hix hno
          go_upto_region 5 with (fail)
          rw [← HY2.out]
          rw [HG.out]
          clear x0 x1 x2 x3 x4 HY2
          go_wp2_with fail
          go_quiet (fail)
          go_wp2_with fail
          go_ret
          exact ⟨_, rfl, by rw [HF.out]; exact IsLfs.nil _, Dsk.below_trans' HFB.out (below_dn _ _)⟩
      | false =>
        by_cases hpg : yn < x.pages
        rotate_left
        · have hhb : (decide (0 ≤ yn) && decide (yn < x.pages)) = false := by simp [hpg]
          have HF := Lib.hid (HN.out _ _ (JS.2.2 (fun h => hpg h.2.2.2.2) (fun h => by cases h.2.2.2.1)))
          have HH := Lib.hid (HHAS.out yn)
          rw [hhb] at HH
          clear JS hsq hix hpg hhb
          go_upto_region 5 with (fail)
          rw [← HY2.out]
          rw [HG.out]
          clear x0 x1 x2 x3 x4 HY2
          go_wp2_with fail
          go_quiet (fail)
          go_wp2_with fail
          (with_reducible refine (HH.out _).mono ?_)
          rintro e w1 ⟨rfl, hB1⟩
          go_wp2_with fail
          go_ret
          exact ⟨_, rfl, by rw [HF.out]; exact IsLfs.nil _, Dsk.below_trans' (Dsk.below_trans' HFB.out (below_dn _ _)) hB1⟩
        · have hhb : (decide (0 ≤ yn) && decide (yn < x.pages)) = true := by simp [hpg, hno0]
          have HNX := Lib.hid (JS.1 ⟨rfl, hsq, hix, rfl, hpg⟩)
          have HH := Lib.hid (HHAS.out yn)
          rw [hhb] at HH
          clear JS hsq hix hpg hhb
          go_upto_region 5 with (fail)
          rw [← HY2.out]
          rw [HG.out]
          clear x0 x1 x2 x3 x4 HY2
          go_wp2_with fail
          go_quiet (fail)
          go_wp2_with fail
          (with_reducible refine (HH.out _).mono ?_)
          rintro e w1 ⟨rfl, hB1⟩
          have hbd := Dsk.below_trans' (below_dn Y2 _) hB1
          have HB3 := Lib.hid (Dsk.below_trans' HB2.out hbd)
          have HO3 := Lib.hid (HOW2.out.below hbd)
          have z3 := (HEB.out.below hbd).at_.c3
          have z4 := (HEB.out.below hbd).at_.c4
          rw [HG.out] at z3 z4
          have hB3w : B ≤ w1.heap.size := Nat.le_trans hBw2 hbd.size
          dsimp only at z3 z4
          clear hbd hB1
          go_wp2_with (at_builtin; refine wpList_append_own_at _ (by rfl) (.tmp 53) (.tmp 59) 31 (by rfl) B 52 i1' _ 2 24 Tryz.underlying31 hi0 hz0 hz1 hz2 (by rfl) (by omega) _ l.length (lfCells l) (by rfl) (by exact World.ownsRow.alloc HO3.out _) ⟨w1.heap.size, 0, none⟩ 1 1 [.int .i64 yn, .string (strB yd)] (by rfl) (by rfl) (by exact newsL ⟨yn, yd⟩ (by simp)) (oneL ⟨yn, yd⟩) (Nat.le_trans (show l.length + 1 ≤ 1000000 by omega) (by decide)) (by omega) (by simp; omega) ?_; intro v' w' hown' hgrow' hnil' hat')
          obtain ⟨A', c', hA⟩ := (ownL_snoc (l := l) (x := ⟨yn, yd⟩) hown').form
          have HO5 : Hid (OwnL B w' v' (l ++ [⟨yn, yd⟩])) := Lib.hid (ownL_snoc (l := l) (x := ⟨yn, yd⟩) hown')
          have HB5 : Hid (Below Y.heap.size Y w') := Lib.hid (below_grown (Dsk.below_trans' HB3.out (below_one _ _)) hgrow' (fun q hq => by have := HO3.out.ge q hq; rw [HYS.out]; exact this) (by have := HB3.out.size; simp; omega))
          clear hown' hgrow' hnil' hat'
          subst hA
          go_wp2_with fail
          exact ⟨⟨i + 1, l ++ [⟨yn, yd⟩], _, A', c', by omega, by go_num, by simp, HNX.out, HO5.out, HB5.out⟩, by simp [intOf]; omega⟩

end Go.Proofs.YtnbbijpmkhdgpaaGreat.Vlt
