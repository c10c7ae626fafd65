/- Contracts and plain mathematics that the statement's proof wants: no statement is proved here, nothing is assumed. -/
import Derived.BigRegion
import Derived.Deep.RegionHeld3
import Derived.Test.YtnbbijpmkhdgpaaGreatMg26
import Derived.Test.YtnbbijpmkhdgpaaGreatMg28
/- POpen -/
namespace Go.Proofs.YtnbbijpmkhdgpaaGreat.Vlt
open Go.RowKit Go.Sort
open Dsk
open Ent (isE parseE)

theorem most_hi (S : Nat → List UInt8) : ∀ k, mostF S k ≤ 2147483647
  | 0 => by simp [mostF]
  | k + 1 => by
    rw [most_next]
    have h := most_hi S k
    split
    · rename_i hs
      have := (Ent.right_iff.1 (is_right hs)).2.1
      omega
    · exact h

/-- The boxes of Open: the disk's, the answer's two. -/
structure OB (w W : World) (vs vw : Value) (d : DK) : Prop where
  dk : W.heap[w.heap.size]? = some (.cells #[vs, vw, .bool d.dead, .int .i64 d.left] 28 (0, 0))
  isd : IsDisk W (.agg #[vs, vw, .bool d.dead, .int .i64 d.left]) d
  zv : W.heap[w.heap.size + 1]? = some (.cells #[.slice none 0 0, .slice none 0 0, .bool false, .int .i64 0, .int .i64 0, .int .i64 0, .int .i64 0, .slice none 0 0] 33 (0, 0))
  zd : W.heap[w.heap.size + 1 + 1]? = some (.cells #[.slice none 0 0, .slice none 0 0, .bool false, .int .i64 0] 28 (0, 0))
  below : Below w.heap.size w W
section
variable {w W W' : World} {vs vw us uw : Value} {d e : DK}
theorem OB.more (h : OB w W vs vw d) (k : Below W.heap.size W W') : OB w W' vs vw d :=
  ⟨box_kept _ h.dk k, h.isd.below k, box_kept _ h.zv k, box_kept _ h.zd k, Dsk.below_trans' h.below k⟩
theorem OB.new (w : World) (h : IsDisk w (.agg #[vs, vw, .bool d.dead, .int .i64 d.left]) d) :
    ∃ Y, Y = ((w.alloc (.cells #[vs, vw, .bool d.dead, .int .i64 d.left] 28)).alloc (.cells #[.slice none 0 0, .slice none 0 0, .bool false, .int .i64 0, .int .i64 0, .int .i64 0, .int .i64 0, .slice none 0 0] 33)).alloc (.cells #[.slice none 0 0, .slice none 0 0, .bool false, .int .i64 0] 28) ∧ OB w Y vs vw d := by
  obtain ⟨Y1, hY1⟩ : ∃ Y1, Y1 = w.alloc (.cells #[vs, vw, .bool d.dead, .int .i64 d.left] 28) := ⟨_, rfl⟩
  obtain ⟨Y2, hY2⟩ : ∃ Y2, Y2 = Y1.alloc (.cells #[.slice none 0 0, .slice none 0 0, .bool false, .int .i64 0, .int .i64 0, .int .i64 0, .int .i64 0, .slice none 0 0] 33) := ⟨_, rfl⟩
  obtain ⟨Y, hY⟩ : ∃ Y, Y = Y2.alloc (.cells #[.slice none 0 0, .slice none 0 0, .bool false, .int .i64 0] 28) := ⟨_, rfl⟩
  have b1 : Below w.heap.size w Y1 := by rw [hY1]; exact below_one _ _
  have b2 : Below Y1.heap.size Y1 Y2 := by rw [hY2]; exact below_one _ _
  have b3 : Below Y2.heap.size Y2 Y := by rw [hY]; exact below_one _ _
  have s1 : Y1.heap.size = w.heap.size + 1 := by rw [hY1]; simp
  have s2 : Y2.heap.size = w.heap.size + 1 + 1 := by rw [hY2]; simp [s1]
  refine ⟨Y, by rw [hY, hY2, hY1], box_kept _ (box_kept _ (by rw [hY1]; exact heap_alloc_new w _) b2) b3, ((h.below b1).below b2).below b3, ?_, ?_, Dsk.below_trans' (Dsk.below_trans' b1 b2) b3⟩
  · refine box_kept _ ?_ b3
    rw [← s1, hY2]
    exact heap_alloc_new Y1 _
  · rw [← s2, hY]
    exact heap_alloc_new Y2 _
/-- Another disk is stored into the first box. -/
theorem OB.put (h : OB w W vs vw d) (hv : IsDisk W (.agg #[us, uw, .bool e.dead, .int .i64 e.left]) e) :
    ∃ X, (((W.setCell ⟨w.heap.size, 0, none⟩ us).setCell ⟨w.heap.size, 1, none⟩ uw).setCell ⟨w.heap.size, 2, none⟩ (.bool e.dead)).setCell ⟨w.heap.size, 3, none⟩ (.int .i64 e.left) = X ∧ OB w X us uw e ∧ (∀ k : Nat, k ≠ w.heap.size → X.heap[k]? = W.heap[k]?) := by
  obtain ⟨X, hX, hb, hk, hB⟩ := box_store4 h.dk us uw (.bool e.dead) (.int .i64 e.left)
  exact ⟨X, hX, ⟨hb, hv.other h.dk (by decide) (by decide) hk, (hk _ (by omega)).trans h.zv, (hk _ (by omega)).trans h.zd, hB _ _ h.below (Nat.le_refl _)⟩, hk⟩
/-- The answer's two boxes are stored: a vault, then the disk. -/
theorem OB.fin (h : OB w W vs vw d) {b0 b1 b7 : Value} {k : VK} (hv : IsVault W (.agg #[b0, b1, .bool k.disk.dead, .int .i64 k.disk.left, .int .i64 k.shape.pages, .int .i64 k.shape.journal, .int .i64 k.seq, b7]) k) :
    ∃ X, (((((((((((W.setCell ⟨w.heap.size + 1, 0, none⟩ b0).setCell ⟨w.heap.size + 1, 1, none⟩ b1).setCell ⟨w.heap.size + 1, 2, none⟩ (.bool k.disk.dead)).setCell ⟨w.heap.size + 1, 3, none⟩ (.int .i64 k.disk.left)).setCell ⟨w.heap.size + 1, 4, none⟩ (.int .i64 k.shape.pages)).setCell ⟨w.heap.size + 1, 5, none⟩ (.int .i64 k.shape.journal)).setCell ⟨w.heap.size + 1, 6, none⟩ (.int .i64 k.seq)).setCell ⟨w.heap.size + 1, 7, none⟩ b7).setCell ⟨w.heap.size + 1 + 1, 0, none⟩ vs).setCell ⟨w.heap.size + 1 + 1, 1, none⟩ vw).setCell ⟨w.heap.size + 1 + 1, 2, none⟩ (.bool d.dead)).setCell ⟨w.heap.size + 1 + 1, 3, none⟩ (.int .i64 d.left) = X ∧
      IsVault X (.agg #[b0, b1, .bool k.disk.dead, .int .i64 k.disk.left, .int .i64 k.shape.pages, .int .i64 k.shape.journal, .int .i64 k.seq, b7]) k ∧ IsDisk X (.agg #[vs, vw, .bool d.dead, .int .i64 d.left]) d ∧ Below w.heap.size w X ∧
      X.heap[w.heap.size + 1]? = some (.cells #[b0, b1, .bool k.disk.dead, .int .i64 k.disk.left, .int .i64 k.shape.pages, .int .i64 k.shape.journal, .int .i64 k.seq, b7] 33 (0, 0)) ∧
      X.heap[w.heap.size + 1 + 1]? = some (.cells #[vs, vw, .bool d.dead, .int .i64 d.left] 28 (0, 0)) := by
  obtain ⟨X1, hX1, hb1, hk1, hB1⟩ := box_store8 h.zv b0 b1 (.bool k.disk.dead) (.int .i64 k.disk.left) (.int .i64 k.shape.pages) (.int .i64 k.shape.journal) (.int .i64 k.seq) b7
  have hz := (hk1 (w.heap.size + 1 + 1) (by omega)).trans h.zd
  obtain ⟨X2, hX2, hb2, hk2, hB2⟩ := box_store4 hz vs vw (.bool d.dead) (.int .i64 d.left)
  refine ⟨X2, by rw [hX1, hX2], ?_, ?_, hB2 _ _ (hB1 _ _ h.below (by omega)) (by omega), (hk2 _ (by omega)).trans hb1, hb2⟩
  · obtain ⟨vs', vw', vd', e, h1, h2⟩ := hv.other h.zv hk1
    exact ⟨vs', vw', vd', e, h1.other hz (by decide) (by decide) hk2, SL.other h2 hz (by decide) hk2⟩
  · exact (h.isd.other h.zv (by decide) (by decide) hk1).other hz (by decide) (by decide) hk2
theorem zero_vault (W : World) : IsVault W (.agg #[.slice none 0 0, .slice none 0 0, .bool false, .int .i64 0, .int .i64 0, .int .i64 0, .int .i64 0, .slice none 0 0]) zeroV :=
  ⟨_, _, _, rfl, zero_disk W, IsLfs.nil W⟩
theorem OB.zero (h : OB w W vs vw d) :
    ∃ X, (((((((((((W.setCell ⟨w.heap.size + 1, 0, none⟩ (.slice none 0 0)).setCell ⟨w.heap.size + 1, 1, none⟩ (.slice none 0 0)).setCell ⟨w.heap.size + 1, 2, none⟩ (.bool false)).setCell ⟨w.heap.size + 1, 3, none⟩ (.int .i64 0)).setCell ⟨w.heap.size + 1, 4, none⟩ (.int .i64 0)).setCell ⟨w.heap.size + 1, 5, none⟩ (.int .i64 0)).setCell ⟨w.heap.size + 1, 6, none⟩ (.int .i64 0)).setCell ⟨w.heap.size + 1, 7, none⟩ (.slice none 0 0)).setCell ⟨w.heap.size + 1 + 1, 0, none⟩ vs).setCell ⟨w.heap.size + 1 + 1, 1, none⟩ vw).setCell ⟨w.heap.size + 1 + 1, 2, none⟩ (.bool d.dead)).setCell ⟨w.heap.size + 1 + 1, 3, none⟩ (.int .i64 d.left) = X ∧
      IsVault X (.agg #[.slice none 0 0, .slice none 0 0, .bool false, .int .i64 0, .int .i64 0, .int .i64 0, .int .i64 0, .slice none 0 0]) zeroV ∧ IsDisk X (.agg #[vs, vw, .bool d.dead, .int .i64 d.left]) d ∧ Below w.heap.size w X ∧
      X.heap[w.heap.size + 1]? = some (.cells #[.slice none 0 0, .slice none 0 0, .bool false, .int .i64 0, .int .i64 0, .int .i64 0, .int .i64 0, .slice none 0 0] 33 (0, 0)) ∧
      X.heap[w.heap.size + 1 + 1]? = some (.cells #[vs, vw, .bool d.dead, .int .i64 d.left] 28 (0, 0)) := h.fin (k := zeroV) (zero_vault W)
end

set_option maxRecDepth 100000 in
set_option maxHeartbeats 16000000 in
/-- No shape. -/
theorem popen_bad (v : Value) (d : DK) (w : World) (hv : IsDisk w v d) (hok : d.ok) {E : Int} (hs : (shapeR d).2 = E) (hE : E ≠ 0) (ho : openV d = (zeroV, d, E)) :
    Calls Tryz.prog 22 #[v] w fun e w' => ∃ v1 v2, e = .returned (.tuple #[v1, v2, .int .i64 (openV d).2.2]) ∧ IsVault w' v1 (openV d).1 ∧ IsDisk w' v2 (openV d).2.1 ∧ Below w.heap.size w w' := by
  rw [ho]
  obtain ⟨X1, X2, X3, X4, X5, X6, rfl⟩ := hv.parts
  obtain ⟨Y, hY, hB⟩ := OB.new w hv
  have CS := shape_calls _ d Y (hB.isd) hok
  rw [hs] at CS
  obtain ⟨z, hz⟩ : ∃ z, z = (shapeR d).1 := ⟨_, rfl⟩
  rw [← hz] at CS
  unfold shV at CS
  have CS := Lib.hid CS
  have HY := Lib.hid hY
  have HB := Lib.hid hB
  have hE1 : (E == 0) = false := by simpa using hE
  obtain ⟨⟨p0, p1, p2, p3⟩, _⟩ := box4 hB.dk
  clear hY hB hv hok hs hE ho hz
  go_enter Tryz.func22, Tryz.ntmps22
  go_upto_region 1 with (fail)
  rw [← HY.out]
  clear HY
  go_wp2_with fail
  (with_reducible refine CS.out.mono ?_)
  rintro e w1 ⟨rfl, hB1⟩
  obtain ⟨Y3, hY3⟩ : ∃ Y3, Y3 = w1.alloc (.cells #[.int .i64 z.pages, .int .i64 z.journal] 30) := ⟨_, rfl⟩
  have HT := Lib.hid (HB.out.more (Dsk.below_trans' hB1 (show Below w1.heap.size w1 Y3 by rw [hY3]; exact below_one _ _)))
  have HY3 := Lib.hid hY3
  clear hY3 hB1 p0 p1 p2 p3
  go_upto_region 2 with (fail)
  rw [← HY3.out]
  clear HY3
  obtain ⟨⟨p0, p1, p2, p3⟩, _⟩ := box4 HT.out.dk
  obtain ⟨⟨z0, z1, z2, z3, z4, z5, z6, z7⟩, zf⟩ := box8 HT.out.zv
  obtain ⟨⟨r0, r1, r2, r3⟩, g0, g1, g2, g3⟩ := box4 HT.out.zd
  go_wp2_with fail
  go_region
  obtain ⟨X, hX, f1, f2, f3, f4, f5⟩ := HT.out.zero
  have HX := Lib.hid hX
  have f1' := f1.below (Below.refl X.heap.size X).drew
  have f2' := f2.below (Below.refl X.heap.size X).drew
  have f3' := f3.drew
  obtain ⟨⟨q0, q1, q2, q3, q4, q5, q6, q7⟩, _⟩ := box8 (W := X.drew) f4
  obtain ⟨⟨s0, s1, s2, s3⟩, _⟩ := box4 (W := X.drew) f5
  clear p0 p1 p2 p3 z0 z1 z2 z3 z4 z5 z6 z7 zf r0 r1 r2 r3 g0 g1 g2 g3 hX f1 f2 f3 f4 f5
  rw [HX.out]
  go_wp2_with fail
  exact bodyPost_ret (v := .tuple #[.agg #[.slice none 0 0, .slice none 0 0, .bool false, .int .i64 0, .int .i64 0, .int .i64 0, .int .i64 0, .slice none 0 0], .agg #[.slice X1 X2 X3, .slice X4 X5 X6, .bool d.dead, .int .i64 d.left], .int .i64 E]) (by simp [results, Tryz.results22, go_sem, q0, q1, q2, q3, q4, q5, q6, q7, s0, s1, s2, s3]) rfl ⟨_, _, rfl, f1', f2', f3'⟩

end Go.Proofs.YtnbbijpmkhdgpaaGreat.Vlt

/- POpen2 -/
namespace Go.Proofs.YtnbbijpmkhdgpaaGreat.Vlt
open Go.RowKit Go.Sort
open Dsk
open Ent (isE parseE)

/-- The boxes of Open behind its shape: the disk's, the shape's, the answer's two. -/
structure OX (w W : World) (vs vw : Value) (d : DK) (x : Sh) (G : Nat) (v8 v4 : Array Value) : Prop where
  dk : W.heap[w.heap.size]? = some (.cells #[vs, vw, .bool d.dead, .int .i64 d.left] 28 (0, 0))
  isd : IsDisk W (.agg #[vs, vw, .bool d.dead, .int .i64 d.left]) d
  sh : SBox W G x
  zv : W.heap[w.heap.size + 1]? = some (.cells v8 33 (0, 0))
  zd : W.heap[w.heap.size + 1 + 1]? = some (.cells v4 28 (0, 0))
  below : Below w.heap.size w W
  far : w.heap.size + 1 + 1 < G
def Z8 : Array Value := #[.slice none 0 0, .slice none 0 0, .bool false, .int .i64 0, .int .i64 0, .int .i64 0, .int .i64 0, .slice none 0 0]
def Z4 : Array Value := #[.slice none 0 0, .slice none 0 0, .bool false, .int .i64 0]
section
variable {w W W' : World} {vs vw us uw : Value} {d e : DK} {x : Sh} {G : Nat} {v8 v4 : Array Value}
theorem OX.more (h : OX w W vs vw d x G v8 v4) (k : Below W.heap.size W W') : OX w W' vs vw d x G v8 v4 :=
  ⟨box_kept _ h.dk k, h.isd.below k, h.sh.below k, box_kept _ h.zv k, box_kept _ h.zd k, Dsk.below_trans' h.below k, h.far⟩
/-- The cells that Open reads. -/
theorem OX.cells (h : OX w W vs vw d x G v8 v4) : (W.cell? ⟨w.heap.size, 0, none⟩ = some vs ∧ W.cell? ⟨w.heap.size, 1, none⟩ = some vw ∧ W.cell? ⟨w.heap.size, 2, none⟩ = some (.bool d.dead) ∧ W.cell? ⟨w.heap.size, 3, none⟩ = some (.int .i64 d.left)) ∧
    W.cell? ⟨G, 0, none⟩ = some (.int .i64 x.pages) ∧ W.cell? ⟨G, 1, none⟩ = some (.int .i64 x.journal) := ⟨(box4 h.dk).1, h.sh.c0, h.sh.c1⟩
theorem OX.put (h : OX w W vs vw d x G v8 v4) (hv : IsDisk W (.agg #[us, uw, .bool e.dead, .int .i64 e.left]) e) :
    ∃ X, (((W.setCell ⟨w.heap.size, 0, none⟩ us).setCell ⟨w.heap.size, 1, none⟩ uw).setCell ⟨w.heap.size, 2, none⟩ (.bool e.dead)).setCell ⟨w.heap.size, 3, none⟩ (.int .i64 e.left) = X ∧ OX w X us uw e x G v8 v4 := by
  obtain ⟨X, hX, hb, hk, hB⟩ := box_store4 h.dk us uw (.bool e.dead) (.int .i64 e.left)
  have hf := h.far
  exact ⟨X, hX, hb, hv.other h.dk (by decide) (by decide) hk, h.sh.keep (hk _ (by omega)), (hk _ (by omega)).trans h.zv, (hk _ (by omega)).trans h.zd, hB _ _ h.below (Nat.le_refl _), h.far⟩
/-- A vault is stored into the answer. -/
theorem OX.st8 (h : OX w W vs vw d x G Z8 v4) (b0 b1 b2 b3 b4 b5 b6 b7 : Value) :
    ∃ X, (((((((W.setCell ⟨w.heap.size + 1, 0, none⟩ b0).setCell ⟨w.heap.size + 1, 1, none⟩ b1).setCell ⟨w.heap.size + 1, 2, none⟩ b2).setCell ⟨w.heap.size + 1, 3, none⟩ b3).setCell ⟨w.heap.size + 1, 4, none⟩ b4).setCell ⟨w.heap.size + 1, 5, none⟩ b5).setCell ⟨w.heap.size + 1, 6, none⟩ b6).setCell ⟨w.heap.size + 1, 7, none⟩ b7 = X ∧
      OX w X vs vw d x G #[b0, b1, b2, b3, b4, b5, b6, b7] v4 ∧ ∀ u k, IsVault W u k → IsVault X u k := by
  have hz := h.zv
  unfold Z8 at hz
  obtain ⟨X1, hX1, hb1, hk1, hB1⟩ := box_store8 hz b0 b1 b2 b3 b4 b5 b6 b7
  have hf := h.far
  exact ⟨X1, hX1, ⟨(hk1 _ (by omega)).trans h.dk, h.isd.other hz (by decide) (by decide) hk1, h.sh.keep (hk1 _ (by omega)), hb1, (hk1 _ (by omega)).trans h.zd, hB1 _ _ h.below (by omega), h.far⟩, fun u k hv => hv.other hz hk1⟩
/-- A disk is stored into the answer. -/
theorem OX.st4 (h : OX w W vs vw d x G v8 Z4) (b0 b1 b2 b3 : Value) :
    ∃ X, (((W.setCell ⟨w.heap.size + 1 + 1, 0, none⟩ b0).setCell ⟨w.heap.size + 1 + 1, 1, none⟩ b1).setCell ⟨w.heap.size + 1 + 1, 2, none⟩ b2).setCell ⟨w.heap.size + 1 + 1, 3, none⟩ b3 = X ∧
      OX w X vs vw d x G v8 #[b0, b1, b2, b3] ∧ ∀ u k, IsVault W u k → IsVault X u k := by
  have hz := h.zd
  unfold Z4 at hz
  obtain ⟨X1, hX1, hb1, hk1, hB1⟩ := box_store4 hz b0 b1 b2 b3
  have hf := h.far
  exact ⟨X1, hX1, ⟨(hk1 _ (by omega)).trans h.dk, h.isd.other hz (by decide) (by decide) hk1, h.sh.keep (hk1 _ (by omega)), (hk1 _ (by omega)).trans h.zv, hb1, hB1 _ _ h.below (by omega), h.far⟩, fun u k ⟨p, q, r, e, h1, h2⟩ => ⟨p, q, r, e, h1.other hz (by decide) (by decide) hk1, SL.other h2 hz (by decide) hk1⟩⟩
theorem OB.shape (h : OB w W vs vw d) (z : Sh) (hb : Below W.heap.size W W') : ∃ Y, Y = W'.alloc (.cells #[.int .i64 z.pages, .int .i64 z.journal] 30) ∧ OX w Y vs vw d z W'.heap.size Z8 Z4 := by
  obtain ⟨Y, hY⟩ : ∃ Y, Y = W'.alloc (.cells #[.int .i64 z.pages, .int .i64 z.journal] 30) := ⟨_, rfl⟩
  have hB : Below W'.heap.size W' Y := by rw [hY]; exact below_one _ _
  have h2 := (h.more hb).more hB
  exact ⟨Y, hY, h2.dk, h2.isd, by rw [hY]; exact SBox.new _ _, h2.zv, h2.zd, h2.below, (Array.getElem?_eq_some_iff.1 (h.more hb).zd).1⟩
end

/-- Open's way behind the shape, in parts. -/
theorem open_14 {d : DK} {x : Sh} (h0 : rdE d 0 ≠ 12) (hs : isS (headS d) = true ∧ (d.sure.length : Int) = sizeX (parseS (headS d))) (hx : x = parseS (headS d)) (hm : 2147483647 ≤ mostF (secK d) x.journal.toNat) : openV d = (zeroV, d, 14) := by
  rw [openV_is (x := x) hx rfl rfl rfl, if_neg h0, if_neg (by rw [hx]; simpa using hs), if_pos hm]
theorem open_0 {d : DK} {x : Sh} (h0 : rdE d 0 ≠ 12) (hs : isS (headS d) = true ∧ (d.sure.length : Int) = sizeX (parseS (headS d))) (hx : x = parseS (headS d)) (hm : ¬ 2147483647 ≤ mostF (secK d) x.journal.toNat) (hl : jl x.pages x.journal.toNat (secK d) = []) :
    openV d = (⟨d, x, mostF (secK d) x.journal.toNat + 1, []⟩, d, 0) := by
  rw [openV_is (x := x) hx rfl rfl rfl, if_neg h0, if_neg (by rw [hx]; simpa using hs), if_neg hm, if_pos hl]
theorem open_1 {d : DK} {x : Sh} {l : List Lf} (h0 : rdE d 0 ≠ 12) (hs : isS (headS d) = true ∧ (d.sure.length : Int) = sizeX (parseS (headS d))) (hx : x = parseS (headS d)) (hm : ¬ 2147483647 ≤ mostF (secK d) x.journal.toNat) (hl : l = jl x.pages x.journal.toNat (secK d)) (hl0 : l ≠ [])
    {D : DK} {E : Int} (e : wfF d (homeW x l) = (D, E)) : openV d = if E ≠ 0 then (zeroV, D, E) else (⟨D, x, mostF (secK d) x.journal.toNat + 1, []⟩, D, 0) := by
  rw [openV_is (x := x) hx rfl hl rfl, if_neg h0, if_neg (by rw [hx]; simpa using hs), if_neg hm, if_neg hl0, e]

end Go.Proofs.YtnbbijpmkhdgpaaGreat.Vlt
