/- Contracts and plain mathematics that the statement's proof wants: no statement is proved here, nothing is assumed. -/
import Derived.Deep.RegionHeld3
import Derived.Deep.RegionWith
import Derived.BigRegion
import Derived.Test.YtnbbijpmkhdgpaaGreatMg19
import Derived.Test.YtnbbijpmkhdgpaaGreatMg22
import Derived.Test.YtnbbijpmkhdgpaaGreatMg28
import Derived.Test.YtnbbijpmkhdgpaaGreatMg32
/- RForm -/
namespace Go.Proofs.YtnbbijpmkhdgpaaGreat.Vlt
open Go.RowKit Go.Sort
open Dsk

set_option maxRecDepth 100000 in
set_option maxHeartbeats 8000000 in
/-- A shape that may be. -/
theorem rformat_ok (x : Sh) (w : World) (hx : rightS x = true) :
    Calls Tryz.prog 12 #[.int .i64 x.pages, .int .i64 x.journal] w fun e w' => ∃ v', e = .returned (.tuple #[v', .int .i64 0]) ∧ IsVault w' v' (formatV x) ∧ Below w.heap.size w w' := by
  obtain ⟨a, b, c, e', f, g'⟩ := right_nat hx
  obtain ⟨N, hN⟩ : ∃ N, N = NN x := ⟨_, rfl⟩
  have hN1 : 1 ≤ N := by rw [hN]; unfold NN; omega
  have hN2 : N ≤ 2000 := by rw [hN]; unfold NN; omega
  have hNx : placeN x x.pages = (N : Nat) := by rw [hN]; exact size_nat hx
  have hNs : (sizeX x).toNat = N := by unfold sizeX; rw [hNx]; rfl
  obtain ⟨S, hS⟩ : ∃ S, S = strB (printL x) := ⟨_, rfl⟩
  obtain ⟨D0, hD0⟩ : ∃ D, D = newD N := ⟨_, rfl⟩
  obtain ⟨D1, hD1⟩ : ∃ D, D = wrD D0 0 S := ⟨_, rfl⟩
  obtain ⟨D2, hD2⟩ : ∃ D, D = flD D1 := ⟨_, rfl⟩
  have hfv : formatV x = ⟨D2, x, 1, []⟩ := by rw [hD2, hD1, hD0, hS]; unfold formatV; rw [hNs]
  rw [hfv]
  have hp0 : Pl N 0 D0 := by rw [hD0]; exact ⟨newD_good _, rising_nil, wetIn_nil rfl⟩
  have hp1 : Pl N 1 D1 := by rw [hD1]; exact wrD_pl hp0 0 S
  have CN := rnew_calls N hN1 hN2
  rw [← hD0] at CN
  have CR := rright_calls x
  rw [hx] at CR
  have CZ := rsize_calls x
  rw [hNx] at CZ
  have CP := rprint_calls x
  rw [← hS] at CP
  have CW := fun v W (h : IsDisk W v D0) => rwr_calls v D0 0 S W h (hp0.ok hN2 (by omega)) hp0.rise
  rw [← hD1] at CW
  have CL := fun v W (h : IsDisk W v D1) => rfl_calls v D1 W h (hp1.ok hN2 (by omega)) hp1.inn
  rw [← hD2] at CL
  unfold shV at CR CZ CP
  have CN := Lib.hid CN
  have CR := Lib.hid CR
  have CZ := Lib.hid CZ
  have CP := Lib.hid CP
  have CW := Lib.hid CW
  have CL := Lib.hid CL
  obtain ⟨Y1, hY1⟩ : ∃ Y1, Y1 = w.alloc (.cells #[.slice none 0 0, .slice none 0 0, .bool false, .int .i64 0, .int .i64 0, .int .i64 0, .int .i64 0, .slice none 0 0] 33) := ⟨_, rfl⟩
  obtain ⟨Y, hY⟩ : ∃ Y, Y = Y1.alloc (.cells #[.int .i64 x.pages, .int .i64 x.journal] 30) := ⟨_, rfl⟩
  have hs1 : Y1.heap.size = w.heap.size + 1 := by rw [hY1]; simp
  have hzv : Y.heap[w.heap.size]? = some (.cells #[.slice none 0 0, .slice none 0 0, .bool false, .int .i64 0, .int .i64 0, .int .i64 0, .int .i64 0, .slice none 0 0] 33 (0, 0)) := by
    rw [hY]
    refine box_kept _ ?_ (below_one _ _)
    rw [hY1]
    exact heap_alloc_new w _
  have hsh : SBox Y (w.heap.size + 1) x := by rw [← hs1, hY]; exact SBox.new _ _
  have hB : Below w.heap.size w Y := by rw [hY, hY1]; exact Dsk.below_trans' (below_one _ _) (below_one _ _)
  have HY1 := Lib.hid hY1
  have HY := Lib.hid hY
  have HZV := Lib.hid hzv
  have HSH := Lib.hid hsh
  have HB := Lib.hid hB
  have HS1 := Lib.hid hs1
  clear a b c e' f g' hN hN1 hN2 hNx hNs hS hD0 hD1 hD2 hfv hp0 hp1 hY1 hY hs1 hzv hsh hB hx
  go_enter Tryz.func12, Tryz.ntmps12
  go_upto_region 1 with (fail)
  rw [← HY1.out]
  go_upto_region 2 with (fail)
  rw [← HY.out, HS1.out]
  clear HY HY1
  have t0 := HSH.out.c0
  have t1 := HSH.out.c1
  go_wp2_with fail
  (with_reducible refine (CR.out _).mono ?_)
  rintro e w1 ⟨rfl, hB1⟩
  have HB1 := Lib.hid (Dsk.below_trans' HB.out hB1)
  have HSH1 := Lib.hid (HSH.out.below hB1)
  have HZV1 := Lib.hid (box_kept _ HZV.out hB1)
  clear t0 t1 hB1
  have t0 := HSH1.out.c0
  have t1 := HSH1.out.c1
  go_wp2_with fail
  (with_reducible refine (CZ.out _).mono ?_)
  rintro e w2 ⟨rfl, hB2⟩
  have HB2 := Lib.hid (Dsk.below_trans' HB1.out hB2)
  have HSH2 := Lib.hid (HSH1.out.below hB2)
  have HZV2 := Lib.hid (box_kept _ HZV1.out hB2)
  clear t0 t1 hB2
  go_wp2_with fail
  (with_reducible refine (CN.out _).mono ?_)
  rintro e w3 ⟨v, rfl, hv, hB3⟩
  obtain ⟨X1, X2, X3, X4, X5, X6, rfl⟩ := hv.parts
  obtain ⟨Y5, hY5⟩ : ∃ Y5, Y5 = w3.alloc (.cells #[.slice X1 X2 X3, .slice X4 X5 X6, .bool D0.dead, .int .i64 D0.left] 28) := ⟨_, rfl⟩
  have hb5 : Below w3.heap.size w3 Y5 := by rw [hY5]; exact below_one _ _
  have hfb : FB w Y5 x w3.heap.size (.slice X1 X2 X3) (.slice X4 X5 X6) D0 :=
    ⟨box_kept _ (box_kept _ HZV2.out hB3) hb5, (HSH2.out.below hB3).below hb5, by rw [hY5]; exact heap_alloc_new w3 _, hv.below hb5, Dsk.below_trans' (Dsk.below_trans' HB2.out hB3) hb5, (HSH2.out.below hB3).lt⟩
  have HY5 := Lib.hid hY5
  obtain ⟨G, hG⟩ : ∃ G, G = w3.heap.size := ⟨_, rfl⟩
  rw [← hG] at hfb
  have HT0 := Lib.hid hfb
  have HG := Lib.hid hG.symm
  clear hv hB3 hY5 hb5 hfb hG HSH HSH1 HSH2 HZV HZV1 HZV2 HB HB1 HB2
  go_upto_region 5 with (fail)
  rw [← HY5.out]
  rw [HG.out]
  clear HY5 HG
  go_cut [] from 22 to 28 (fun wx => ∃ (T1 : Option Addr) (T2 T3 : Nat) (T4 : Option Addr) (T5 T6 : Nat), FB w wx x G (.slice T1 T2 T3) (.slice T4 T5 T6) D1)
  case first =>
    have HT := Lib.hid (HT0.out.more (Below.refl _ _).drew)
    obtain ⟨⟨p0, p1, p2, p3⟩, t0, t1⟩ := HT.out.cells
    go_region_with (first
      | (go_at_call 34; (with_reducible refine (CP.out _).mono ?_); rintro e wa ⟨rfl, hBa⟩; (with_reducible replace HT := Lib.hid (HT.out.more hBa)); clear hBa p0 p1 p2 p3 t0 t1; obtain ⟨⟨p0, p1, p2, p3⟩, t0, t1⟩ := HT.out.cells)
      | (go_at_call 21; (with_reducible refine (CW.out _ _ HT.out.isd).mono ?_); rintro e wa ⟨v', rfl, hv', hBa⟩; (with_reducible replace HT := Lib.hid (HT.out.more hBa)); clear hBa p0 p1 p2 p3 t0 t1; obtain ⟨T1, T2, T3, T4, T5, T6, rfl⟩ := hv'.parts; have HV := Lib.hid hv'; clear hv'; obtain ⟨⟨p0, p1, p2, p3⟩, t0, t1⟩ := HT.out.cells; obtain ⟨_, f0, f1, f2, f3⟩ := box4 HT.out.dk))
    all_goals
      go_wp2_with fail
      go_meet
      case rel => exact ⟨T1, T2, T3, T4, T5, T6, by obtain ⟨X, hX, hC⟩ := HT.out.put HV.out; rw [hX]; exact hC⟩
  case rest =>
    obtain ⟨T1, T2, T3, T4, T5, T6, hfb⟩ := hcut
    clear HT0 CP CW
    have HT := Lib.hid hfb
    clear hfb
    obtain ⟨⟨p0, p1, p2, p3⟩, t0, t1⟩ := HT.out.cells
    go_wp2_with fail
    (with_reducible refine (CL.out _ _ HT.out.isd).mono ?_)
    rintro e wa ⟨v', rfl, hv', hBa⟩
    obtain ⟨U1, U2, U3, U4, U5, U6, rfl⟩ := hv'.parts
    have HT2 := Lib.hid (HT.out.more hBa)
    obtain ⟨X2, hX2, hC⟩ := HT2.out.put hv'
    have HX2 := Lib.hid hX2
    have HC := Lib.hid hC
    clear hBa p0 p1 p2 p3 t0 t1 hv' hX2 hC HT
    obtain ⟨⟨p0, p1, p2, p3⟩, f0, f1, f2, f3⟩ := box4 HT2.out.dk
    go_upto_region 7 with (fail)
    rw [HX2.out]
    clear p0 p1 p2 p3 f0 f1 f2 f3 HX2 HT2
    obtain ⟨X, hX, f1, f2, f3⟩ := HC.out.fin 1
    have HX := Lib.hid hX
    have HF := Lib.hid (And.intro f1 f2)
    have HBX := Lib.hid (box8 f3)
    obtain ⟨⟨p0, p1, p2, p3⟩, t0, t1⟩ := HC.out.cells
    obtain ⟨⟨z0, z1, z2, z3, z4, z5, z6, z7⟩, zf⟩ := box8 HC.out.zv
    clear hX f1 f2 f3
    go_wp2_with fail
    rw [HX.out]
    clear p0 p1 p2 p3 t0 t1 z0 z1 z2 z3 z4 z5 z6 z7 zf
    obtain ⟨⟨z0, z1, z2, z3, z4, z5, z6, z7⟩, _⟩ := HBX.out
    exact bodyPost_ret (v := .tuple #[.agg #[.slice U1 U2 U3, .slice U4 U5 U6, .bool D2.dead, .int .i64 D2.left, .int .i64 x.pages, .int .i64 x.journal, .int .i64 1, .slice none 0 0], .int .i64 0]) (by simp [results, Tryz.results12, go_sem, z0, z1, z2, z3, z4, z5, z6, z7]) rfl ⟨_, rfl, HF.out.1, HF.out.2⟩

set_option maxRecDepth 100000 in
set_option maxHeartbeats 4000000 in
/-- A shape that may not be. -/
theorem rformat_bad (x : Sh) (w : World) (hx : rightS x = false) :
    Calls Tryz.prog 12 #[.int .i64 x.pages, .int .i64 x.journal] w fun e w' => ∃ v', e = .returned (.tuple #[v', .int .i64 1]) ∧ IsVault w' v' zeroV ∧ Below w.heap.size w w' := by
  have CR := rright_calls x
  rw [hx] at CR
  unfold shV at CR
  have CR := Lib.hid CR
  obtain ⟨Y1, hY1⟩ : ∃ Y1, Y1 = w.alloc (.cells #[.slice none 0 0, .slice none 0 0, .bool false, .int .i64 0, .int .i64 0, .int .i64 0, .int .i64 0, .slice none 0 0] 33) := ⟨_, rfl⟩
  obtain ⟨Y, hY⟩ : ∃ Y, Y = Y1.alloc (.cells #[.int .i64 x.pages, .int .i64 x.journal] 30) := ⟨_, rfl⟩
  have hs1 : Y1.heap.size = w.heap.size + 1 := by rw [hY1]; simp
  have hzv : Y.heap[w.heap.size]? = some (.cells #[.slice none 0 0, .slice none 0 0, .bool false, .int .i64 0, .int .i64 0, .int .i64 0, .int .i64 0, .slice none 0 0] 33 (0, 0)) := by
    rw [hY]
    refine box_kept _ ?_ (below_one _ _)
    rw [hY1]
    exact heap_alloc_new w _
  have hsh : SBox Y (w.heap.size + 1) x := by rw [← hs1, hY]; exact SBox.new _ _
  have hB : Below w.heap.size w Y := by rw [hY, hY1]; exact Dsk.below_trans' (below_one _ _) (below_one _ _)
  have HY1 := Lib.hid hY1
  have HY := Lib.hid hY
  have HZV := Lib.hid hzv
  have HB := Lib.hid hB
  have HS1 := Lib.hid hs1
  have t0 := hsh.c0
  have t1 := hsh.c1
  clear hY1 hY hs1 hzv hsh hB hx
  go_enter Tryz.func12, Tryz.ntmps12
  go_upto_region 1 with (fail)
  rw [← HY1.out]
  go_upto_region 2 with (fail)
  rw [← HY.out, HS1.out]
  clear HY HY1
  go_wp2_with fail
  (with_reducible refine (CR.out _).mono ?_)
  rintro e w1 ⟨rfl, hB1⟩
  have hz := box_kept _ HZV.out hB1
  obtain ⟨X, hX, hbX, hkX, hBX⟩ := box_store8 hz (.slice none 0 0) (.slice none 0 0) (.bool false) (.int .i64 0) (.int .i64 0) (.int .i64 0) (.int .i64 0) (.slice none 0 0)
  have HX := Lib.hid hX
  have HF := Lib.hid (hBX _ _ (Dsk.below_trans' HB.out hB1) (Nat.le_refl _))
  have HBX := Lib.hid (box8 hbX)
  obtain ⟨⟨z0, z1, z2, z3, z4, z5, z6, z7⟩, zf⟩ := box8 hz
  clear hz hX hbX hkX hBX hB1 t0 t1
  go_wp2_with fail
  rw [HX.out]
  clear z0 z1 z2 z3 z4 z5 z6 z7 zf
  obtain ⟨⟨z0, z1, z2, z3, z4, z5, z6, z7⟩, _⟩ := HBX.out
  exact bodyPost_ret (v := .tuple #[.agg #[.slice none 0 0, .slice none 0 0, .bool false, .int .i64 0, .int .i64 0, .int .i64 0, .int .i64 0, .slice none 0 0], .int .i64 1]) (by simp [results, Tryz.results12, go_sem, z0, z1, z2, z3, z4, z5, z6, z7]) rfl ⟨_, rfl, ⟨_, _, _, rfl, zero_disk _, IsLfs.nil _⟩, HF.out⟩

end Go.Proofs.YtnbbijpmkhdgpaaGreat.Vlt

/- RCommit -/
namespace Go.Proofs.YtnbbijpmkhdgpaaGreat.Vlt
open Go.RowKit Go.Sort
open Dsk
open Ent (En enV EBox enC)

theorem CB.apart {w W X : World} {v0 v1 v7 : Value} {k : VK} {z : Nat} {cur : Array Value} {t : TypeId} (h : CB w W v0 v1 v7 k) (hz : W.heap[z]? = some (.cells cur t (0, 0))) (t1 : t ≠ 9) (t2 : t ≠ 72) (t3 : t ≠ 52) (hk : ∀ q : Nat, q ≠ z → X.heap[q]? = W.heap[q]?) (hb : Below w.heap.size w X) (h1 : w.heap.size + 1 < z) : CB w X v0 v1 v7 k :=
  ⟨⟨h.b.a.keep (hk _ (by omega)), (hk _ (by omega)).trans h.b.z, hb⟩, h.d.other hz t1 t2 hk, SL.other h.l hz t3 hk⟩
/-- What lies in a round of Commit. -/
structure CRD (w V W : World) (v0 v1 v7 : Value) (k : VK) (g : Nat) (y : En) : Prop where
  b : CB w W v0 v1 v7 k
  e : EBox W g y
  k : Below V.heap.size V W
  lo : w.heap.size + 1 < g
section
variable {w V W W' : World} {v0 v1 v7 us uw : Value} {k : VK} {g z : Nat} {y : En} {e : DK}
theorem CRD.more (h : CRD w V W v0 v1 v7 k g y) (q : Below W.heap.size W W') : CRD w V W' v0 v1 v7 k g y := ⟨h.b.more q, h.e.below q, Dsk.below_trans' h.k q, h.lo⟩
theorem CRD.cells (h : CRD w V W v0 v1 v7 k g y) :
    (W.cell? ⟨w.heap.size, 0, none⟩ = some v0 ∧ W.cell? ⟨w.heap.size, 1, none⟩ = some v1 ∧ W.cell? ⟨w.heap.size, 2, none⟩ = some (.bool k.disk.dead) ∧ W.cell? ⟨w.heap.size, 3, none⟩ = some (.int .i64 k.disk.left)) ∧
    W.cell? ⟨g, 0, none⟩ = some (.int .i64 y.seq) ∧ W.cell? ⟨g, 1, none⟩ = some (.int .i64 y.index) ∧ W.cell? ⟨g, 2, none⟩ = some (.bool y.last) ∧ W.cell? ⟨g, 3, none⟩ = some (.int .i64 y.no) ∧ W.cell? ⟨g, 4, none⟩ = some (.string (strB y.data)) :=
  ⟨⟨h.b.b.a.at_.c0, h.b.b.a.at_.c1, h.b.b.a.at_.c2, h.b.b.a.at_.c3⟩, h.e.at_.c0, h.e.at_.c1, h.e.at_.c2, h.e.at_.c3, h.e.at_.c4⟩
theorem NB.newC (h : CRD w V W v0 v1 v7 k g y) : NB V (W.alloc (.cells #[.slice none 0 0, .slice none 0 0, .bool false, .int .i64 0] 28)) W.heap.size := ⟨heap_alloc_new W _, h.k.size⟩
/-- What lies behind a round's write: the boxes, and the disk in a box of its own. -/
structure CX (w V X : World) (v0 v1 v7 us uw : Value) (k : VK) (g : Nat) (y : En) (e : DK) (z : Nat) : Prop where
  h : CRD w V X v0 v1 v7 k g y
  box : X.heap[z]? = some (.cells #[us, uw, .bool e.dead, .int .i64 e.left] 28 (0, 0))
  isd : IsDisk X (.agg #[us, uw, .bool e.dead, .int .i64 e.left]) e
theorem CX.fresh (h : CRD w V W v0 v1 v7 k g y) (hv : IsDisk W (.agg #[us, uw, .bool e.dead, .int .i64 e.left]) e) :
    ∃ X, W.alloc (.cells #[us, uw, .bool e.dead, .int .i64 e.left] 28) = X ∧ CX w V X v0 v1 v7 us uw k g y e W.heap.size :=
  ⟨_, rfl, h.more (below_one _ _), heap_alloc_new W _, hv.below (below_one _ _)⟩
theorem CX.store (h : CRD w V W v0 v1 v7 k g y) (n : NB V W z) (hv : IsDisk W (.agg #[us, uw, .bool e.dead, .int .i64 e.left]) e) (hV : g < V.heap.size) :
    ∃ X, (((W.setCell ⟨z, 0, none⟩ us).setCell ⟨z, 1, none⟩ uw).setCell ⟨z, 2, none⟩ (.bool e.dead)).setCell ⟨z, 3, none⟩ (.int .i64 e.left) = X ∧ CX w V X v0 v1 v7 us uw k g y e z := by
  obtain ⟨X, hX, hb, hk, hB⟩ := box_store4 n.box us uw (.bool e.dead) (.int .i64 e.left)
  have hle := n.le
  have hlo := h.lo
  exact ⟨X, hX, ⟨h.b.apart n.box (by decide) (by decide) (by decide) hk (hB _ _ h.b.b.below (by omega)) (by omega), h.e.keep (hk _ (by omega)), hB _ _ h.k hle, h.lo⟩, hb, hv.other n.box (by decide) (by decide) hk⟩
/-- The entry's number and bytes are stored. -/
theorem CRD.setE (h : CRD w V W v0 v1 v7 k g y) (n : Int) (s : List UInt8) (hV : V.heap.size ≤ g) :
    ∃ X, (W.setCell ⟨g, 3, none⟩ (.int .i64 n)).setCell ⟨g, 4, none⟩ (.string (strB s)) = X ∧ CRD w V X v0 v1 v7 k g { y with no := n, data := s } := by
  obtain ⟨X1, e1⟩ : ∃ X1, W.setCell ⟨g, 3, none⟩ (.int .i64 n) = X1 := ⟨_, rfl⟩
  have a1 := h.e.setNo n
  rw [e1] at a1
  have k1 : ∀ q : Nat, q ≠ g → X1.heap[q]? = W.heap[q]? := fun q hq => by rw [← e1]; exact Below.heap_setCell _ _ _ _ hq
  obtain ⟨X, e2⟩ : ∃ X, X1.setCell ⟨g, 4, none⟩ (.string (strB s)) = X := ⟨_, rfl⟩
  have a2 := a1.setData s
  rw [e2] at a2
  have k2 : ∀ q : Nat, q ≠ g → X.heap[q]? = W.heap[q]? := fun q hq => by rw [← e2, Below.heap_setCell _ _ _ _ hq, k1 q hq]
  have b2 : ∀ (B : Nat) (a : World), Below B a W → B ≤ g → Below B a X := fun B a hb hg => by rw [← e2, ← e1]; exact (hb.setCell (p := ⟨g, 3, none⟩) hg _).setCell (p := ⟨g, 4, none⟩) hg _
  have hlo := h.lo
  exact ⟨X, by rw [e1, e2], ⟨h.b.apart h.e (by decide) (by decide) (by decide) k2 (b2 _ _ h.b.b.below (by omega)) h.lo, a2, b2 _ _ h.k hV, h.lo⟩⟩
end
theorem log_take {s : Int} {l : List Lf} {i : Nat} (h : i ≤ l.length) : (logL s l).take (i + 1) = (logL s l).take i ++ [((1 : Int) + i, strB (Ent.printL (entK s l i)))] := by
  have : (logL s l)[i]? = some ((1 : Int) + i, strB (Ent.printL (entK s l i))) := by
    unfold logL
    rw [List.getElem?_map, List.getElem?_range (by omega)]
    rfl
  rw [List.take_add_one, this]
  rfl

set_option maxRecDepth 100000 in
set_option maxHeartbeats 16000000 in
theorem rcommit_calls (v : Value) (k : VK) (w : World) {nn ii : Nat} (hv : IsVault w v k) (hp : Pl nn ii k.disk) (hnn : nn ≤ 2000) (hii : ii + 2 * k.dirty.length + 2 ≤ 2000) (hd240 : ∀ q ∈ k.dirty, q.data.length ≤ 240) (hq1 : 0 ≤ k.seq) (hq2 : k.seq ≤ 2147483647) :
    Calls Tryz.prog 40 #[v] w fun e w' => ∃ v', e = .returned (.tuple #[v', .int .i64 (commitV k).2]) ∧ IsVault w' v' (commitV k).1 ∧ Below w.heap.size w w' := by
  obtain ⟨vs, vw, vd, rfl, h1, h2⟩ := id hv
  obtain ⟨A1, n1, c1, A2, n2, c2, e1⟩ := h1.parts
  obtain ⟨rfl, rfl⟩ : vs = .slice A1 n1 c1 ∧ vw = .slice A2 n2 c2 := by
    simp only [Value.agg.injEq, Array.mk.injEq, List.cons.injEq] at e1
    exact ⟨e1.1, e1.2.1⟩
  obtain ⟨A, n, c, rfl, hn, _, hr⟩ := h2.open_
  obtain ⟨Y, hY, hB⟩ := CB.new w h1 h2
  have HY := Lib.hid hY
  have HCB := Lib.hid hB
  have HN := Lib.hid hn
  have hnm : n ≤ 1000 := by omega
  obtain ⟨i0, i1, i2, i3, i4, i5, i6, i7⟩ := hB.b.a.at_
  rcases Bool.eq_false_or_eq_true k.disk.dead with hd | hd
  · have HC := Lib.hid (commit_easy hd)
    obtain ⟨X, hX, f1, f2, f3⟩ := hB.fin
    have HX := Lib.hid hX
    have HF := Lib.hid (And.intro f1 f2)
    have HBX := Lib.hid (box8 f3)
    have HZ := Lib.hid (box8 hB.b.z)
    rw [hd] at HY i2 ⊢ HX HF HBX
    clear hY hB h1 h2 hn hr hv hp hii hd240 hX f1 f2 f3 hd e1
    go_enter Tryz.func40, Tryz.ntmps40
    go_upto_region 1 with (fail)
    rw [← HY.out]
    clear HY
    obtain ⟨⟨z0, z1, z2, z3, z4, z5, z6, z7⟩, zf⟩ := HZ.out
    go_wp2_with fail
    rw [HX.out]
    clear i0 i1 i2 i3 i4 i5 i6 i7 z0 z1 z2 z3 z4 z5 z6 z7 zf
    obtain ⟨⟨z0, z1, z2, z3, z4, z5, z6, z7⟩, _⟩ := HBX.out
    exact bodyPost_ret (v := .tuple #[.agg #[.slice A1 n1 c1, .slice A2 n2 c2, .bool true, .int .i64 k.disk.left, .int .i64 k.shape.pages, .int .i64 k.shape.journal, .int .i64 k.seq, .slice A n c], .int .i64 12]) (by simp [results, Tryz.results40, go_sem, z0, z1, z2, z3, z4, z5, z6, z7]) rfl ⟨_, by rw [HC.out], by rw [HC.out]; exact HF.out.1, HF.out.2⟩
  have HD := Lib.hid hd
  have HZ := Lib.hid (box8 hB.b.z)
  rw [hd] at HY i2 ⊢
  by_cases hn0 : n = 0
  · have HC := Lib.hid (commit_none hd (List.eq_nil_of_length_eq_zero (by omega)))
    obtain ⟨X, hX, f1, f2, f3⟩ := hB.fin
    have HX := Lib.hid hX
    have HF := Lib.hid (And.intro f1 f2)
    have HBX := Lib.hid (box8 f3)
    rw [hd] at HX HF HBX
    subst hn0
    clear hY hB h1 h2 hn hr hv hp hii hd240 hX f1 f2 f3 hd e1
    go_enter Tryz.func40, Tryz.ntmps40
    go_upto_region 1 with (fail)
    rw [← HY.out]
    clear HY
    obtain ⟨⟨z0, z1, z2, z3, z4, z5, z6, z7⟩, zf⟩ := HZ.out
    go_wp2_with fail
    rw [HX.out]
    clear i0 i1 i2 i3 i4 i5 i6 i7 z0 z1 z2 z3 z4 z5 z6 z7 zf
    obtain ⟨⟨z0, z1, z2, z3, z4, z5, z6, z7⟩, _⟩ := HBX.out
    exact bodyPost_ret (v := .tuple #[.agg #[.slice A1 n1 c1, .slice A2 n2 c2, .bool false, .int .i64 k.disk.left, .int .i64 k.shape.pages, .int .i64 k.shape.journal, .int .i64 k.seq, .slice A 0 c], .int .i64 0]) (by simp [results, Tryz.results40, go_sem, z0, z1, z2, z3, z4, z5, z6, z7]) rfl ⟨_, by rw [HC.out], by rw [HC.out]; exact HF.out.1, HF.out.2⟩
  have hne : k.dirty ≠ [] := fun e => hn0 (by rw [hn, e]; rfl)
  have hn1 : ((n : Int) == 0) = false := by simpa using hn0
  by_cases hbig : (k.dirty.length : Int) + 1 > k.shape.journal
  · have HC := Lib.hid (commit_big hd hne hbig)
    obtain ⟨X1, hX1, hB1⟩ := hB.putL (IsLfs.nil _)
    obtain ⟨X, hX, f1, f2, f3⟩ := hB1.fin
    have HX1 := Lib.hid hX1
    have HX := Lib.hid hX
    have HF := Lib.hid (And.intro f1 f2)
    have HBX := Lib.hid (box8 f3)
    have HB1 := Lib.hid hB1
    have HZ1 := Lib.hid (box8 hB1.b.z)
    have kf := hB.b.a.free
    dsimp only at HX HF HBX
    rw [hd] at HX HF HBX
    have hbg : (n : Int) + 1 > k.shape.journal := by omega
    clear hY hB h1 h2 hn hr hv hp hii hd240 hX f1 f2 f3 hd e1 hX1 hB1 HZ hbig hne
    go_enter Tryz.func40, Tryz.ntmps40
    go_upto_region 1 with (fail)
    rw [← HY.out]
    clear HY
    go_upto_region 8 with (fail)
    rw [HX1.out]
    clear i0 i1 i2 i3 i4 i5 i6 i7 kf HX1
    obtain ⟨i0, i1, i2, i3, i4, i5, i6, i7⟩ := HB1.out.b.a.at_
    dsimp only at i0 i1 i2 i3 i4 i5 i6 i7
    rw [HD.out] at i2
    obtain ⟨⟨z0, z1, z2, z3, z4, z5, z6, z7⟩, zf⟩ := HZ1.out
    go_wp2_with fail
    rw [HX.out]
    clear i0 i1 i2 i3 i4 i5 i6 i7 z0 z1 z2 z3 z4 z5 z6 z7 zf
    obtain ⟨⟨z0, z1, z2, z3, z4, z5, z6, z7⟩, _⟩ := HBX.out
    exact bodyPost_ret (v := .tuple #[.agg #[.slice A1 n1 c1, .slice A2 n2 c2, .bool false, .int .i64 k.disk.left, .int .i64 k.shape.pages, .int .i64 k.shape.journal, .int .i64 k.seq, .slice none 0 0], .int .i64 8]) (by simp [results, Tryz.results40, go_sem, z0, z1, z2, z3, z4, z5, z6, z7]) rfl ⟨_, by rw [HC.out], by rw [HC.out]; exact HF.out.1, HF.out.2⟩
  have hbg : ¬ (n : Int) + 1 > k.shape.journal := by omega
  obtain ⟨q, off, rfl, hql, _⟩ := hr.at_ (show 0 < n by omega)
  have HP := Lib.hid hp
  have HII := Lib.hid hii
  have HDT := Lib.hid hd240
  have HR := Lib.hid hr
  have HNE := Lib.hid hne
  have HBG := Lib.hid hbig
  have HDD := Lib.hid hd
  have HL2 := Lib.hid h2
  have hbg2 : ¬ (n : Int) + 1 > k.shape.journal := hbg
  clear hY hB h1 h2 hn hr hv hp hii hd240 hd e1 hbig hne hbg
  have HZ0 := Lib.hid HZ.out
  clear HZ
  go_enter Tryz.func40, Tryz.ntmps40
  go_upto_region 1 with (fail)
  rw [← HY.out]
  clear HY
  go_upto_region 10 with (fail)
  clear i0 i1 i2 i3 i4 i5 i6 i7
  go_loopw [5] (fun u wr => ∃ (i : Nat) (D : DK) (B1 : Option Addr) (B2 B3 : Nat) (B4 : Option Addr) (B5 B6 : Nat), i ≤ n + 1 ∧ u = .int .i64 i ∧ wrsF k.disk ((logL k.seq k.dirty).take i) = (D, 0) ∧ CB w wr (.slice B1 B2 B3) (.slice B4 B5 B6) (.slice (some ⟨q, off, none⟩) n c) { k with disk := D }) (fun u _ => n + 1 - (intOf u).toNat)
  case atStart => exact ⟨0, k.disk, _, _, _, _, _, _, Nat.zero_le _, rfl, rfl, HCB.out⟩
  case round =>
    obtain ⟨i, D, B1, B2, B3, B4, B5, B6, hi, rfl, hw, hb⟩ := hrel
    have HW := Lib.hid hw
    have HC := Lib.hid hb
    clear hw hb HCB
    by_cases hle : i ≤ n
    rotate_left
    · have hin : i = n + 1 := by omega
      have hall : wrsF k.disk (logL k.seq k.dirty) = (D, 0) := by
        have := HW.out
        rwa [List.take_of_length_le (by rw [log_len]; have := HN.out; omega)] at this
      obtain ⟨D1, hD1⟩ : ∃ z, z = flD D := ⟨_, rfl⟩
      obtain ⟨E1, hE1⟩ : ∃ z, z = flE D := ⟨_, rfl⟩
      have hwf : wfF k.disk (logL k.seq k.dirty) = (D1, E1) := by unfold wfF; rw [hall, if_pos rfl, hD1, hE1]
      have hDpl := wrs_pl (logL k.seq k.dirty) HP.out
      rw [hall] at hDpl
      have hDok : D.ok := hDpl.ok hnn (by rw [log_len]; have := HII.out; have := HN.out; omega)
      have hpl1 : Pl nn (ii + (k.dirty.length + 1)) D1 := by
        have := wf_pl (l := logL k.seq k.dirty) HP.out
        rw [hwf, log_len] at this
        exact this
      obtain ⟨⟨D2, E2⟩, he2⟩ : ∃ r, wfF D1 (homeW k.shape k.dirty) = r := ⟨_, rfl⟩
      have CF := fun v W (h : IsDisk W v D) => rfl_calls v D W h hDok hDpl.inn
      rw [← hD1, ← hE1] at CF
      have CH := fun v W (h : IsDisk W v D1) (hl : IsLfs W (.slice (some ⟨q, off, none⟩) n c) k.dirty) => rhome_calls v (.slice (some ⟨q, off, none⟩) n c) D1 k.shape k.dirty W h hpl1 hnn (by have := HII.out; omega) hl HDT.out
      rw [he2] at CH
      unfold shV at CH
      have CF := Lib.hid CF
      have CH := Lib.hid CH
      have HC1 := Lib.hid (fun h => commit_one HDD.out HNE.out (by have := HBG.out; omega) hwf h)
      have HC2 := Lib.hid (fun h => commit_two HDD.out HNE.out (by have := HBG.out; omega) hwf h he2)
      obtain ⟨i0, i1, i2, i3, i4, i5, i6, i7⟩ := HC.out.b.a.at_
      dsimp only at i0 i1 i2 i3 i4 i5 i6 i7
      have hnl : ¬ (i : Int) ≤ (n : Int) := by omega
      have hnl2 : decide ((i : Int) ≤ (n : Int)) = false := by simp; omega
      clear hall hD1 hE1 hwf hDpl hDok hpl1 he2 HW hi
      go_wp2_with fail
      (with_reducible refine (CF.out _ _ HC.out.d).mono ?_)
      rintro e wa ⟨v', rfl, hv', hBa⟩
      obtain ⟨T1, T2, T3, T4, T5, T6, rfl⟩ := hv'.parts
      obtain ⟨Z, hZ⟩ : ∃ Z, wa.alloc (.cells #[.slice T1 T2 T3, .slice T4 T5 T6, .bool D1.dead, .int .i64 D1.left] 28) = Z := ⟨_, rfl⟩
      have hbz : Below wa.heap.size wa Z := by rw [← hZ]; exact below_one _ _
      have hzb : Z.heap[wa.heap.size]? = some (.cells #[.slice T1 T2 T3, .slice T4 T5 T6, .bool D1.dead, .int .i64 D1.left] 28 (0, 0)) := by rw [← hZ]; exact heap_alloc_new wa _
      obtain ⟨GZ, hGZ⟩ : ∃ g, g = wa.heap.size := ⟨_, rfl⟩
      rw [← hGZ] at hzb
      have HCZ := Lib.hid ((HC.out.more hBa).more hbz)
      have HVZ := Lib.hid (hv'.below hbz)
      have HZB := Lib.hid hzb
      have HZ := Lib.hid hZ
      have HGZ := Lib.hid hGZ.symm
      clear i0 i1 i2 i3 i4 i5 i6 i7 hv' hBa hbz hzb hZ hGZ HC CF
      go_upto_region 20 with (fail)
      rw [HZ.out, HGZ.out]
      clear HZ HGZ
      obtain ⟨⟨y0, y1, y2, y3⟩, _⟩ := box4 HZB.out
      obtain ⟨i0, i1, i2, i3, i4, i5, i6, i7⟩ := HCZ.out.b.a.at_
      dsimp only at i0 i1 i2 i3 i4 i5 i6 i7
      have kf := HCZ.out.b.a.free
      obtain ⟨X6, e6, hb6⟩ := HCZ.out.putD HVZ.out
      have HX6 := Lib.hid e6
      have HB6 := Lib.hid hb6
      clear e6 hb6
      go_upto_region 21 with (fail)
      rw [HX6.out]
      clear y0 y1 y2 y3 i0 i1 i2 i3 i4 i5 i6 i7 kf HX6 HCZ HVZ HZB
      by_cases hE : E1 = 0
      rotate_left
      · have hE1 : (E1 == 0) = false := by simpa using hE
        have hE2 : (E1 != 0) = true := by simpa using hE
        have HO := Lib.hid (HC1.out hE)
        clear HC1 HC2 hE
        obtain ⟨i0, i1, i2, i3, i4, i5, i6, i7⟩ := HB6.out.b.a.at_
        dsimp only at i0 i1 i2 i3 i4 i5 i6 i7
        obtain ⟨X, hX, f1, f2, f3⟩ := HB6.out.fin
        dsimp only at hX f1 f3
        have HX := Lib.hid hX
        have HF := Lib.hid (And.intro f1 f2)
        have HBX := Lib.hid (box8 f3)
        obtain ⟨⟨z0, z1, z2, z3, z4, z5, z6, z7⟩, zf⟩ := box8 HB6.out.b.z
        clear hX f1 f2 f3
        go_wp2_with fail
        rw [HX.out]
        clear i0 i1 i2 i3 i4 i5 i6 i7 z0 z1 z2 z3 z4 z5 z6 z7 zf
        obtain ⟨⟨z0, z1, z2, z3, z4, z5, z6, z7⟩, _⟩ := HBX.out
        exact bodyPost_ret (v := .tuple #[.agg #[.slice T1 T2 T3, .slice T4 T5 T6, .bool D1.dead, .int .i64 D1.left, .int .i64 k.shape.pages, .int .i64 k.shape.journal, .int .i64 k.seq, .slice (some ⟨q, off, none⟩) n c], .int .i64 E1]) (by simp [results, Tryz.results40, go_sem, z0, z1, z2, z3, z4, z5, z6, z7]) rfl ⟨_, by rw [HO.out], by rw [HO.out]; exact HF.out.1, HF.out.2⟩
      subst hE
      have HC2F := Lib.hid (HC2.out rfl)
      obtain ⟨i0, i1, i2, i3, i4, i5, i6, i7⟩ := HB6.out.b.a.at_
      dsimp only at i0 i1 i2 i3 i4 i5 i6 i7
      clear HC1 HC2
      go_wp2_with fail
      (with_reducible refine (CH.out _ _ HB6.out.d HB6.out.l).mono ?_)
      rintro e wb ⟨v', rfl, hv', hBa⟩
      obtain ⟨U1, U2, U3, U4, U5, U6, rfl⟩ := hv'.parts
      have HT2 := Lib.hid (HB6.out.more hBa)
      obtain ⟨X7, e7, hb7⟩ := HT2.out.putD hv'
      have HX7 := Lib.hid e7
      have HB7 := Lib.hid hb7
      clear i0 i1 i2 i3 i4 i5 i6 i7 hv' hBa e7 hb7 HB6 CH
      obtain ⟨i0, i1, i2, i3, i4, i5, i6, i7⟩ := HT2.out.b.a.at_
      dsimp only at i0 i1 i2 i3 i4 i5 i6 i7
      have kf := HT2.out.b.a.free
      go_upto_region 24 with (fail)
      rw [HX7.out]
      clear i0 i1 i2 i3 i4 i5 i6 i7 kf HX7 HT2
      by_cases hE : E2 = 0
      rotate_left
      · have hE1 : (E2 == 0) = false := by simpa using hE
        have hE2 : (E2 != 0) = true := by simpa using hE
        rw [if_pos hE] at HC2F
        clear hE
        obtain ⟨i0, i1, i2, i3, i4, i5, i6, i7⟩ := HB7.out.b.a.at_
        dsimp only at i0 i1 i2 i3 i4 i5 i6 i7
        obtain ⟨X, hX, f1, f2, f3⟩ := HB7.out.fin
        dsimp only at hX f1 f3
        have HX := Lib.hid hX
        have HF := Lib.hid (And.intro f1 f2)
        have HBX := Lib.hid (box8 f3)
        obtain ⟨⟨z0, z1, z2, z3, z4, z5, z6, z7⟩, zf⟩ := box8 HB7.out.b.z
        clear hX f1 f2 f3
        go_wp2_with fail
        rw [HX.out]
        clear i0 i1 i2 i3 i4 i5 i6 i7 z0 z1 z2 z3 z4 z5 z6 z7 zf
        obtain ⟨⟨z0, z1, z2, z3, z4, z5, z6, z7⟩, _⟩ := HBX.out
        exact bodyPost_ret (v := .tuple #[.agg #[.slice U1 U2 U3, .slice U4 U5 U6, .bool D2.dead, .int .i64 D2.left, .int .i64 k.shape.pages, .int .i64 k.shape.journal, .int .i64 k.seq, .slice (some ⟨q, off, none⟩) n c], .int .i64 E2]) (by simp [results, Tryz.results40, go_sem, z0, z1, z2, z3, z4, z5, z6, z7]) rfl ⟨_, by rw [HC2F.out], by rw [HC2F.out]; exact HF.out.1, HF.out.2⟩
      subst hE
      rw [if_neg (by simp)] at HC2F
      obtain ⟨i0, i1, i2, i3, i4, i5, i6, i7⟩ := HB7.out.b.a.at_
      dsimp only at i0 i1 i2 i3 i4 i5 i6 i7
      have kf := HB7.out.b.a.free
      obtain ⟨Z1, hZ1, hB1⟩ := HB7.out.putS (k.seq + 1)
      obtain ⟨Z2, hZ2, hB2⟩ := hB1.putL (IsLfs.nil _)
      obtain ⟨Z3, hZ3, f1, f2, f3⟩ := hB2.fin
      dsimp only at hZ3 f1 f3
      have HZ1 := Lib.hid hZ1
      have HZ2 := Lib.hid hZ2
      have HZ3 := Lib.hid hZ3
      have HB2 := Lib.hid hB2
      have HF := Lib.hid (And.intro f1 f2)
      have HBX := Lib.hid (box8 f3)
      clear hZ1 hZ2 hZ3 f1 f2 f3 hB1 hB2
      go_upto_region 27 with (fail)
      rw [HZ1.out]
      rw [HZ2.out]
      clear i0 i1 i2 i3 i4 i5 i6 i7 kf HZ1 HZ2
      obtain ⟨i0, i1, i2, i3, i4, i5, i6, i7⟩ := HB2.out.b.a.at_
      dsimp only at i0 i1 i2 i3 i4 i5 i6 i7
      obtain ⟨⟨z0, z1, z2, z3, z4, z5, z6, z7⟩, zf⟩ := box8 HB2.out.b.z
      go_wp2_with fail
      rw [HZ3.out]
      clear i0 i1 i2 i3 i4 i5 i6 i7 z0 z1 z2 z3 z4 z5 z6 z7 zf
      obtain ⟨⟨z0, z1, z2, z3, z4, z5, z6, z7⟩, _⟩ := HBX.out
      exact bodyPost_ret (v := .tuple #[.agg #[.slice U1 U2 U3, .slice U4 U5 U6, .bool D2.dead, .int .i64 D2.left, .int .i64 k.shape.pages, .int .i64 k.shape.journal, .int .i64 (k.seq + 1), .slice none 0 0], .int .i64 0]) (by simp [results, Tryz.results40, go_sem, z0, z1, z2, z3, z4, z5, z6, z7]) rfl ⟨_, by rw [HC2F.out], by rw [HC2F.out]; exact HF.out.1, HF.out.2⟩
    have hi2 : (i : Int) ≤ (n : Int) := by omega
    have hi1 : (0 : Int) ≤ (i : Int) := by omega
    have hDpl := wrs_pl ((logL k.seq k.dirty).take i) HP.out
    rw [HW.out] at hDpl
    have hlen : ((logL k.seq k.dirty).take i).length ≤ i := by rw [List.length_take]; omega
    have hDok : D.ok := hDpl.ok hnn (by have := HII.out; have := HN.out; omega)
    obtain ⟨PL, hPL⟩ : ∃ p, p = (1 : Int) + (i : Nat) := ⟨_, rfl⟩
    obtain ⟨y, hy⟩ : ∃ y, y = entK k.seq k.dirty i := ⟨_, rfl⟩
    obtain ⟨S, hS⟩ : ∃ s, s = strB (Ent.printL y) := ⟨_, rfl⟩
    obtain ⟨D2, hD2⟩ : ∃ z, z = wrD D PL S := ⟨_, rfl⟩
    obtain ⟨E2, hE2⟩ : ∃ z, z = wrE D PL S := ⟨_, rfl⟩
    have CW : Hid (∀ v W, IsDisk W v D → Calls Tryz.prog 21 #[v, .int .i64 PL, .string S] W fun e w' => ∃ v', e = .returned (.tuple #[v', .int .i64 E2]) ∧ IsDisk w' v' D2 ∧ Below W.heap.size W w') := Lib.hid (fun v W h => by rw [hD2, hE2]; exact rwr_calls v D PL S W h hDok hDpl.rise)
    have C1 : ∀ W, Calls Tryz.prog 71 #[.int .i64 (i : Nat)] W fun e w' => e = .returned (.int .i64 PL) ∧ Below W.heap.size W w' := fun W => (rlog_calls (i : Nat) W).mono fun e w' ⟨h1, h2⟩ => ⟨by rw [h1, hPL]; congr 2; unfold logN wrap64; omega, by rw [h2]; exact Below.refl _ _⟩
    have hyd : y.data.length ≤ 240 := by
      rw [hy]
      by_cases hlt : i < k.dirty.length
      · obtain ⟨o, ho⟩ : ∃ o, k.dirty[i]? = some o := ⟨_, List.getElem?_eq_getElem hlt⟩
        rw [ent_page ho]
        exact HDT.out o (List.mem_of_getElem? ho)
      · unfold entK
        rw [if_neg hlt]
        exact Nat.zero_le _
    have C2 := fun W => Ent.rprint_calls y W hyd
    rw [← hS] at C2
    have hst := log_take (s := k.seq) (l := k.dirty) (i := i) (by have := HN.out; omega)
    rw [← hPL, ← hy, ← hS] at hst
    have hnx : wrsF k.disk ((logL k.seq k.dirty).take (i + 1)) = (D2, E2) := by rw [hst, wrs_next (by rw [HW.out]), HW.out, hD2, hE2]
    have HNW := Lib.hid hnx
    have hstop : E2 ≠ 0 → wfF k.disk (logL k.seq k.dirty) = (D2, E2) := fun he => by
      have e2 := wrs_stop (d := k.disk) (l := logL k.seq k.dirty) (k := i + 1) (by rw [hnx]; exact he)
      unfold wfF
      rw [e2, hnx, if_neg he]
    have HST := Lib.hid hstop
    obtain ⟨i0, i1, i2, i3, i4, i5, i6, i7⟩ := HC.out.b.a.at_
    dsimp only at i0 i1 i2 i3 i4 i5 i6 i7
    obtain ⟨g, hg⟩ : ∃ g, g = wr.heap.size := ⟨_, rfl⟩
    have hglo : w.heap.size + 1 < g := by rw [hg]; exact (Array.getElem?_eq_some_iff.1 HC.out.b.z).1
    have HG := Lib.hid hg.symm
    have HGL := Lib.hid hglo
    have hgq : g ≠ q := by omega
    have hqg : q ≠ g := by omega
    have C1 := Lib.hid C1
    have HY := Lib.hid hy
    clear hy
    clear hDpl hlen hDok hst hnx hstop hPL hS hD2 hE2 hyd hglo hg
    by_cases hlt : i < n
    · obtain ⟨o, ho⟩ : ∃ o, k.dirty[i]? = some o := ⟨_, List.getElem?_eq_getElem (by have := HN.out; omega)⟩
      have hye : y = ⟨k.seq, (i : Nat), false, o.no, o.data⟩ := by rw [HY.out]; exact ent_page ho
      have hlt1 : (i : Int) < (n : Int) := by omega
      have hnq : ((i : Int) == (n : Int)) = false := by simp; omega
      obtain ⟨Y, hYY⟩ : ∃ Y, wr.alloc (.cells #[.int .i64 k.seq, .int .i64 (i : Nat), .bool false, .int .i64 (n : Nat), .string ⟨#[]⟩] 55) = Y := ⟨_, rfl⟩
      have hb2 : Below wr.heap.size wr Y := by rw [← hYY]; exact below_one _ _
      have heb : EBox Y g ⟨k.seq, (i : Nat), false, (n : Nat), []⟩ := by rw [← hYY, ← HG.out]; exact EBox.new wr ⟨k.seq, (i : Nat), false, (n : Nat), []⟩
      have hcr : CRD w wr Y (.slice B1 B2 B3) (.slice B4 B5 B6) (.slice (some ⟨q, off, none⟩) n c) { k with disk := D } g ⟨k.seq, (i : Nat), false, (n : Nat), []⟩ := ⟨HC.out.more hb2, heb, hb2, HGL.out⟩
      have HY2 := Lib.hid hYY
      have HCR := Lib.hid hcr
      obtain ⟨VV, hVV, hcv⟩ := hcr.setE o.no o.data (by rw [← HG.out]; omega)
      have HVV := Lib.hid hVV
      have HCV := Lib.hid hcv
      obtain ⟨q', off', hA, hc1⟩ := home_at (W' := Y) HR.out HCR.out.b.b.below ho (by omega)
      simp only [Option.some.injEq, Addr.mk.injEq] at hA
      obtain ⟨rfl, rfl, _⟩ := hA
      have HC1 := Lib.hid hc1
      have HCVY : Hid (CRD w wr VV (.slice B1 B2 B3) (.slice B4 B5 B6) (.slice (some ⟨q, off, none⟩) n c) { k with disk := D } g y) := Lib.hid (by rw [hye]; exact hcv)
      clear hb2 heb hcr hYY hVV hcv ho hc1 hye HCV
      go_upto_region 13 with (fail)
      rw [HY2.out, HG.out]
      clear i0 i1 i2 i3 i4 i5 i6 i7 HY2
      obtain ⟨i0, i1, i2, i3, i4, i5, i6, i7⟩ := HCR.out.b.b.a.at_
      dsimp only at i0 i1 i2 i3 i4 i5 i6 i7
      obtain ⟨h0, h1⟩ := HC1.out Y (Below.refl _ _)
      obtain ⟨m0, m1, m2, m3, m4⟩ := HCR.out.e.at_
      have mf := HCR.out.e.free
      go_upto_region 14 with (fail)
      go_region
      rw [HVV.out]
      clear i0 i1 i2 i3 i4 i5 i6 i7 h0 h1 m0 m1 m2 m3 m4 mf HVV HC1
      have HT9 := Lib.hid (HCVY.out.more (Below.refl _ _).drew)
      obtain ⟨VW, hVW⟩ : ∃ VW, VW = VV.drew := ⟨_, rfl⟩
      rw [← hVW] at HT9 ⊢
      clear hVW HCVY HCR VV
      obtain ⟨VV, rfl⟩ : ∃ VV, VV = VW := ⟨_, rfl⟩
      have HT0 : Hid (CRD w VV VV (.slice B1 B2 B3) (.slice B4 B5 B6) (.slice (some ⟨q, off, none⟩) n c) { k with disk := D } g y) := Lib.hid ⟨HT9.out.b, HT9.out.e, Below.refl _ _, HT9.out.lo⟩
      clear HT9
      unfold Ent.enV at C2
      have C2 := Lib.hid C2
      go_upto_region 15 with (fail)
      have HT : Hid (CRD w VV VV.drew (.slice B1 B2 B3) (.slice B4 B5 B6) (.slice (some ⟨q, off, none⟩) n c) { k with disk := D } g y) := Lib.hid (HT0.out.more (Below.refl _ _).drew)
      have HVS : Hid (g < VV.heap.size) := Lib.hid HT0.out.e.lt
      have HTA : Hid (CRD w VV (VV.alloc (.cells #[.slice none 0 0, .slice none 0 0, .bool false, .int .i64 0] 28)).drew (.slice B1 B2 B3) (.slice B4 B5 B6) (.slice (some ⟨q, off, none⟩) n c) { k with disk := D } g y) := Lib.hid ((HT0.out.more (below_one VV _)).more (Below.refl _ _).drew)
      have HZA : Hid (NB VV (VV.alloc (.cells #[.slice none 0 0, .slice none 0 0, .bool false, .int .i64 0] 28)).drew VV.heap.size) := Lib.hid ⟨heap_alloc_new VV _, Nat.le_refl _⟩
      go_region_held3 (fun W => (W.cell? ⟨w.heap.size, 0, none⟩ = some (.slice B1 B2 B3) ∧ W.cell? ⟨w.heap.size, 1, none⟩ = some (.slice B4 B5 B6) ∧ W.cell? ⟨w.heap.size, 2, none⟩ = some (.bool D.dead) ∧ W.cell? ⟨w.heap.size, 3, none⟩ = some (.int .i64 D.left)) ∧ W.cell? ⟨g, 0, none⟩ = some (.int .i64 y.seq) ∧ W.cell? ⟨g, 1, none⟩ = some (.int .i64 y.index) ∧ W.cell? ⟨g, 2, none⟩ = some (.bool y.last) ∧ W.cell? ⟨g, 3, none⟩ = some (.int .i64 y.no) ∧ W.cell? ⟨g, 4, none⟩ = some (.string (strB y.data))) (first | with_reducible exact HT.out.cells | with_reducible exact (HT.out.more (below_one _ _)).cells | with_reducible exact HTA.out.cells | (obtain ⟨X, hX, hN⟩ := CX.store HT.out HZ.out HV.out HVS.out; rw [hX]; with_reducible exact hN.h.cells)) (first
        | (go_at_call 71; (with_reducible refine (C1.out _).mono ?_); rintro e wa ⟨rfl, hBa⟩; first
            | ((with_reducible replace HT := Lib.hid (HT.out.more hBa)); (try ((with_reducible replace HZ := Lib.hid (HZ.out.more hBa)); obtain ⟨⟨z0, z1, z2, z3⟩, e0, e1, e2, e3⟩ := box4 HZ.out.box)); clear hBa)
            | ((with_reducible have HZ := Lib.hid (HZA.out.more hBa)); (with_reducible replace HT := Lib.hid (HTA.out.more hBa)); obtain ⟨⟨z0, z1, z2, z3⟩, e0, e1, e2, e3⟩ := box4 HZ.out.box; clear hBa)
            | ((with_reducible have HZ := Lib.hid ((NB.newC HT.out).more hBa)); (with_reducible replace HT := Lib.hid ((HT.out.more (below_one _ _)).more hBa)); obtain ⟨⟨z0, z1, z2, z3⟩, e0, e1, e2, e3⟩ := box4 HZ.out.box; clear hBa))
        | (go_at_call 20; (with_reducible refine (C2.out _).mono ?_); rintro e wa ⟨rfl, hBa⟩; first
            | ((with_reducible replace HT := Lib.hid (HT.out.more hBa)); (try ((with_reducible replace HZ := Lib.hid (HZ.out.more hBa)); obtain ⟨⟨z0, z1, z2, z3⟩, e0, e1, e2, e3⟩ := box4 HZ.out.box)); clear hBa)
            | ((with_reducible have HZ := Lib.hid (HZA.out.more hBa)); (with_reducible replace HT := Lib.hid (HTA.out.more hBa)); obtain ⟨⟨z0, z1, z2, z3⟩, e0, e1, e2, e3⟩ := box4 HZ.out.box; clear hBa)
            | ((with_reducible have HZ := Lib.hid ((NB.newC HT.out).more hBa)); (with_reducible replace HT := Lib.hid ((HT.out.more (below_one _ _)).more hBa)); obtain ⟨⟨z0, z1, z2, z3⟩, e0, e1, e2, e3⟩ := box4 HZ.out.box; clear hBa))
        | (go_at_call 21; (with_reducible refine (CW.out _ _ HT.out.b.d).mono ?_); rintro e wa ⟨v', rfl, hv', hBa⟩; (with_reducible replace HT := Lib.hid (HT.out.more hBa)); (try ((with_reducible replace HZ := Lib.hid (HZ.out.more hBa)); obtain ⟨⟨z0, z1, z2, z3⟩, e0, e1, e2, e3⟩ := box4 HZ.out.box)); obtain ⟨T1, T2, T3, T4, T5, T6, rfl⟩ := hv'.parts; have HV := Lib.hid hv'; clear hv' hBa)
        | (go_at_call 21; (with_reducible refine (CW.out _ _ (HT.out.more (below_one _ _)).b.d).mono ?_); rintro e wa ⟨v', rfl, hv', hBa⟩; (with_reducible have HZ := Lib.hid ((NB.newC HT.out).more hBa)); (with_reducible replace HT := Lib.hid ((HT.out.more (below_one _ _)).more hBa)); obtain ⟨⟨z0, z1, z2, z3⟩, e0, e1, e2, e3⟩ := box4 HZ.out.box; obtain ⟨T1, T2, T3, T4, T5, T6, rfl⟩ := hv'.parts; have HV := Lib.hid hv'; clear hv' hBa))
      all_goals
        (rename_i hheld; clear hheld)
        first
          | (obtain ⟨X, eX, hNX⟩ := CX.fresh HT.out HV.out; rw [eX])
          | (obtain ⟨X, eX, hNX⟩ := CX.store HT.out HZ.out HV.out HVS.out; rw [eX])
        have HNX := Lib.hid hNX
        clear eX hNX
        obtain ⟨⟨z0, z1, z2, z3⟩, _⟩ := box4 HNX.out.box
        obtain ⟨i0, i1, i2, i3, i4, i5, i6, i7⟩ := HNX.out.h.b.b.a.at_
        have kf := HNX.out.h.b.b.a.free
        obtain ⟨X6, e6, hb6⟩ := HNX.out.h.b.putD HNX.out.isd
        have HX6 := Lib.hid e6
        have HB6 := Lib.hid hb6
        clear e6 hb6
        (try dsimp only at i2 i3)
        by_cases hE : E2 = 0
        · have hE1 : (E2 == 0) = true := by simpa using hE
          go_wp2_with fail
          rw [HX6.out]
          exact ⟨⟨i + 1, D2, _, _, _, _, _, _, by omega, by go_num, by rw [HNW.out, hE], HB6.out⟩, by simp [intOf]; omega⟩
        · have hE1 : (E2 == 0) = false := by simpa using hE
          have hfin := HST.out hE
          have HF0 := Lib.hid (commit_one HDD.out HNE.out (by have := HBG.out; omega) hfin hE)
          go_upto_region 17 with (fail)
          rw [HX6.out]
          clear z0 z1 z2 z3 i0 i1 i2 i3 i4 i5 i6 i7 kf HX6 hfin
          obtain ⟨i0, i1, i2, i3, i4, i5, i6, i7⟩ := HB6.out.b.a.at_
          dsimp only at i0 i1 i2 i3 i4 i5 i6 i7
          obtain ⟨X, hX, f1, f2, f3⟩ := HB6.out.fin
          dsimp only at hX f1 f3
          have HX := Lib.hid hX
          have HF := Lib.hid (And.intro f1 f2)
          have HBX := Lib.hid (box8 f3)
          obtain ⟨⟨z0, z1, z2, z3, z4, z5, z6, z7⟩, zf⟩ := box8 HB6.out.b.z
          clear hX f1 f2 f3
          go_wp2_with fail
          rw [HX.out]
          clear i0 i1 i2 i3 i4 i5 i6 i7 z0 z1 z2 z3 z4 z5 z6 z7 zf
          obtain ⟨⟨z0, z1, z2, z3, z4, z5, z6, z7⟩, _⟩ := HBX.out
          exact bodyPost_ret (v := .tuple #[.agg #[.slice T1 T2 T3, .slice T4 T5 T6, .bool D2.dead, .int .i64 D2.left, .int .i64 k.shape.pages, .int .i64 k.shape.journal, .int .i64 k.seq, .slice (some ⟨q, off, none⟩) n c], .int .i64 E2]) (by simp [results, Tryz.results40, go_sem, z0, z1, z2, z3, z4, z5, z6, z7]) rfl ⟨_, by rw [HF0.out], by rw [HF0.out]; exact HF.out.1, HF.out.2⟩
    · have hin : i = n := by omega
      have hye : y = ⟨k.seq, (i : Nat), true, (n : Nat), []⟩ := by
        rw [HY.out]
        have := ent_last (s := k.seq) (l := k.dirty)
        rw [← HN.out] at this
        rw [hin]
        exact this
      have hlt1 : ¬ (i : Int) < (n : Int) := by omega
      have hnq : ((i : Int) == (n : Int)) = true := by simp; omega
      obtain ⟨VV, hYY⟩ : ∃ Y, wr.alloc (.cells #[.int .i64 k.seq, .int .i64 (i : Nat), .bool true, .int .i64 (n : Nat), .string ⟨#[]⟩] 55) = Y := ⟨_, rfl⟩
      have hb2 : Below wr.heap.size wr VV := by rw [← hYY]; exact below_one _ _
      have heb : EBox VV g ⟨k.seq, (i : Nat), true, (n : Nat), []⟩ := by rw [← hYY, ← HG.out]; exact EBox.new wr ⟨k.seq, (i : Nat), true, (n : Nat), []⟩
      have HT0 : Hid (CRD w VV VV (.slice B1 B2 B3) (.slice B4 B5 B6) (.slice (some ⟨q, off, none⟩) n c) { k with disk := D } g y) := Lib.hid ⟨HC.out.more hb2, by rw [hye]; exact heb, Below.refl _ _, HGL.out⟩
      have HY2 := Lib.hid hYY
      have HIN := Lib.hid hin
      clear hb2 heb hYY hin hye
      unfold Ent.enV at C2
      have C2 := Lib.hid C2
      go_upto_region 13 with (fail)
      rw [HY2.out, HG.out]
      clear i0 i1 i2 i3 i4 i5 i6 i7 HY2
      go_upto_region 15 with (fail)
      have HT : Hid (CRD w VV VV.drew (.slice B1 B2 B3) (.slice B4 B5 B6) (.slice (some ⟨q, off, none⟩) n c) { k with disk := D } g y) := Lib.hid (HT0.out.more (Below.refl _ _).drew)
      have HVS : Hid (g < VV.heap.size) := Lib.hid HT0.out.e.lt
      have HTA : Hid (CRD w VV (VV.alloc (.cells #[.slice none 0 0, .slice none 0 0, .bool false, .int .i64 0] 28)).drew (.slice B1 B2 B3) (.slice B4 B5 B6) (.slice (some ⟨q, off, none⟩) n c) { k with disk := D } g y) := Lib.hid ((HT0.out.more (below_one VV _)).more (Below.refl _ _).drew)
      have HZA : Hid (NB VV (VV.alloc (.cells #[.slice none 0 0, .slice none 0 0, .bool false, .int .i64 0] 28)).drew VV.heap.size) := Lib.hid ⟨heap_alloc_new VV _, Nat.le_refl _⟩
      go_region_held3 (fun W => (W.cell? ⟨w.heap.size, 0, none⟩ = some (.slice B1 B2 B3) ∧ W.cell? ⟨w.heap.size, 1, none⟩ = some (.slice B4 B5 B6) ∧ W.cell? ⟨w.heap.size, 2, none⟩ = some (.bool D.dead) ∧ W.cell? ⟨w.heap.size, 3, none⟩ = some (.int .i64 D.left)) ∧ W.cell? ⟨g, 0, none⟩ = some (.int .i64 y.seq) ∧ W.cell? ⟨g, 1, none⟩ = some (.int .i64 y.index) ∧ W.cell? ⟨g, 2, none⟩ = some (.bool y.last) ∧ W.cell? ⟨g, 3, none⟩ = some (.int .i64 y.no) ∧ W.cell? ⟨g, 4, none⟩ = some (.string (strB y.data))) (first | with_reducible exact HT.out.cells | with_reducible exact (HT.out.more (below_one _ _)).cells | with_reducible exact HTA.out.cells | (obtain ⟨X, hX, hN⟩ := CX.store HT.out HZ.out HV.out HVS.out; rw [hX]; with_reducible exact hN.h.cells)) (first
        | (go_at_call 71; (with_reducible refine (C1.out _).mono ?_); rintro e wa ⟨rfl, hBa⟩; first
            | ((with_reducible replace HT := Lib.hid (HT.out.more hBa)); (try ((with_reducible replace HZ := Lib.hid (HZ.out.more hBa)); obtain ⟨⟨z0, z1, z2, z3⟩, e0, e1, e2, e3⟩ := box4 HZ.out.box)); clear hBa)
            | ((with_reducible have HZ := Lib.hid (HZA.out.more hBa)); (with_reducible replace HT := Lib.hid (HTA.out.more hBa)); obtain ⟨⟨z0, z1, z2, z3⟩, e0, e1, e2, e3⟩ := box4 HZ.out.box; clear hBa)
            | ((with_reducible have HZ := Lib.hid ((NB.newC HT.out).more hBa)); (with_reducible replace HT := Lib.hid ((HT.out.more (below_one _ _)).more hBa)); obtain ⟨⟨z0, z1, z2, z3⟩, e0, e1, e2, e3⟩ := box4 HZ.out.box; clear hBa))
        | (go_at_call 20; (with_reducible refine (C2.out _).mono ?_); rintro e wa ⟨rfl, hBa⟩; first
            | ((with_reducible replace HT := Lib.hid (HT.out.more hBa)); (try ((with_reducible replace HZ := Lib.hid (HZ.out.more hBa)); obtain ⟨⟨z0, z1, z2, z3⟩, e0, e1, e2, e3⟩ := box4 HZ.out.box)); clear hBa)
            | ((with_reducible have HZ := Lib.hid (HZA.out.more hBa)); (with_reducible replace HT := Lib.hid (HTA.out.more hBa)); obtain ⟨⟨z0, z1, z2, z3⟩, e0, e1, e2, e3⟩ := box4 HZ.out.box; clear hBa)
            | ((with_reducible have HZ := Lib.hid ((NB.newC HT.out).more hBa)); (with_reducible replace HT := Lib.hid ((HT.out.more (below_one _ _)).more hBa)); obtain ⟨⟨z0, z1, z2, z3⟩, e0, e1, e2, e3⟩ := box4 HZ.out.box; clear hBa))
        | (go_at_call 21; (with_reducible refine (CW.out _ _ HT.out.b.d).mono ?_); rintro e wa ⟨v', rfl, hv', hBa⟩; (with_reducible replace HT := Lib.hid (HT.out.more hBa)); (try ((with_reducible replace HZ := Lib.hid (HZ.out.more hBa)); obtain ⟨⟨z0, z1, z2, z3⟩, e0, e1, e2, e3⟩ := box4 HZ.out.box)); obtain ⟨T1, T2, T3, T4, T5, T6, rfl⟩ := hv'.parts; have HV := Lib.hid hv'; clear hv' hBa)
        | (go_at_call 21; (with_reducible refine (CW.out _ _ (HT.out.more (below_one _ _)).b.d).mono ?_); rintro e wa ⟨v', rfl, hv', hBa⟩; (with_reducible have HZ := Lib.hid ((NB.newC HT.out).more hBa)); (with_reducible replace HT := Lib.hid ((HT.out.more (below_one _ _)).more hBa)); obtain ⟨⟨z0, z1, z2, z3⟩, e0, e1, e2, e3⟩ := box4 HZ.out.box; obtain ⟨T1, T2, T3, T4, T5, T6, rfl⟩ := hv'.parts; have HV := Lib.hid hv'; clear hv' hBa))
      all_goals
        (rename_i hheld; clear hheld)
        first
          | (obtain ⟨X, eX, hNX⟩ := CX.fresh HT.out HV.out; rw [eX])
          | (obtain ⟨X, eX, hNX⟩ := CX.store HT.out HZ.out HV.out HVS.out; rw [eX])
        have HNX := Lib.hid hNX
        clear eX hNX
        obtain ⟨⟨z0, z1, z2, z3⟩, _⟩ := box4 HNX.out.box
        obtain ⟨i0, i1, i2, i3, i4, i5, i6, i7⟩ := HNX.out.h.b.b.a.at_
        have kf := HNX.out.h.b.b.a.free
        obtain ⟨X6, e6, hb6⟩ := HNX.out.h.b.putD HNX.out.isd
        have HX6 := Lib.hid e6
        have HB6 := Lib.hid hb6
        clear e6 hb6
        (try dsimp only at i2 i3)
        by_cases hE : E2 = 0
        · have hE1 : (E2 == 0) = true := by simpa using hE
          go_wp2_with fail
          rw [HX6.out]
          exact ⟨⟨i + 1, D2, _, _, _, _, _, _, by omega, by go_num, by rw [HNW.out, hE], HB6.out⟩, by simp [intOf]; omega⟩
        · have hE1 : (E2 == 0) = false := by simpa using hE
          have hfin := HST.out hE
          have HF0 := Lib.hid (commit_one HDD.out HNE.out (by have := HBG.out; omega) hfin hE)
          go_upto_region 17 with (fail)
          rw [HX6.out]
          clear z0 z1 z2 z3 i0 i1 i2 i3 i4 i5 i6 i7 kf HX6 hfin
          obtain ⟨i0, i1, i2, i3, i4, i5, i6, i7⟩ := HB6.out.b.a.at_
          dsimp only at i0 i1 i2 i3 i4 i5 i6 i7
          obtain ⟨X, hX, f1, f2, f3⟩ := HB6.out.fin
          dsimp only at hX f1 f3
          have HX := Lib.hid hX
          have HF := Lib.hid (And.intro f1 f2)
          have HBX := Lib.hid (box8 f3)
          obtain ⟨⟨z0, z1, z2, z3, z4, z5, z6, z7⟩, zf⟩ := box8 HB6.out.b.z
          clear hX f1 f2 f3
          go_wp2_with fail
          rw [HX.out]
          clear i0 i1 i2 i3 i4 i5 i6 i7 z0 z1 z2 z3 z4 z5 z6 z7 zf
          obtain ⟨⟨z0, z1, z2, z3, z4, z5, z6, z7⟩, _⟩ := HBX.out
          exact bodyPost_ret (v := .tuple #[.agg #[.slice T1 T2 T3, .slice T4 T5 T6, .bool D2.dead, .int .i64 D2.left, .int .i64 k.shape.pages, .int .i64 k.shape.journal, .int .i64 k.seq, .slice (some ⟨q, off, none⟩) n c], .int .i64 E2]) (by simp [results, Tryz.results40, go_sem, z0, z1, z2, z3, z4, z5, z6, z7]) rfl ⟨_, by rw [HF0.out], by rw [HF0.out]; exact HF.out.1, HF.out.2⟩

end Go.Proofs.YtnbbijpmkhdgpaaGreat.Vlt
