/- Contracts and plain mathematics that the statement's proof wants: no statement is proved here, nothing is assumed. -/
import Derived.Deep.RegionHeld3
import Derived.Deep.RegionWith
import Derived.Deep.Cut
import Derived.Deep.CutRange
import Derived.Test.YtnbbijpmkhdgpaaGreatMg16
import Derived.Test.YtnbbijpmkhdgpaaGreatMg17
import Derived.Test.YtnbbijpmkhdgpaaGreatMg24
import Derived.Test.YtnbbijpmkhdgpaaGreatMg27
/- PForm -/
namespace Go.Proofs.YtnbbijpmkhdgpaaGreat.Vlt
open Go.RowKit Go.Sort
open Dsk

/-- The boxes of Format: the answer's, the shape's, the disk's. -/
structure FB (w W : World) (x : Sh) (G : Nat) (vs vw : Value) (d : DK) : Prop where
  zv : W.heap[w.heap.size]? = some (.cells #[.slice none 0 0, .slice none 0 0, .bool false, .int .i64 0, .int .i64 0, .int .i64 0, .int .i64 0, .slice none 0 0] 33 (0, 0))
  sh : SBox W (w.heap.size + 1) x
  dk : W.heap[G]? = some (.cells #[vs, vw, .bool d.dead, .int .i64 d.left] 28 (0, 0))
  isd : IsDisk W (.agg #[vs, vw, .bool d.dead, .int .i64 d.left]) d
  below : Below w.heap.size w W
  far : w.heap.size + 1 < G
section
variable {w W W' : World} {x : Sh} {G : Nat} {vs vw us uw : Value} {d e : DK}
theorem FB.more (h : FB w W x G vs vw d) (k : Below W.heap.size W W') : FB w W' x G vs vw d :=
  ⟨box_kept _ h.zv k, h.sh.below k, box_kept _ h.dk k, h.isd.below k, Dsk.below_trans' h.below k, h.far⟩
theorem FB.cells (h : FB w W x G vs vw d) : (W.cell? ⟨G, 0, none⟩ = some vs ∧ W.cell? ⟨G, 1, none⟩ = some vw ∧ W.cell? ⟨G, 2, none⟩ = some (.bool d.dead) ∧ W.cell? ⟨G, 3, none⟩ = some (.int .i64 d.left)) ∧
    W.cell? ⟨w.heap.size + 1, 0, none⟩ = some (.int .i64 x.pages) ∧ W.cell? ⟨w.heap.size + 1, 1, none⟩ = some (.int .i64 x.journal) := ⟨(box4 h.dk).1, h.sh.c0, h.sh.c1⟩
theorem FB.put (h : FB w W x G vs vw d) (hv : IsDisk W (.agg #[us, uw, .bool e.dead, .int .i64 e.left]) e) :
    ∃ X, (((W.setCell ⟨G, 0, none⟩ us).setCell ⟨G, 1, none⟩ uw).setCell ⟨G, 2, none⟩ (.bool e.dead)).setCell ⟨G, 3, none⟩ (.int .i64 e.left) = X ∧ FB w X x G us uw e := by
  obtain ⟨X, hX, hb, hk, hB⟩ := box_store4 h.dk us uw (.bool e.dead) (.int .i64 e.left)
  have hf := h.far
  exact ⟨X, hX, (hk _ (by omega)).trans h.zv, h.sh.keep (hk _ (by omega)), hb, hv.other h.dk (by decide) (by decide) hk, hB _ _ h.below (by omega), h.far⟩
theorem FB.fin (h : FB w W x G vs vw d) (s : Int) :
    ∃ X, (((((((W.setCell ⟨w.heap.size, 0, none⟩ vs).setCell ⟨w.heap.size, 1, none⟩ vw).setCell ⟨w.heap.size, 2, none⟩ (.bool d.dead)).setCell ⟨w.heap.size, 3, none⟩ (.int .i64 d.left)).setCell ⟨w.heap.size, 4, none⟩ (.int .i64 x.pages)).setCell ⟨w.heap.size, 5, none⟩ (.int .i64 x.journal)).setCell ⟨w.heap.size, 6, none⟩ (.int .i64 s)).setCell ⟨w.heap.size, 7, none⟩ (.slice none 0 0) = X ∧
      IsVault X (.agg #[vs, vw, .bool d.dead, .int .i64 d.left, .int .i64 x.pages, .int .i64 x.journal, .int .i64 s, .slice none 0 0]) ⟨d, x, s, []⟩ ∧ Below w.heap.size w X ∧
      X.heap[w.heap.size]? = some (.cells #[vs, vw, .bool d.dead, .int .i64 d.left, .int .i64 x.pages, .int .i64 x.journal, .int .i64 s, .slice none 0 0] 33 (0, 0)) := by
  obtain ⟨X, hX, hbX, hkX, hBX⟩ := box_store8 h.zv vs vw (.bool d.dead) (.int .i64 d.left) (.int .i64 x.pages) (.int .i64 x.journal) (.int .i64 s) (.slice none 0 0)
  exact ⟨X, hX, ⟨_, _, _, rfl, h.isd.other h.zv (by decide) (by decide) hkX, IsLfs.nil _⟩, hBX _ _ h.below (Nat.le_refl _), hbX⟩
end

theorem box_one {W : World} {a : Int} {s : ByteArray} : SL (W.alloc (.cells #[.int .i64 a, .string s] 72)) 72 2 (.slice (some ⟨W.heap.size, 0, none⟩) 1 1) 1 (wetCells [(a, s)]) := by
  refine ⟨some ⟨W.heap.size, 0, none⟩, 1, rfl, Nat.le_refl _, rfl, fun _ => ⟨W.heap.size, 0, _, _, rfl, heap_alloc_new W _, fun j u hj => ?_⟩⟩
  rw [wetCells_one] at hj
  rw [Nat.zero_add]
  simpa using hj

set_option maxRecDepth 100000 in
set_option maxHeartbeats 8000000 in
/-- A shape that may be. -/
theorem format_ok (x : Sh) (w : World) (hx : rightS x = true) :
    Calls Tryz.prog 11 #[.int .i64 x.pages, .int .i64 x.journal] w fun e w' => ∃ v', e = .returned (.tuple #[v', .int .i64 0]) ∧ IsVault w' v' (formatV x) ∧ Below w.heap.size w w' := by
  obtain ⟨a, b, c, e', f, g'⟩ := right_nat hx
  obtain ⟨D0, hD0⟩ : ∃ D, D = newD (NN x) := ⟨_, rfl⟩
  have hp0 : Pl (NN x) 0 D0 := by rw [hD0]; exact ⟨newD_good _, rising_nil, wetIn_nil rfl⟩
  have h00 : D0.dead = false ∧ D0.left = -1 ∧ D0.wet = [] := by rw [hD0]; exact ⟨rfl, rfl, rfl⟩
  have hw : WsOk (NN x) [((0 : Int), strB (printL x))] := by
    intro p hp
    rw [List.mem_singleton.1 hp]
    exact ⟨Int.le_refl _, by unfold NN; dsimp only; omega, by rw [strB_size, print_len]⟩
  obtain ⟨N, hN⟩ : ∃ N, N = NN x := ⟨_, rfl⟩
  have hN1 : 1 ≤ N := by rw [hN]; unfold NN; omega
  have hN2 : N ≤ 2000 := by rw [hN]; unfold NN; omega
  have hNx : placeN x x.pages = (N : Nat) := by rw [hN]; exact size_nat hx
  have hfm : (formatV x).disk = (wfF D0 [((0 : Int), strB (printL x))]).1 := by
    obtain ⟨w1, _⟩ := wrs_left [((0 : Int), strB (printL x))] hp0 h00.1 h00.2.1 hw
    unfold wfF
    rw [if_pos w1]
    unfold formatV
    have hN' : (sizeX x).toNat = NN x := by rw [size_nat hx]; rfl
    rw [hN', ← hD0]
    dsimp only
    have : (wrsF D0 [((0 : Int), strB (printL x))]).1 = wrD D0 0 (strB (printL x)) := by
      unfold wrsF
      split <;> rfl
    rw [this]
  obtain ⟨w1, w2⟩ := wf_left hp0 h00.1 h00.2.1 hw
  obtain ⟨S, hS⟩ : ∃ S, S = strB (printL x) := ⟨_, rfl⟩
  rw [← hS] at hfm w1
  obtain ⟨D1, hD1⟩ : ∃ D, D = (formatV x).disk := ⟨_, rfl⟩
  have hfv : formatV x = ⟨D1, x, 1, []⟩ := by rw [hD1]; rfl
  have hwe : wfF D0 [((0 : Int), S)] = (D1, 0) := Prod.ext (by rw [hD1, hfm]) w1
  rw [hfv]
  rw [← hN] at hp0
  have CN := new_calls N hN1 hN2
  rw [hN, ← hD0, ← hN] at CN
  have CR := right_calls x
  rw [hx] at CR
  have CZ := size_calls x
  rw [hNx] at CZ
  have CP := print_calls x
  rw [← hS] at CP
  have CE : ∀ u vl W, IsDisk W u D0 → SL W 72 2 vl 1 (wetCells [((0 : Int), S)]) → Calls Tryz.prog 31 #[u, vl] W fun e w' => ∃ v', e = .returned (.tuple #[v', .int .i64 0]) ∧ IsDisk w' v' D1 ∧ Below W.heap.size W w' := fun u vl W p q => by
    have := settle_calls u vl D0 [((0 : Int), S)] W p hp0 hN2 (by simp) q
    rw [hwe] at this
    exact this
  unfold shV at CR CZ CP
  have CN := Lib.hid CN
  have CR := Lib.hid CR
  have CZ := Lib.hid CZ
  have CP := Lib.hid CP
  have CE := Lib.hid CE
  obtain ⟨Y1, hY1⟩ : ∃ Y1, Y1 = w.alloc (.cells #[.slice none 0 0, .slice none 0 0, .bool false, .int .i64 0, .int .i64 0, .int .i64 0, .int .i64 0, .slice none 0 0] 33) := ⟨_, rfl⟩
  obtain ⟨Y, hY⟩ : ∃ Y, Y = Y1.alloc (.cells #[.int .i64 x.pages, .int .i64 x.journal] 30) := ⟨_, rfl⟩
  have hs1 : Y1.heap.size = w.heap.size + 1 := by rw [hY1]; simp
  have hzv : Y.heap[w.heap.size]? = some (.cells #[.slice none 0 0, .slice none 0 0, .bool false, .int .i64 0, .int .i64 0, .int .i64 0, .int .i64 0, .slice none 0 0] 33 (0, 0)) := by
    rw [hY]
    refine box_kept _ ?_ (below_one _ _)
    rw [hY1]
    exact heap_alloc_new w _
  have hsh : SBox Y (w.heap.size + 1) x := by rw [← hs1, hY]; exact SBox.new _ _
  have hB : Below w.heap.size w Y := by rw [hY, hY1]; exact Dsk.below_trans' (below_one _ _) (below_one _ _)
  have HY1 := Lib.hid hY1
  have HY := Lib.hid hY
  have HZV := Lib.hid hzv
  have HSH := Lib.hid hsh
  have HB := Lib.hid hB
  have HS1 := Lib.hid hs1
  clear a b c e' f g' hD0 hp0 h00 hw hN hN1 hN2 hNx hfm w1 w2 hS hD1 hfv hwe hY1 hY hs1 hzv hsh hB hx
  go_enter Tryz.func11, Tryz.ntmps11
  go_upto_region 1 with (fail)
  rw [← HY1.out]
  go_upto_region 2 with (fail)
  rw [← HY.out, HS1.out]
  clear HY HY1
  have t0 := HSH.out.c0
  have t1 := HSH.out.c1
  go_wp2_with fail
  (with_reducible refine (CR.out _).mono ?_)
  rintro e w1 ⟨rfl, hB1⟩
  have HB1 := Lib.hid (Dsk.below_trans' HB.out hB1)
  have HSH1 := Lib.hid (HSH.out.below hB1)
  have HZV1 := Lib.hid (box_kept _ HZV.out hB1)
  clear t0 t1 hB1
  have t0 := HSH1.out.c0
  have t1 := HSH1.out.c1
  go_wp2_with fail
  (with_reducible refine (CZ.out _).mono ?_)
  rintro e w2 ⟨rfl, hB2⟩
  have HB2 := Lib.hid (Dsk.below_trans' HB1.out hB2)
  have HSH2 := Lib.hid (HSH1.out.below hB2)
  have HZV2 := Lib.hid (box_kept _ HZV1.out hB2)
  clear t0 t1 hB2
  go_wp2_with fail
  (with_reducible refine (CN.out _).mono ?_)
  rintro e w3 ⟨v, rfl, hv, hB3⟩
  obtain ⟨X1, X2, X3, X4, X5, X6, rfl⟩ := hv.parts
  obtain ⟨Y5, hY5⟩ : ∃ Y5, Y5 = w3.alloc (.cells #[.slice X1 X2 X3, .slice X4 X5 X6, .bool D0.dead, .int .i64 D0.left] 28) := ⟨_, rfl⟩
  have hb5 : Below w3.heap.size w3 Y5 := by rw [hY5]; exact below_one _ _
  have hfb : FB w Y5 x w3.heap.size (.slice X1 X2 X3) (.slice X4 X5 X6) D0 :=
    ⟨box_kept _ (box_kept _ HZV2.out hB3) hb5, (HSH2.out.below hB3).below hb5, by rw [hY5]; exact heap_alloc_new w3 _, hv.below hb5, Dsk.below_trans' (Dsk.below_trans' HB2.out hB3) hb5, (HSH2.out.below hB3).lt⟩
  have HY5 := Lib.hid hY5
  obtain ⟨G, hG⟩ : ∃ G, G = w3.heap.size := ⟨_, rfl⟩
  rw [← hG] at hfb
  have HT0 := Lib.hid hfb
  have HG := Lib.hid hG.symm
  clear hv hB3 hY5 hb5 hfb hG HSH HSH1 HSH2 HZV HZV1 HZV2 HB HB1 HB2
  go_upto_region 5 with (fail)
  rw [← HY5.out]
  rw [HG.out]
  clear HY5 HG
  go_upto_region 7 with (fail)
  go_cut [8] from 26 to 34 (fun s8 wx => s8 = .int .i64 0 ∧ ∃ (T1 : Option Addr) (T2 T3 : Nat) (T4 : Option Addr) (T5 T6 : Nat), FB w wx x G (.slice T1 T2 T3) (.slice T4 T5 T6) D1)
  case first =>
    have HT := Lib.hid (HT0.out.more (Below.refl _ _).drew)
    obtain ⟨⟨p0, p1, p2, p3⟩, t0, t1⟩ := HT.out.cells
    have q0 := fun o => ((HT.out.more (below_one _ o)).cells).1.1
    have q1 := fun o => ((HT.out.more (below_one _ o)).cells).1.2.1
    have q2 := fun o => ((HT.out.more (below_one _ o)).cells).1.2.2.1
    have q3 := fun o => ((HT.out.more (below_one _ o)).cells).1.2.2.2
    go_region_with (first
      | (go_at_call 32; (with_reducible refine (CP.out _).mono ?_); rintro e wa ⟨rfl, hBa⟩; (with_reducible replace HT := Lib.hid (HT.out.more hBa)); clear hBa p0 p1 p2 p3 t0 t1 q0 q1 q2 q3; obtain ⟨⟨p0, p1, p2, p3⟩, t0, t1⟩ := HT.out.cells; have q0 := fun o => ((HT.out.more (below_one _ o)).cells).1.1; have q1 := fun o => ((HT.out.more (below_one _ o)).cells).1.2.1; have q2 := fun o => ((HT.out.more (below_one _ o)).cells).1.2.2.1; have q3 := fun o => ((HT.out.more (below_one _ o)).cells).1.2.2.2)
      | (go_at_call 31; (with_reducible refine (CE.out _ _ _ ((HT.out.more (below_one _ _)).isd) box_one).mono ?_); rintro e wa ⟨v', rfl, hv', hBa⟩; (with_reducible replace HT := Lib.hid ((HT.out.more (below_one _ _)).more hBa)); clear hBa p0 p1 p2 p3 t0 t1 q0 q1 q2 q3; obtain ⟨T1, T2, T3, T4, T5, T6, rfl⟩ := hv'.parts; have HV := Lib.hid hv'; clear hv'; obtain ⟨⟨p0, p1, p2, p3⟩, t0, t1⟩ := HT.out.cells; have q0 := fun o => ((HT.out.more (below_one _ o)).cells).1.1; have q1 := fun o => ((HT.out.more (below_one _ o)).cells).1.2.1; have q2 := fun o => ((HT.out.more (below_one _ o)).cells).1.2.2.1; have q3 := fun o => ((HT.out.more (below_one _ o)).cells).1.2.2.2; obtain ⟨_, f0, f1, f2, f3⟩ := box4 HT.out.dk))
    all_goals
      go_wp2_with fail
      go_meet
      case rel => exact ⟨rfl, T1, T2, T3, T4, T5, T6, by obtain ⟨X, hX, hC⟩ := HT.out.put HV.out; rw [hX]; exact hC⟩
  case rest =>
    obtain ⟨rfl, T1, T2, T3, T4, T5, T6, hfb⟩ := hcut
    clear HT0 CP CE
    have HT := Lib.hid hfb
    clear hfb
    obtain ⟨X, hX, f1, f2, f3⟩ := HT.out.fin 1
    have HX := Lib.hid hX
    have HF := Lib.hid (And.intro f1 f2)
    have HBX := Lib.hid (box8 f3)
    obtain ⟨⟨p0, p1, p2, p3⟩, t0, t1⟩ := HT.out.cells
    obtain ⟨⟨z0, z1, z2, z3, z4, z5, z6, z7⟩, zf⟩ := box8 HT.out.zv
    clear hX f1 f2 f3
    go_wp2_with fail
    rw [HX.out]
    clear p0 p1 p2 p3 t0 t1 z0 z1 z2 z3 z4 z5 z6 z7 zf
    obtain ⟨⟨z0, z1, z2, z3, z4, z5, z6, z7⟩, _⟩ := HBX.out
    exact bodyPost_ret (v := .tuple #[.agg #[.slice T1 T2 T3, .slice T4 T5 T6, .bool D1.dead, .int .i64 D1.left, .int .i64 x.pages, .int .i64 x.journal, .int .i64 1, .slice none 0 0], .int .i64 0]) (by simp [results, Tryz.results11, go_sem, z0, z1, z2, z3, z4, z5, z6, z7]) rfl ⟨_, rfl, HF.out.1, HF.out.2⟩

set_option maxRecDepth 100000 in
set_option maxHeartbeats 4000000 in
/-- A shape that may not be. -/
theorem format_bad (x : Sh) (w : World) (hx : rightS x = false) :
    Calls Tryz.prog 11 #[.int .i64 x.pages, .int .i64 x.journal] w fun e w' => ∃ v', e = .returned (.tuple #[v', .int .i64 1]) ∧ IsVault w' v' zeroV ∧ Below w.heap.size w w' := by
  have CR := right_calls x
  rw [hx] at CR
  unfold shV at CR
  have CR := Lib.hid CR
  obtain ⟨Y1, hY1⟩ : ∃ Y1, Y1 = w.alloc (.cells #[.slice none 0 0, .slice none 0 0, .bool false, .int .i64 0, .int .i64 0, .int .i64 0, .int .i64 0, .slice none 0 0] 33) := ⟨_, rfl⟩
  obtain ⟨Y, hY⟩ : ∃ Y, Y = Y1.alloc (.cells #[.int .i64 x.pages, .int .i64 x.journal] 30) := ⟨_, rfl⟩
  have hs1 : Y1.heap.size = w.heap.size + 1 := by rw [hY1]; simp
  have hzv : Y.heap[w.heap.size]? = some (.cells #[.slice none 0 0, .slice none 0 0, .bool false, .int .i64 0, .int .i64 0, .int .i64 0, .int .i64 0, .slice none 0 0] 33 (0, 0)) := by
    rw [hY]
    refine box_kept _ ?_ (below_one _ _)
    rw [hY1]
    exact heap_alloc_new w _
  have hsh : SBox Y (w.heap.size + 1) x := by rw [← hs1, hY]; exact SBox.new _ _
  have hB : Below w.heap.size w Y := by rw [hY, hY1]; exact Dsk.below_trans' (below_one _ _) (below_one _ _)
  have HY1 := Lib.hid hY1
  have HY := Lib.hid hY
  have HZV := Lib.hid hzv
  have HB := Lib.hid hB
  have HS1 := Lib.hid hs1
  have t0 := hsh.c0
  have t1 := hsh.c1
  clear hY1 hY hs1 hzv hsh hB hx
  go_enter Tryz.func11, Tryz.ntmps11
  go_upto_region 1 with (fail)
  rw [← HY1.out]
  go_upto_region 2 with (fail)
  rw [← HY.out, HS1.out]
  clear HY HY1
  go_wp2_with fail
  (with_reducible refine (CR.out _).mono ?_)
  rintro e w1 ⟨rfl, hB1⟩
  have hz := box_kept _ HZV.out hB1
  obtain ⟨X, hX, hbX, hkX, hBX⟩ := box_store8 hz (.slice none 0 0) (.slice none 0 0) (.bool false) (.int .i64 0) (.int .i64 0) (.int .i64 0) (.int .i64 0) (.slice none 0 0)
  have HX := Lib.hid hX
  have HF := Lib.hid (hBX _ _ (Dsk.below_trans' HB.out hB1) (Nat.le_refl _))
  have HBX := Lib.hid (box8 hbX)
  obtain ⟨⟨z0, z1, z2, z3, z4, z5, z6, z7⟩, zf⟩ := box8 hz
  clear hz hX hbX hkX hBX hB1 t0 t1
  go_wp2_with fail
  rw [HX.out]
  clear z0 z1 z2 z3 z4 z5 z6 z7 zf
  obtain ⟨⟨z0, z1, z2, z3, z4, z5, z6, z7⟩, _⟩ := HBX.out
  exact bodyPost_ret (v := .tuple #[.agg #[.slice none 0 0, .slice none 0 0, .bool false, .int .i64 0, .int .i64 0, .int .i64 0, .int .i64 0, .slice none 0 0], .int .i64 1]) (by simp [results, Tryz.results11, go_sem, z0, z1, z2, z3, z4, z5, z6, z7]) rfl ⟨_, rfl, ⟨_, _, _, rfl, zero_disk _, IsLfs.nil _⟩, HF.out⟩

end Go.Proofs.YtnbbijpmkhdgpaaGreat.Vlt
