/- Contracts and plain mathematics that the statement's proof wants: no statement is proved here, nothing is assumed. -/
import Derived.Test.YtgeiemccjionpaaGreatMg15
import Derived.Test.YtgeiemccjionpaaGreatMg19
import Derived.Test.YtgeiemccjionpaaGreatMg36
/- RForm -/
namespace Go.Proofs.YtgeiemccjionpaaGreat.Vlt
open Go.RowKit Go.Sort
open Dsk

set_option maxRecDepth 100000 in
set_option maxHeartbeats 8000000 in
/-- A shape that may be. -/
theorem rformat_ok (x : Sh) (w : World) (hx : rightS x = true) :
    Calls Tryz.prog 9 #[.int .i64 x.pages, .int .i64 x.journal] w fun e w' => ∃ v', e = .returned (.tuple #[v', .int .i64 0]) ∧ IsVault w' v' (formatV x) ∧ Below w.heap.size w w' := by
  obtain ⟨a, b, c, e', f, g'⟩ := right_nat hx
  obtain ⟨N, hN⟩ : ∃ N, N = NN x := ⟨_, rfl⟩
  have hN1 : 1 ≤ N := by rw [hN]; unfold NN; omega
  have hN2 : N ≤ 2000 := by rw [hN]; unfold NN; omega
  have hNx : placeN x x.pages = (N : Nat) := by rw [hN]; exact size_nat hx
  have hNs : (sizeX x).toNat = N := by unfold sizeX; rw [hNx]; rfl
  obtain ⟨S, hS⟩ : ∃ S, S = strB (printL x) := ⟨_, rfl⟩
  obtain ⟨D0, hD0⟩ : ∃ D, D = newD N := ⟨_, rfl⟩
  obtain ⟨D1, hD1⟩ : ∃ D, D = wrD D0 0 S := ⟨_, rfl⟩
  obtain ⟨D2, hD2⟩ : ∃ D, D = flD D1 := ⟨_, rfl⟩
  have hfv : formatV x = ⟨D2, x, 1, []⟩ := by rw [hD2, hD1, hD0, hS]; unfold formatV; rw [hNs]
  rw [hfv]
  have hp0 : Pl N 0 D0 := by rw [hD0]; exact ⟨newD_good _, rising_nil, wetIn_nil rfl⟩
  have hp1 : Pl N 1 D1 := by rw [hD1]; exact wrD_pl hp0 0 S
  have CN := rnew_calls N hN1 hN2
  rw [← hD0] at CN
  have CR := rright_calls x
  rw [hx] at CR
  have CZ := rsize_calls x
  rw [hNx] at CZ
  have CP := rprint_calls x
  rw [← hS] at CP
  have CW := fun v W (h : IsDisk W v D0) => rwr_calls v D0 0 S W h (hp0.ok hN2 (by omega)) hp0.rise
  rw [← hD1] at CW
  have CL := fun v W (h : IsDisk W v D1) => rfl_calls v D1 W h (hp1.ok hN2 (by omega)) hp1.inn
  rw [← hD2] at CL
  unfold shV at CR CZ CP
  have CN := Lib.hid CN
  have CR := Lib.hid CR
  have CZ := Lib.hid CZ
  have CP := Lib.hid CP
  have CW := Lib.hid CW
  have CL := Lib.hid CL
  obtain ⟨Y1, hY1⟩ : ∃ Y1, Y1 = w.alloc (.cells #[.slice none 0 0, .slice none 0 0, .bool false, .int .i64 0, .int .i64 0, .int .i64 0, .int .i64 0, .slice none 0 0] 32) := ⟨_, rfl⟩
  obtain ⟨Y, hY⟩ : ∃ Y, Y = Y1.alloc (.cells #[.int .i64 x.pages, .int .i64 x.journal] 29) := ⟨_, rfl⟩
  have hs1 : Y1.heap.size = w.heap.size + 1 := by rw [hY1]; simp
  have hzv : Y.heap[w.heap.size]? = some (.cells #[.slice none 0 0, .slice none 0 0, .bool false, .int .i64 0, .int .i64 0, .int .i64 0, .int .i64 0, .slice none 0 0] 32 (0, 0)) := by
    rw [hY]
    refine box_kept _ ?_ (below_one _ _)
    rw [hY1]
    exact heap_alloc_new w _
  have hsh : SBox Y (w.heap.size + 1) x := by rw [← hs1, hY]; exact SBox.new _ _
  have hB : Below w.heap.size w Y := by rw [hY, hY1]; exact Dsk.below_trans' (below_one _ _) (below_one _ _)
  have HY1 := Lib.hid hY1
  have HY := Lib.hid hY
  have HZV := Lib.hid hzv
  have HSH := Lib.hid hsh
  have HB := Lib.hid hB
  have HS1 := Lib.hid hs1
  clear a b c e' f g' hN hN1 hN2 hNx hNs hS hD0 hD1 hD2 hfv hp0 hp1 hY1 hY hs1 hzv hsh hB hx
  go_enter Tryz.func9, Tryz.ntmps9
  go_upto_region 1 with (fail)
  rw [← HY1.out]
  go_upto_region 2 with (fail)
  rw [← HY.out, HS1.out]
  clear HY HY1
  have t0 := HSH.out.c0
  have t1 := HSH.out.c1
  go_wp2_with fail
  (with_reducible refine (CR.out _).mono ?_)
  rintro e w1 ⟨rfl, hB1⟩
  have HB1 := Lib.hid (Dsk.below_trans' HB.out hB1)
  have HSH1 := Lib.hid (HSH.out.below hB1)
  have HZV1 := Lib.hid (box_kept _ HZV.out hB1)
  clear t0 t1 hB1
  have t0 := HSH1.out.c0
  have t1 := HSH1.out.c1
  go_wp2_with fail
  (with_reducible refine (CZ.out _).mono ?_)
  rintro e w2 ⟨rfl, hB2⟩
  have HB2 := Lib.hid (Dsk.below_trans' HB1.out hB2)
  have HSH2 := Lib.hid (HSH1.out.below hB2)
  have HZV2 := Lib.hid (box_kept _ HZV1.out hB2)
  clear t0 t1 hB2
  go_wp2_with fail
  (with_reducible refine (CN.out _).mono ?_)
  rintro e w3 ⟨v, rfl, hv, hB3⟩
  obtain ⟨X1, X2, X3, X4, X5, X6, rfl⟩ := hv.parts
  obtain ⟨Y5, hY5⟩ : ∃ Y5, Y5 = w3.alloc (.cells #[.slice X1 X2 X3, .slice X4 X5 X6, .bool D0.dead, .int .i64 D0.left] 27) := ⟨_, rfl⟩
  have hb5 : Below w3.heap.size w3 Y5 := by rw [hY5]; exact below_one _ _
  have hfb : FB w Y5 x w3.heap.size (.slice X1 X2 X3) (.slice X4 X5 X6) D0 :=
    ⟨box_kept _ (box_kept _ HZV2.out hB3) hb5, (HSH2.out.below hB3).below hb5, by rw [hY5]; exact heap_alloc_new w3 _, hv.below hb5, Dsk.below_trans' (Dsk.below_trans' HB2.out hB3) hb5, (HSH2.out.below hB3).lt⟩
  have HY5 := Lib.hid hY5
  obtain ⟨G, hG⟩ : ∃ G, G = w3.heap.size := ⟨_, rfl⟩
  rw [← hG] at hfb
  have HT0 := Lib.hid hfb
  have HG := Lib.hid hG.symm
  clear hv hB3 hY5 hb5 hfb hG HSH HSH1 HSH2 HZV HZV1 HZV2 HB HB1 HB2
  go_upto_region 5 with (fail)
  rw [← HY5.out]
  rw [HG.out]
  clear HY5 HG
  go_cut [] from 22 to 28 (fun wx => ∃ (T1 : Option Addr) (T2 T3 : Nat) (T4 : Option Addr) (T5 T6 : Nat), FB w wx x G (.slice T1 T2 T3) (.slice T4 T5 T6) D1)
  case first =>
    have HT := Lib.hid (HT0.out.more (Below.refl _ _).drew)
    obtain ⟨⟨p0, p1, p2, p3⟩, t0, t1⟩ := HT.out.cells
    go_region_with (first
      | (go_at_call 32; (with_reducible refine (CP.out _).mono ?_); rintro e wa ⟨rfl, hBa⟩; (with_reducible replace HT := Lib.hid (HT.out.more hBa)); clear hBa p0 p1 p2 p3 t0 t1; obtain ⟨⟨p0, p1, p2, p3⟩, t0, t1⟩ := HT.out.cells)
      | (go_at_call 31; (with_reducible refine (CW.out _ _ HT.out.isd).mono ?_); rintro e wa ⟨v', rfl, hv', hBa⟩; (with_reducible replace HT := Lib.hid (HT.out.more hBa)); clear hBa p0 p1 p2 p3 t0 t1; obtain ⟨T1, T2, T3, T4, T5, T6, rfl⟩ := hv'.parts; have HV := Lib.hid hv'; clear hv'; obtain ⟨⟨p0, p1, p2, p3⟩, t0, t1⟩ := HT.out.cells; obtain ⟨_, f0, f1, f2, f3⟩ := box4 HT.out.dk))
    all_goals
      go_wp2_with fail
      go_meet
      case rel => exact ⟨T1, T2, T3, T4, T5, T6, by obtain ⟨X, hX, hC⟩ := HT.out.put HV.out; rw [hX]; exact hC⟩
  case rest =>
    obtain ⟨T1, T2, T3, T4, T5, T6, hfb⟩ := hcut
    clear HT0 CP CW
    have HT := Lib.hid hfb
    clear hfb
    obtain ⟨⟨p0, p1, p2, p3⟩, t0, t1⟩ := HT.out.cells
    go_wp2_with fail
    (with_reducible refine (CL.out _ _ HT.out.isd).mono ?_)
    rintro e wa ⟨v', rfl, hv', hBa⟩
    obtain ⟨U1, U2, U3, U4, U5, U6, rfl⟩ := hv'.parts
    have HT2 := Lib.hid (HT.out.more hBa)
    obtain ⟨X2, hX2, hC⟩ := HT2.out.put hv'
    have HX2 := Lib.hid hX2
    have HC := Lib.hid hC
    clear hBa p0 p1 p2 p3 t0 t1 hv' hX2 hC HT
    obtain ⟨⟨p0, p1, p2, p3⟩, f0, f1, f2, f3⟩ := box4 HT2.out.dk
    go_upto_region 7 with (fail)
    rw [HX2.out]
    clear p0 p1 p2 p3 f0 f1 f2 f3 HX2 HT2
    obtain ⟨X, hX, f1, f2, f3⟩ := HC.out.fin 1
    have HX := Lib.hid hX
    have HF := Lib.hid (And.intro f1 f2)
    have HBX := Lib.hid (box8 f3)
    obtain ⟨⟨p0, p1, p2, p3⟩, t0, t1⟩ := HC.out.cells
    obtain ⟨⟨z0, z1, z2, z3, z4, z5, z6, z7⟩, zf⟩ := box8 HC.out.zv
    clear hX f1 f2 f3
    go_wp2_with fail
    rw [HX.out]
    clear p0 p1 p2 p3 t0 t1 z0 z1 z2 z3 z4 z5 z6 z7 zf
    obtain ⟨⟨z0, z1, z2, z3, z4, z5, z6, z7⟩, _⟩ := HBX.out
    exact bodyPost_ret (v := .tuple #[.agg #[.slice U1 U2 U3, .slice U4 U5 U6, .bool D2.dead, .int .i64 D2.left, .int .i64 x.pages, .int .i64 x.journal, .int .i64 1, .slice none 0 0], .int .i64 0]) (by simp [results, Tryz.results9, go_sem, z0, z1, z2, z3, z4, z5, z6, z7]) rfl ⟨_, rfl, HF.out.1, HF.out.2⟩

set_option maxRecDepth 100000 in
set_option maxHeartbeats 4000000 in
/-- A shape that may not be. -/
theorem rformat_bad (x : Sh) (w : World) (hx : rightS x = false) :
    Calls Tryz.prog 9 #[.int .i64 x.pages, .int .i64 x.journal] w fun e w' => ∃ v', e = .returned (.tuple #[v', .int .i64 1]) ∧ IsVault w' v' zeroV ∧ Below w.heap.size w w' := by
  have CR := rright_calls x
  rw [hx] at CR
  unfold shV at CR
  have CR := Lib.hid CR
  obtain ⟨Y1, hY1⟩ : ∃ Y1, Y1 = w.alloc (.cells #[.slice none 0 0, .slice none 0 0, .bool false, .int .i64 0, .int .i64 0, .int .i64 0, .int .i64 0, .slice none 0 0] 32) := ⟨_, rfl⟩
  obtain ⟨Y, hY⟩ : ∃ Y, Y = Y1.alloc (.cells #[.int .i64 x.pages, .int .i64 x.journal] 29) := ⟨_, rfl⟩
  have hs1 : Y1.heap.size = w.heap.size + 1 := by rw [hY1]; simp
  have hzv : Y.heap[w.heap.size]? = some (.cells #[.slice none 0 0, .slice none 0 0, .bool false, .int .i64 0, .int .i64 0, .int .i64 0, .int .i64 0, .slice none 0 0] 32 (0, 0)) := by
    rw [hY]
    refine box_kept _ ?_ (below_one _ _)
    rw [hY1]
    exact heap_alloc_new w _
  have hsh : SBox Y (w.heap.size + 1) x := by rw [← hs1, hY]; exact SBox.new _ _
  have hB : Below w.heap.size w Y := by rw [hY, hY1]; exact Dsk.below_trans' (below_one _ _) (below_one _ _)
  have HY1 := Lib.hid hY1
  have HY := Lib.hid hY
  have HZV := Lib.hid hzv
  have HB := Lib.hid hB
  have HS1 := Lib.hid hs1
  have t0 := hsh.c0
  have t1 := hsh.c1
  clear hY1 hY hs1 hzv hsh hB hx
  go_enter Tryz.func9, Tryz.ntmps9
  go_upto_region 1 with (fail)
  rw [← HY1.out]
  go_upto_region 2 with (fail)
  rw [← HY.out, HS1.out]
  clear HY HY1
  go_wp2_with fail
  (with_reducible refine (CR.out _).mono ?_)
  rintro e w1 ⟨rfl, hB1⟩
  have hz := box_kept _ HZV.out hB1
  obtain ⟨X, hX, hbX, hkX, hBX⟩ := box_store8 hz (.slice none 0 0) (.slice none 0 0) (.bool false) (.int .i64 0) (.int .i64 0) (.int .i64 0) (.int .i64 0) (.slice none 0 0)
  have HX := Lib.hid hX
  have HF := Lib.hid (hBX _ _ (Dsk.below_trans' HB.out hB1) (Nat.le_refl _))
  have HBX := Lib.hid (box8 hbX)
  obtain ⟨⟨z0, z1, z2, z3, z4, z5, z6, z7⟩, zf⟩ := box8 hz
  clear hz hX hbX hkX hBX hB1 t0 t1
  go_wp2_with fail
  rw [HX.out]
  clear z0 z1 z2 z3 z4 z5 z6 z7 zf
  obtain ⟨⟨z0, z1, z2, z3, z4, z5, z6, z7⟩, _⟩ := HBX.out
  exact bodyPost_ret (v := .tuple #[.agg #[.slice none 0 0, .slice none 0 0, .bool false, .int .i64 0, .int .i64 0, .int .i64 0, .int .i64 0, .slice none 0 0], .int .i64 1]) (by simp [results, Tryz.results9, go_sem, z0, z1, z2, z3, z4, z5, z6, z7]) rfl ⟨_, rfl, ⟨_, _, _, rfl, zero_disk _, IsLfs.nil _⟩, HF.out⟩

end Go.Proofs.YtgeiemccjionpaaGreat.Vlt
