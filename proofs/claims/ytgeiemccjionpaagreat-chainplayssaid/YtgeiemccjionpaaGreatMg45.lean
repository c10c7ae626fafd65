/- Contracts and plain mathematics that the statement's proof wants: no statement is proved here, nothing is assumed. -/
import Derived.Test.YtgeiemccjionpaaGreatMg44
/- HPlays -/
namespace Go.Proofs.YtgeiemccjionpaaGreat.Chn
open Go.RowKit Go.Sort
open Dsk Vlt

set_option maxRecDepth 100000 in
set_option maxHeartbeats 32000000 in
theorem plays_calls (p at0 : Int) (AX : Option Addr) (m cap : Nat) (xs : List LK) (w : World) (AW : ∀ w : World, Calls Tryz.prog 8 #[] w fun e w' => e = .returned (.bool true) ∧ Below w.heap.size w w') (hp : 0 ≤ p ∧ p < 256) (hm : m ≤ 9223372036854775807) (hxs : LIn w AX m xs) :
    Calls Tryz.prog 3 #[.int .u8 p, .slice AX m cap, .int .i64 at0] w fun e w' => e = .returned (.bool true) ∧ Below w.heap.size w w' := by
  obtain ⟨n, hn⟩ : ∃ n : Nat, (n : Int) = 16 + p % 24 := ⟨(16 + p % 24).toNat, by omega⟩
  have hn1 : 16 ≤ n := by omega
  have hn2 : n ≤ 512 := by omega
  have hxr := shL_right hn1 hn2
  have tv0 := TV.format hxr
  obtain ⟨k0, hk0⟩ : ∃ k, k = formatV (shL n) := ⟨_, rfl⟩
  rw [← hk0] at tv0
  have C0 : Hid (∀ W : World, Calls Tryz.prog 9 #[.int .i64 (n : Nat), .int .i64 8] W fun e w' => ∃ v', e = .returned (.tuple #[v', .int .i64 0]) ∧ IsVault w' v' k0 ∧ Below W.heap.size W w') := Lib.hid (fun W => by rw [hk0]; exact rformat_ok (shL n) W hxr)
  have AW := Lib.hid AW
  have HF0 := Lib.hid (fun (W : World) (v : Value) (h : IsVault W v k0) => tv0.form hn1 hn2 h)
  have HHN := Lib.hid hn.symm
  have HX := Lib.hid hxs
  clear hn hk0 hxr hxs
  by_cases hm10 : 40 < m
  · have hm11 : (40 : Int) < (m : Int) := by omega
    go_enter Tryz.func3, Tryz.ntmps3
    go_wp2_with fail
    (with_reducible refine (AW.out _).mono ?_)
    rintro e wz ⟨rfl, hbz⟩
    go_wp2_with fail
    go_ret
    exact ⟨rfl, hbz⟩
  have hm11 : ¬ (40 : Int) < (m : Int) := by omega
  go_enter Tryz.func3, Tryz.ntmps3
  go_wp2_with fail
  rw [HHN.out]
  clear hp
  (with_reducible refine (C0.out _).mono ?_)
  rintro e w1 ⟨v1, rfl, hv1, hb1⟩
  obtain ⟨pA1, pn1, pc1, pA2, pn2, pc2, pdl, pjr, psq, pA7, pn7, pc7, rfl⟩ := HF0.out _ _ hv1
  obtain ⟨g, hg⟩ : ∃ g, g = w1.heap.size := ⟨_, rfl⟩
  obtain ⟨Z, hZ⟩ : ∃ Z, Z = w1.alloc (.cells #[.slice pA1 pn1 pc1, .slice pA2 pn2 pc2, .bool false, .int .i64 pdl, .int .i64 (n : Nat), .int .i64 pjr, .int .i64 psq, .slice pA7 pn7 pc7] 32) := ⟨_, rfl⟩
  have HB : Hid (VV w Z g #[.slice pA1 pn1 pc1, .slice pA2 pn2 pc2, .bool false, .int .i64 pdl, .int .i64 (n : Nat), .int .i64 pjr, .int .i64 psq, .slice pA7 pn7 pc7] k0) := Lib.hid (by rw [hZ, hg]; exact VV.new hv1 hb1)
  have HZ := Lib.hid hZ
  have HG := Lib.hid hg
  clear hZ hg hv1 hb1
  go_upto_region 4 with (fail)
  rw [← HZ.out, ← HG.out]
  clear HZ HG
  obtain ⟨⟨i0, i1, i2, i3, i4, i5, i6, i7⟩, kf⟩ := box8 HB.out.a
  obtain ⟨g2, hg2⟩ : ∃ g, g = Z.heap.size := ⟨_, rfl⟩
  obtain ⟨Z2, hZ2⟩ : ∃ Y, Y = Z.alloc (.cells #[.slice pA1 pn1 pc1, .slice pA2 pn2 pc2, .bool false, .int .i64 pdl, .int .i64 (n : Nat), .int .i64 pjr, .int .i64 psq, .slice pA7 pn7 pc7] 32) := ⟨_, rfl⟩
  have HB2 : Hid (VV w Z2 g2 #[.slice pA1 pn1 pc1, .slice pA2 pn2 pc2, .bool false, .int .i64 pdl, .int .i64 (n : Nat), .int .i64 pjr, .int .i64 psq, .slice pA7 pn7 pc7] k0) := Lib.hid (by rw [hZ2, hg2]; exact VV.new HB.out.v HB.out.below)
  have HB1 : Hid (VV w Z2 g #[.slice pA1 pn1 pc1, .slice pA2 pn2 pc2, .bool false, .int .i64 pdl, .int .i64 (n : Nat), .int .i64 pjr, .int .i64 psq, .slice pA7 pn7 pc7] k0) := Lib.hid (by rw [hZ2]; exact HB.out.more (below_one _ _))
  have HNE : Hid (g < g2) := Lib.hid (by rw [hg2]; exact HB.out.lt)
  have HZ := Lib.hid hZ2
  have HG := Lib.hid hg2
  clear hZ2 hg2
  go_upto_region 5 with (fail)
  rw [← HZ.out, ← HG.out]
  clear i0 i1 i2 i3 i4 i5 i6 i7 kf
  clear HZ HG HB
  go_wp2_with fail
  go_loopw [10, 11] (fun s10 s11 wr => ∃ (i : Nat) (k1 : VK) (ts : List TX) (N : Nat) (PA : Option Addr) (pc : Nat) (qA1 : Option Addr) (qn1 qc1 : Nat) (qA2 : Option Addr) (qn2 qc2 : Nat) (qdl qjr qsq : Int) (qA7 : Option Addr) (qn7 qc7 : Nat) (sA1 : Option Addr) (sn1 sc1 : Nat) (sA2 : Option Addr) (sn2 sc2 : Nat) (sdl sjr ssq : Int) (sA7 : Option Addr) (sn7 sc7 : Nat), i ≤ m ∧ s11 = .int .i64 i ∧ s10 = .slice PA N pc ∧ VV w wr g #[.slice qA1 qn1 qc1, .slice qA2 qn2 qc2, .bool false, .int .i64 qdl, .int .i64 (n : Nat), .int .i64 qjr, .int .i64 qsq, .slice qA7 qn7 qc7] k1 ∧ VV w wr g2 #[.slice sA1 sn1 sc1, .slice sA2 sn2 sc2, .bool false, .int .i64 sdl, .int .i64 (n : Nat), .int .i64 sjr, .int .i64 ssq, .slice sA7 sn7 sc7] k1 ∧ TV (shL n) k1 ts ∧ OwnI w.heap.size wr (.slice PA N pc) (firsts ts) ∧ N ≤ i ∧ N = ts.length) (fun _ u _ => m - (intOf u).toNat)
  case atStart => exact ⟨0, k0, [], 0, none, 0, pA1, pn1, pc1, pA2, pn2, pc2, pdl, pjr, psq, pA7, pn7, pc7, pA1, pn1, pc1, pA2, pn2, pc2, pdl, pjr, psq, pA7, pn7, pc7, Nat.zero_le _, rfl, rfl, HB1.out, HB2.out, tv0, OwnI.nil _ _, Nat.le_refl _, rfl⟩
  case round =>
    clear HB1 HB2 C0 HF0
    obtain ⟨i, k1, ts, N, PA, pc, qA1, qn1, qc1, qA2, qn2, qc2, qdl, qjr, qsq, qA7, qn7, qc7, sA1, sn1, sc1, sA2, sn2, sc2, sdl, sjr, ssq, sA7, sn7, sc7, hi, rfl, rfl, hV, hU, tv, hW, hfew, hN⟩ := hrel
    have HN := Lib.hid hN
    clear hN
    obtain ⟨w2, rfl⟩ : ∃ w2, w2 = wr := ⟨_, rfl⟩
    by_cases hi1 : i < m
    · obtain ⟨a0, hx⟩ : ∃ q, xs[i]? = some q := ⟨_, List.getElem?_eq_getElem (by rw [HX.out.1]; exact hi1)⟩
      obtain ⟨⟨kd1, kd2⟩, ⟨nn1, nn2⟩, hx1, hx2⟩ := HX.out.2.1 a0 (List.mem_of_getElem? hx)
      obtain ⟨xb, xo, rfl, hxl, hxc⟩ := HX.out.2.2 (by omega)
      have hcc := hxc i a0 hx
      obtain ⟨kd, nn, sz⟩ := a0
      have HC : Hid (∀ W, Below w.heap.size w W → W.cell? ⟨xb, xo + i * 3, none⟩ = some (.int .i64 kd) ∧ W.cell? ⟨xb, xo + i * 3 + 1, none⟩ = some (.int .i64 nn) ∧ W.cell? ⟨xb, xo + i * 3 + 2, none⟩ = some (.int .u16 sz)) := Lib.hid (fun W hW => ⟨(hW.cell (p := ⟨xb, _, none⟩) hxl).trans hcc.1, (hW.cell (p := ⟨xb, _, none⟩) hxl).trans hcc.2.1, (hW.cell (p := ⟨xb, _, none⟩) hxl).trans hcc.2.2⟩)
      obtain ⟨kk, hkk⟩ : ∃ a : Nat, (a : Int) = sz % 900 := ⟨(sz % 900).toNat, by omega⟩
      have HRX : Hid ((wrap64 sz).tmod 900 = (kk : Int)) := Lib.hid (by rw [wrap_lk hx1 hx2, Int.tmod_eq_emod_of_nonneg hx1]; exact hkk.symm)
      have hkk9 : kk < 900 := by omega
      have LK_ := Lib.hid (fun W => long_calls kk W (by omega))
      have hi2 : (i : Int) < (m : Int) := by omega
      have hi4 : (0 : Int) ≤ (i : Int) := by omega
      have hw1 : IntKind.i64.wrap ((i : Int) + 1) = (i : Int) + 1 := by rw [wrap_small _ (by omega) (by omega)]
      clear hx hx1 hx2 hkk hxc hcc hxl kd1 kd2 nn1 nn2
      obtain ⟨c0, c1, c2⟩ := HC.out _ hV.below
      have HT := Lib.hid (hV.more (Below.refl _ _).drew)
      have HU := Lib.hid (hU.more (Below.refl _ _).drew)
      have HW := Lib.hid (OwnI.below hW (Below.refl _ _).drew)
      clear hV hU hW
      go_upto_region 9 with (fail)
      go_region
      by_cases hth : 0 ≤ nn ∧ nn < (N : Int)
      · obtain ⟨j, rfl⟩ : ∃ j : Nat, nn = (j : Int) := ⟨nn.toNat, by omega⟩
        have hj0 : (0 : Int) ≤ (j : Int) := by omega
        have hj1 : (j : Int) < (N : Int) := hth.2
        obtain ⟨A, x, B, hts, hAl, hjx⟩ := ts_split (show j < ts.length by have := HN.out; omega)
        obtain ⟨l, t0⟩ := x
        obtain ⟨PA2, pn2, pc2, hpe, hpn2, hpc2, hprd⟩ := HW.out.isInts.open_
        injection hpe with hpe1 hpe2 hpe3
        subst hpe1 hpe2 hpe3
        obtain ⟨pb, po, rfl, y0⟩ := int_at hprd (Below.refl _ _) (firsts_at hjx) (by omega)
        subst hts
        obtain ⟨p1, hp1, hp1a, _⟩ := tv.first (l := l) (t := t0) (by simp)
        have hg1 := getD_at hp1
        have hln : l ≠ [] := by rintro rfl; simp at hp1
        have hp0 : (((p1 : Nat) : Int) == (0 : Int)) = false := by simp; omega
        change _ = some (Value.int .i64 ((l.getD 0 0 : Nat) : Int)) at y0
        rw [hg1] at y0
        clear hpn2 hpc2 hprd hp1 hth hjx
        go_upto_region 12 with (fail)
        clear y0
        go_wp2_with fail
        rw [HRX.out]
        (with_reducible refine (LK_.out _).mono ?_)
        rintro e w3 ⟨rfl, hb3⟩
        have HT := Lib.hid (HT.out.more hb3)
        have HU := Lib.hid (HU.out.more hb3)
        have HW := Lib.hid (OwnI.below HW.out hb3)
        clear c0 c1 c2 hb3
        obtain ⟨c0, c1, c2⟩ := HC.out _ HT.out.below
        by_cases hkd : kd = 0
        · subst hkd
          go_upto_region 15 with (fail)
          clear c0 c1 c2
          by_cases hf : needC kk + (1 + (pagesOf (A ++ B)).length) ≤ n
          · obtain ⟨k2, l2, pk, hc1, hc2⟩ := both_put (A := A) (O := [(l, t0)]) (B := B) (old := l) (no := ((p1 : Nat) : Int)) (t := longL kk) tv hn1 hn2 (.inr ⟨t0, rfl, by rw [hg1]⟩) (by rw [longL_len]; omega) (by rw [longL_len]; exact hf)
            have tv2 : TV (shL n) k2 (A ++ [(l2, longL kk)] ++ B) := pk.tv
            have hfst := pk.first hln
            rw [hg1] at hfst
            rw [hfst] at hc1 hc2
            have C1 := Lib.hid hc1
            have C2 := Lib.hid hc2
            have HF1 := Lib.hid (fun (W : World) (v : Value) (h : IsVault W v k2) => tv2.form hn1 hn2 h)
            clear hc1 hc2
            obtain ⟨⟨i0, i1, i2, i3, i4, i5, i6, i7⟩, kf⟩ := box8 HT.out.a
            go_wp2_with fail
            (with_reducible refine (C1.out _ _ HT.out.v).mono ?_)
            rintro e w4 ⟨v', rfl, hv', hb4⟩
            obtain ⟨rA1, rn1, rc1, rA2, rn2, rc2, rdl, rjr, rsq, rA7, rn7, rc7, rfl⟩ := HF1.out _ _ hv'
            have hT := HT.out.more hb4
            obtain ⟨X, hX, hVX, hk⟩ := hT.put hv'
            have HU := Lib.hid (hT.beside (HU.out.more hb4) hVX hk (by have := HNE.out; omega))
            have HW := Lib.hid (OwnI.other hT (OwnI.below HW.out hb4) hk)
            have HXX := Lib.hid hX
            have HT := Lib.hid hVX
            clear i0 i1 i2 i3 i4 i5 i6 i7 kf
            obtain ⟨⟨i0, i1, i2, i3, i4, i5, i6, i7⟩, kf⟩ := box8 hT.a
            clear hX hVX hk hT hb4 hv'
            go_upto_region 16 with (fail)
            rw [HXX.out]
            clear HXX
            clear i0 i1 i2 i3 i4 i5 i6 i7 kf
            obtain ⟨⟨i0, i1, i2, i3, i4, i5, i6, i7⟩, kf⟩ := box8 HU.out.a
            go_wp2_with fail
            (with_reducible refine (C2.out _ _ HU.out.v).mono ?_)
            rintro e w4 ⟨v', rfl, hv', hb4⟩
            obtain ⟨yA1, yn1, yc1, yA2, yn2, yc2, ydl, yjr, ysq, yA7, yn7, yc7, rfl⟩ := HF1.out _ _ hv'
            have hT := HU.out.more hb4
            obtain ⟨X, hX, hVX, hk⟩ := hT.put hv'
            have HT := Lib.hid (hT.beside (HT.out.more hb4) hVX hk (by have := HNE.out; omega))
            have HW := Lib.hid (OwnI.other hT (OwnI.below HW.out hb4) hk)
            have HXX := Lib.hid hX
            have HU := Lib.hid hVX
            clear i0 i1 i2 i3 i4 i5 i6 i7 kf
            obtain ⟨⟨i0, i1, i2, i3, i4, i5, i6, i7⟩, kf⟩ := box8 hT.a
            clear hX hVX hk hT hb4 hv'
            go_upto_region 19 with (fail)
            rw [HXX.out]
            clear HXX
            clear i0 i1 i2 i3 i4 i5 i6 i7 kf
            have CS := Lib.hid (law_same tv2 hn1 hn2)
            obtain ⟨⟨i0, i1, i2, i3, i4, i5, i6, i7⟩, kf⟩ := box8 HT.out.a
            obtain ⟨⟨j0, j1, j2, j3, j4, j5, j6, j7⟩, jf⟩ := box8 HU.out.a
            go_wp2_with fail
            (with_reducible refine (CS.out _ _ _ HT.out.v HU.out.v).mono ?_)
            rintro e w5 ⟨rfl, hb5⟩
            have HT := Lib.hid (HT.out.more hb5)
            have HU := Lib.hid (HU.out.more hb5)
            have HW := Lib.hid (OwnI.below HW.out hb5)
            clear hb5 CS j0 j1 j2 j3 j4 j5 j6 j7 jf
            clear i0 i1 i2 i3 i4 i5 i6 i7 kf
            obtain ⟨c0, c1, c2⟩ := HC.out _ HT.out.below
            have HW : Hid (OwnI w.heap.size w5 _ (firsts (A ++ [(l2, longL kk)] ++ B))) := Lib.hid (by
              rw [firsts_same (t := longL kk) (t0 := t0) (show l2.getD 0 0 = l.getD 0 0 by rw [hfst, hg1])]
              exact HW.out)
            obtain ⟨ps, tx, er, hps, hw1, hw2⟩ := both_walk tv2 hn1 hn2 at0
            have D1 := Lib.hid hw1
            have D2 := Lib.hid hw2
            obtain ⟨sx, hsx⟩ : ∃ s, s = strB tx := ⟨_, rfl⟩
            rw [← hsx] at D1 D2
            clear hw1 hw2 hsx
            obtain ⟨⟨i0, i1, i2, i3, i4, i5, i6, i7⟩, kf⟩ := box8 HT.out.a
            go_wp2_with fail
            (with_reducible refine (D1.out _ _ HT.out.v).mono ?_)
            rintro e w7 ⟨vp, rfl, hvp, hb7⟩
            have HVP := Lib.hid hvp
            have HT := Lib.hid (HT.out.more hb7)
            have HU := Lib.hid (HU.out.more hb7)
            have HW := Lib.hid (OwnI.below HW.out hb7)
            clear hvp hb7
            clear i0 i1 i2 i3 i4 i5 i6 i7 kf
            obtain ⟨⟨i0, i1, i2, i3, i4, i5, i6, i7⟩, kf⟩ := box8 HU.out.a
            go_wp2_with fail
            (with_reducible refine (D2.out _ _ HU.out.v).mono ?_)
            rintro e w8 ⟨vq, rfl, hvq, hb8⟩
            have HVQ := Lib.hid hvq
            have HT := Lib.hid (HT.out.more hb8)
            have HU := Lib.hid (HU.out.more hb8)
            have HW := Lib.hid (OwnI.below HW.out hb8)
            have HVP := Lib.hid (HVP.out.below hb8)
            clear hvq hb8
            clear i0 i1 i2 i3 i4 i5 i6 i7 kf
            go_wp2_with fail
            (with_reducible refine (lsame_calls vp vq (natI ps) _ HVP.out HVQ.out (by rw [natI_len]; omega)).mono ?_)
            rintro e w9 ⟨rfl, hb9⟩
            have HT := Lib.hid (HT.out.more hb9)
            have HU := Lib.hid (HU.out.more hb9)
            have HW := Lib.hid (OwnI.below HW.out hb9)
            clear hb9
            go_wp2_with fail
            exact ⟨⟨i + 1, k2, A ++ [(l2, longL kk)] ++ B, N, _, _, rA1, rn1, rc1, rA2, rn2, rc2, rdl, rjr, rsq, rA7, rn7, rc7, yA1, yn1, yc1, yA2, yn2, yc2, ydl, yjr, ysq, yA7, yn7, yc7, by omega, by go_num, rfl, HT.out, HU.out, tv2, HW.out, (by omega), (by rw [HN.out]; simp)⟩, by simp [intOf]; omega⟩
          · obtain ⟨hc1, hc2⟩ := both_put_no (A := A) (O := [(l, t0)]) (B := B) (old := l) (no := ((p1 : Nat) : Int)) (t := longL kk) tv hn1 hn2 (.inr ⟨t0, rfl, by rw [hg1]⟩) (by rw [longL_len]; omega) (by rw [longL_len]; exact hf)
            have C1 := Lib.hid hc1
            have C2 := Lib.hid hc2
            have HF1 := Lib.hid (fun (W : World) (v : Value) (h : IsVault W v k1) => tv.form hn1 hn2 h)
            clear hc1 hc2
            obtain ⟨⟨i0, i1, i2, i3, i4, i5, i6, i7⟩, kf⟩ := box8 HT.out.a
            go_wp2_with fail
            (with_reducible refine (C1.out _ _ HT.out.v).mono ?_)
            rintro e w4 ⟨v', rfl, hv', hb4⟩
            obtain ⟨rA1, rn1, rc1, rA2, rn2, rc2, rdl, rjr, rsq, rA7, rn7, rc7, rfl⟩ := HF1.out _ _ hv'
            have hT := HT.out.more hb4
            obtain ⟨X, hX, hVX, hk⟩ := hT.put hv'
            have HU := Lib.hid (hT.beside (HU.out.more hb4) hVX hk (by have := HNE.out; omega))
            have HW := Lib.hid (OwnI.other hT (OwnI.below HW.out hb4) hk)
            have HXX := Lib.hid hX
            have HT := Lib.hid hVX
            clear i0 i1 i2 i3 i4 i5 i6 i7 kf
            obtain ⟨⟨i0, i1, i2, i3, i4, i5, i6, i7⟩, kf⟩ := box8 hT.a
            clear hX hVX hk hT hb4 hv'
            go_upto_region 16 with (fail)
            rw [HXX.out]
            clear HXX
            clear i0 i1 i2 i3 i4 i5 i6 i7 kf
            obtain ⟨⟨i0, i1, i2, i3, i4, i5, i6, i7⟩, kf⟩ := box8 HU.out.a
            go_wp2_with fail
            (with_reducible refine (C2.out _ _ HU.out.v).mono ?_)
            rintro e w4 ⟨v', rfl, hv', hb4⟩
            obtain ⟨yA1, yn1, yc1, yA2, yn2, yc2, ydl, yjr, ysq, yA7, yn7, yc7, rfl⟩ := HF1.out _ _ hv'
            have hT := HU.out.more hb4
            obtain ⟨X, hX, hVX, hk⟩ := hT.put hv'
            have HT := Lib.hid (hT.beside (HT.out.more hb4) hVX hk (by have := HNE.out; omega))
            have HW := Lib.hid (OwnI.other hT (OwnI.below HW.out hb4) hk)
            have HXX := Lib.hid hX
            have HU := Lib.hid hVX
            clear i0 i1 i2 i3 i4 i5 i6 i7 kf
            obtain ⟨⟨i0, i1, i2, i3, i4, i5, i6, i7⟩, kf⟩ := box8 hT.a
            clear hX hVX hk hT hb4 hv'
            go_upto_region 19 with (fail)
            rw [HXX.out]
            clear HXX
            clear i0 i1 i2 i3 i4 i5 i6 i7 kf
            have CS := Lib.hid (law_same tv hn1 hn2)
            obtain ⟨⟨i0, i1, i2, i3, i4, i5, i6, i7⟩, kf⟩ := box8 HT.out.a
            obtain ⟨⟨j0, j1, j2, j3, j4, j5, j6, j7⟩, jf⟩ := box8 HU.out.a
            go_wp2_with fail
            (with_reducible refine (CS.out _ _ _ HT.out.v HU.out.v).mono ?_)
            rintro e w5 ⟨rfl, hb5⟩
            have HT := Lib.hid (HT.out.more hb5)
            have HU := Lib.hid (HU.out.more hb5)
            have HW := Lib.hid (OwnI.below HW.out hb5)
            clear hb5 CS j0 j1 j2 j3 j4 j5 j6 j7 jf
            clear i0 i1 i2 i3 i4 i5 i6 i7 kf
            obtain ⟨c0, c1, c2⟩ := HC.out _ HT.out.below
            obtain ⟨ps, tx, er, hps, hw1, hw2⟩ := both_walk tv hn1 hn2 at0
            have D1 := Lib.hid hw1
            have D2 := Lib.hid hw2
            obtain ⟨sx, hsx⟩ : ∃ s, s = strB tx := ⟨_, rfl⟩
            rw [← hsx] at D1 D2
            clear hw1 hw2 hsx
            obtain ⟨⟨i0, i1, i2, i3, i4, i5, i6, i7⟩, kf⟩ := box8 HT.out.a
            go_wp2_with fail
            (with_reducible refine (D1.out _ _ HT.out.v).mono ?_)
            rintro e w7 ⟨vp, rfl, hvp, hb7⟩
            have HVP := Lib.hid hvp
            have HT := Lib.hid (HT.out.more hb7)
            have HU := Lib.hid (HU.out.more hb7)
            have HW := Lib.hid (OwnI.below HW.out hb7)
            clear hvp hb7
            clear i0 i1 i2 i3 i4 i5 i6 i7 kf
            obtain ⟨⟨i0, i1, i2, i3, i4, i5, i6, i7⟩, kf⟩ := box8 HU.out.a
            go_wp2_with fail
            (with_reducible refine (D2.out _ _ HU.out.v).mono ?_)
            rintro e w8 ⟨vq, rfl, hvq, hb8⟩
            have HVQ := Lib.hid hvq
            have HT := Lib.hid (HT.out.more hb8)
            have HU := Lib.hid (HU.out.more hb8)
            have HW := Lib.hid (OwnI.below HW.out hb8)
            have HVP := Lib.hid (HVP.out.below hb8)
            clear hvq hb8
            clear i0 i1 i2 i3 i4 i5 i6 i7 kf
            go_wp2_with fail
            (with_reducible refine (lsame_calls vp vq (natI ps) _ HVP.out HVQ.out (by rw [natI_len]; omega)).mono ?_)
            rintro e w9 ⟨rfl, hb9⟩
            have HT := Lib.hid (HT.out.more hb9)
            have HU := Lib.hid (HU.out.more hb9)
            have HW := Lib.hid (OwnI.below HW.out hb9)
            clear hb9
            go_wp2_with fail
            exact ⟨⟨i + 1, k1, A ++ [(l, t0)] ++ B, N, _, _, rA1, rn1, rc1, rA2, rn2, rc2, rdl, rjr, rsq, rA7, rn7, rc7, yA1, yn1, yc1, yA2, yn2, yc2, ydl, yjr, ysq, yA7, yn7, yc7, by omega, by go_num, rfl, HT.out, HU.out, tv, HW.out, (by omega), HN.out⟩, by simp [intOf]; omega⟩
        · have hkd1 : (kd == (0 : Int)) = false := by simpa using hkd
          have hkd2 : (kd != (0 : Int)) = true := by simpa using hkd
          go_upto_region 17 with (fail)
          clear c0 c1 c2
          obtain ⟨tv2, hc1, hc2⟩ := both_drop (A := A) (B := B) (l := l) (t := t0) tv hn1 hn2
          rw [hg1] at hc1 hc2
          have C1 := Lib.hid hc1
          have C2 := Lib.hid hc2
          obtain ⟨k2, hk2⟩ : ∃ q, q = freeV k1 (natI l) := ⟨_, rfl⟩
          rw [← hk2] at tv2 C1 C2
          have HF1 := Lib.hid (fun (W : World) (v : Value) (h : IsVault W v k2) => tv2.form hn1 hn2 h)
          clear hc1 hc2 hk2
          obtain ⟨⟨i0, i1, i2, i3, i4, i5, i6, i7⟩, kf⟩ := box8 HT.out.a
          go_wp2_with fail
          (with_reducible refine (C1.out _ _ HT.out.v).mono ?_)
          rintro e w4 ⟨v', rfl, hv', hb4⟩
          obtain ⟨rA1, rn1, rc1, rA2, rn2, rc2, rdl, rjr, rsq, rA7, rn7, rc7, rfl⟩ := HF1.out _ _ hv'
          have hT := HT.out.more hb4
          obtain ⟨X, hX, hVX, hk⟩ := hT.put hv'
          have HU := Lib.hid (hT.beside (HU.out.more hb4) hVX hk (by have := HNE.out; omega))
          have HW := Lib.hid (OwnI.other hT (OwnI.below HW.out hb4) hk)
          have HXX := Lib.hid hX
          have HT := Lib.hid hVX
          clear i0 i1 i2 i3 i4 i5 i6 i7 kf
          obtain ⟨⟨i0, i1, i2, i3, i4, i5, i6, i7⟩, kf⟩ := box8 hT.a
          clear hX hVX hk hT hb4 hv'
          go_upto_region 18 with (fail)
          rw [HXX.out]
          clear HXX
          clear i0 i1 i2 i3 i4 i5 i6 i7 kf
          obtain ⟨⟨i0, i1, i2, i3, i4, i5, i6, i7⟩, kf⟩ := box8 HU.out.a
          go_wp2_with fail
          (with_reducible refine (C2.out _ _ HU.out.v).mono ?_)
          rintro e w4 ⟨v', rfl, hv', hb4⟩
          obtain ⟨yA1, yn1, yc1, yA2, yn2, yc2, ydl, yjr, ysq, yA7, yn7, yc7, rfl⟩ := HF1.out _ _ hv'
          have hT := HU.out.more hb4
          obtain ⟨X, hX, hVX, hk⟩ := hT.put hv'
          have HT := Lib.hid (hT.beside (HT.out.more hb4) hVX hk (by have := HNE.out; omega))
          have HW := Lib.hid (OwnI.other hT (OwnI.below HW.out hb4) hk)
          have HXX := Lib.hid hX
          have HU := Lib.hid hVX
          clear i0 i1 i2 i3 i4 i5 i6 i7 kf
          obtain ⟨⟨i0, i1, i2, i3, i4, i5, i6, i7⟩, kf⟩ := box8 hT.a
          clear hX hVX hk hT hb4 hv'
          go_upto_region 19 with (fail)
          rw [HXX.out]
          clear HXX
          clear i0 i1 i2 i3 i4 i5 i6 i7 kf
          have CS := Lib.hid (law_same tv2 hn1 hn2)
          obtain ⟨⟨i0, i1, i2, i3, i4, i5, i6, i7⟩, kf⟩ := box8 HT.out.a
          obtain ⟨⟨j0, j1, j2, j3, j4, j5, j6, j7⟩, jf⟩ := box8 HU.out.a
          go_wp2_with fail
          (with_reducible refine (CS.out _ _ _ HT.out.v HU.out.v).mono ?_)
          rintro e w5 ⟨rfl, hb5⟩
          have HT := Lib.hid (HT.out.more hb5)
          have HU := Lib.hid (HU.out.more hb5)
          have HW := Lib.hid (OwnI.below HW.out hb5)
          clear hb5 CS j0 j1 j2 j3 j4 j5 j6 j7 jf
          clear i0 i1 i2 i3 i4 i5 i6 i7 kf
          obtain ⟨c0, c1, c2⟩ := HC.out _ HT.out.below
          obtain ⟨S1, q1, hr1, hs1⟩ := slice_toI (k := j) HW.out.isInts (by rw [firsts_len]; exact HN.out) (by omega)
          obtain ⟨S2, q2, hr2, hs2⟩ := slice_fromI (k := j + 1) HW.out.isInts (by rw [firsts_len]; exact HN.out) (by omega)
          have hjw : IntKind.i64.wrap ((j : Int) + 1) = (j : Int) + 1 := by rw [wrap_small _ (by omega) (by omega)]
          rw [show (((j + 1 : Nat)) : Int) = (j : Int) + 1 by omega] at hr2
          have HS1 := Lib.hid hs1
          have HS2 := Lib.hid hs2
          have HBA : Hid (Below w5.heap.size w5 (w5.alloc (.cells #[] 3)).drew) := Lib.hid (below_one w5 _).drew
          have HE : Hid (OwnI w5.heap.size (w5.alloc (.cells #[] 3)).drew (.slice (some ⟨w5.heap.size, 0, none⟩) 0 0) []) := Lib.hid (OwnI.below (empty_own w5 _ (Nat.le_refl _)) (Below.refl _ _).drew)
          have HFL : Hid ((firsts (A ++ [(l, t0)] ++ B)).length = N) := Lib.hid (by rw [firsts_len]; exact HN.out.symm)
          clear hs1 hs2
          go_upto_region 23 with (fail)
          go_region_law (first
            | (refine step_app rfl (.tmp 127) (.tmp 130) rfl w5.heap.size _ _ [] ((firsts (A ++ [(l, t0)] ++ B)).take j) (by simp [Act.eval]) (by simp [Act.eval]) HE.out (IsInts.below HS1.out HBA.out) (by rw [List.length_take, HFL.out]; simp; omega) (by simp) ?_; intro Z1 z1 w6 h1 h2; obtain ⟨N1, hN1⟩ : ∃ q, q = ([] : List Int).length + ((firsts (A ++ [(l, t0)] ++ B)).take j).length := ⟨_, rfl⟩; rw [← hN1] at h1 ⊢; have HO1 := Lib.hid h1; have HB1 := Lib.hid (h2 w5 HBA.out); replace hN1 := Lib.hid hN1; clear h1 h2)
            | (refine step_app rfl (.tmp 131) (.tmp 135) rfl w5.heap.size _ _ ([] ++ (firsts (A ++ [(l, t0)] ++ B)).take j) ((firsts (A ++ [(l, t0)] ++ B)).drop (j + 1)) (by simp [Act.eval]) (by simp [Act.eval]) HO1.out (IsInts.below HS2.out HB1.out) (by rw [List.nil_append, List.length_take, List.length_drop, HFL.out]; omega) HB1.out.size ?_; intro Z2 z2 w7 h1 h2; obtain ⟨N2, hN2⟩ : ∃ q, q = ([] ++ (firsts (A ++ [(l, t0)] ++ B)).take j).length + ((firsts (A ++ [(l, t0)] ++ B)).drop (j + 1)).length := ⟨_, rfl⟩; rw [← hN2] at h1 ⊢; have HO2 := Lib.hid h1; have HB2 := Lib.hid (h2 w5 HB1.out); replace hN2 := Lib.hid hN2; clear h1 h2))
          have HW : Hid (OwnI w.heap.size w7 (.slice Z2 N2 z2) (firsts (A ++ B))) := Lib.hid (by
            have := OwnI.mono HO2.out (B := w.heap.size) (by have := HT.out.below.size; omega)
            rw [List.nil_append, ← hAl, firsts_cut] at this
            exact this)
          have HT := Lib.hid (HT.out.more HB2.out)
          have HU := Lib.hid (HU.out.more HB2.out)
          have HN2 : Hid (N2 = (A ++ B).length) := Lib.hid (by
            rw [hN2.out, List.nil_append, List.length_take, List.length_drop, HFL.out]
            have := HN.out
            simp at this ⊢
            omega)
          clear hr1 hr2 c0 c1 c2
          obtain ⟨ps, tx, er, hps, hw1, hw2⟩ := both_walk tv2 hn1 hn2 at0
          have D1 := Lib.hid hw1
          have D2 := Lib.hid hw2
          obtain ⟨sx, hsx⟩ : ∃ s, s = strB tx := ⟨_, rfl⟩
          rw [← hsx] at D1 D2
          clear hw1 hw2 hsx
          obtain ⟨⟨i0, i1, i2, i3, i4, i5, i6, i7⟩, kf⟩ := box8 HT.out.a
          go_wp2_with fail
          (with_reducible refine (D1.out _ _ HT.out.v).mono ?_)
          rintro e w7 ⟨vp, rfl, hvp, hb7⟩
          have HVP := Lib.hid hvp
          have HT := Lib.hid (HT.out.more hb7)
          have HU := Lib.hid (HU.out.more hb7)
          have HW := Lib.hid (OwnI.below HW.out hb7)
          clear hvp hb7
          clear i0 i1 i2 i3 i4 i5 i6 i7 kf
          obtain ⟨⟨i0, i1, i2, i3, i4, i5, i6, i7⟩, kf⟩ := box8 HU.out.a
          go_wp2_with fail
          (with_reducible refine (D2.out _ _ HU.out.v).mono ?_)
          rintro e w8 ⟨vq, rfl, hvq, hb8⟩
          have HVQ := Lib.hid hvq
          have HT := Lib.hid (HT.out.more hb8)
          have HU := Lib.hid (HU.out.more hb8)
          have HW := Lib.hid (OwnI.below HW.out hb8)
          have HVP := Lib.hid (HVP.out.below hb8)
          clear hvq hb8
          clear i0 i1 i2 i3 i4 i5 i6 i7 kf
          go_wp2_with fail
          (with_reducible refine (lsame_calls vp vq (natI ps) _ HVP.out HVQ.out (by rw [natI_len]; omega)).mono ?_)
          rintro e w9 ⟨rfl, hb9⟩
          have HT := Lib.hid (HT.out.more hb9)
          have HU := Lib.hid (HU.out.more hb9)
          have HW := Lib.hid (OwnI.below HW.out hb9)
          clear hb9
          go_wp2_with fail
          exact ⟨⟨i + 1, k2, A ++ B, N2, _, _, rA1, rn1, rc1, rA2, rn2, rc2, rdl, rjr, rsq, rA7, rn7, rc7, yA1, yn1, yc1, yA2, yn2, yc2, ydl, yjr, ysq, yA7, yn7, yc7, by omega, by go_num, rfl, HT.out, HU.out, tv2, HW.out, (by have := HN2.out; have := HN.out; simp at *; omega), HN2.out⟩, by simp [intOf]; omega⟩
      · have hth2 : ¬ (0 : Int) ≤ nn ∨ (0 ≤ nn ∧ ¬ nn < (N : Int)) := by omega
        rcases hth2 with hth2 | ⟨hth2, hth3⟩
        · clear hth
          go_upto_region 12 with (fail)
          go_wp2_with fail
          rw [HRX.out]
          (with_reducible refine (LK_.out _).mono ?_)
          rintro e w3 ⟨rfl, hb3⟩
          have HT := Lib.hid (HT.out.more hb3)
          have HU := Lib.hid (HU.out.more hb3)
          have HW := Lib.hid (OwnI.below HW.out hb3)
          clear c0 c1 c2 hb3
          obtain ⟨c0, c1, c2⟩ := HC.out _ HT.out.below
          by_cases hkd : kd = 0
          · subst hkd
            go_upto_region 15 with (fail)
            clear c0 c1 c2
            by_cases hf : needC kk + (1 + (pagesOf (ts ++ [])).length) ≤ n
            · obtain ⟨k2, l2, pk, hc1, hc2⟩ := both_put (A := ts) (O := []) (B := []) (old := []) (no := 0) (t := longL kk) (by simpa using tv) hn1 hn2 (.inl ⟨rfl, rfl, rfl⟩) (by rw [longL_len]; omega) (by rw [longL_len]; exact hf)
              have tv2 : TV (shL n) k2 (ts ++ [(l2, longL kk)] ++ []) := pk.tv
              rw [List.append_nil] at tv2
              obtain ⟨p1, hp1⟩ : ∃ p, p = l2.getD 0 0 := ⟨_, rfl⟩
              rw [← hp1] at hc1 hc2
              have HP1 := Lib.hid hp1
              clear hp1
              have C1 := Lib.hid hc1
              have C2 := Lib.hid hc2
              have HF1 := Lib.hid (fun (W : World) (v : Value) (h : IsVault W v k2) => tv2.form hn1 hn2 h)
              clear hc1 hc2
              obtain ⟨⟨i0, i1, i2, i3, i4, i5, i6, i7⟩, kf⟩ := box8 HT.out.a
              go_wp2_with fail
              (with_reducible refine (C1.out _ _ HT.out.v).mono ?_)
              rintro e w4 ⟨v', rfl, hv', hb4⟩
              obtain ⟨rA1, rn1, rc1, rA2, rn2, rc2, rdl, rjr, rsq, rA7, rn7, rc7, rfl⟩ := HF1.out _ _ hv'
              have hT := HT.out.more hb4
              obtain ⟨X, hX, hVX, hk⟩ := hT.put hv'
              have HU := Lib.hid (hT.beside (HU.out.more hb4) hVX hk (by have := HNE.out; omega))
              have HW := Lib.hid (OwnI.other hT (OwnI.below HW.out hb4) hk)
              have HXX := Lib.hid hX
              have HT := Lib.hid hVX
              clear i0 i1 i2 i3 i4 i5 i6 i7 kf
              obtain ⟨⟨i0, i1, i2, i3, i4, i5, i6, i7⟩, kf⟩ := box8 hT.a
              clear hX hVX hk hT hb4 hv'
              go_upto_region 16 with (fail)
              rw [HXX.out]
              clear HXX
              clear i0 i1 i2 i3 i4 i5 i6 i7 kf
              obtain ⟨⟨i0, i1, i2, i3, i4, i5, i6, i7⟩, kf⟩ := box8 HU.out.a
              go_wp2_with fail
              (with_reducible refine (C2.out _ _ HU.out.v).mono ?_)
              rintro e w4 ⟨v', rfl, hv', hb4⟩
              obtain ⟨yA1, yn1, yc1, yA2, yn2, yc2, ydl, yjr, ysq, yA7, yn7, yc7, rfl⟩ := HF1.out _ _ hv'
              have hT := HU.out.more hb4
              obtain ⟨X, hX, hVX, hk⟩ := hT.put hv'
              have HT := Lib.hid (hT.beside (HT.out.more hb4) hVX hk (by have := HNE.out; omega))
              have HW := Lib.hid (OwnI.other hT (OwnI.below HW.out hb4) hk)
              have HXX := Lib.hid hX
              have HU := Lib.hid hVX
              clear i0 i1 i2 i3 i4 i5 i6 i7 kf
              obtain ⟨⟨i0, i1, i2, i3, i4, i5, i6, i7⟩, kf⟩ := box8 hT.a
              clear hX hVX hk hT hb4 hv'
              go_upto_region 19 with (fail)
              rw [HXX.out]
              clear HXX
              clear i0 i1 i2 i3 i4 i5 i6 i7 kf
              have CS := Lib.hid (law_same tv2 hn1 hn2)
              obtain ⟨⟨i0, i1, i2, i3, i4, i5, i6, i7⟩, kf⟩ := box8 HT.out.a
              obtain ⟨⟨j0, j1, j2, j3, j4, j5, j6, j7⟩, jf⟩ := box8 HU.out.a
              go_wp2_with fail
              (with_reducible refine (CS.out _ _ _ HT.out.v HU.out.v).mono ?_)
              rintro e w5 ⟨rfl, hb5⟩
              have HT := Lib.hid (HT.out.more hb5)
              have HU := Lib.hid (HU.out.more hb5)
              have HW := Lib.hid (OwnI.below HW.out hb5)
              clear hb5 CS j0 j1 j2 j3 j4 j5 j6 j7 jf
              clear i0 i1 i2 i3 i4 i5 i6 i7 kf
              obtain ⟨c0, c1, c2⟩ := HC.out _ HT.out.below
              go_wp2_with (at_builtin; refine wpList_push (by rfl) (.tmp 140) (.tmp 142) (by rfl) w.heap.size _ (firsts ts) ((p1 : Nat) : Int) w5.heap.size (by rfl) (by rfl) (by exact HW.out.below (below_one _ _)) (by exact heap_alloc_new w5 _) (by rw [firsts_len, ← HN.out]; omega) (by have := HT.out.below.size; simp; omega) ?_; intro Z6 z6 w6' hown' hbl' hkeep' hsz' hat'; have hbw : Below w.heap.size w w6' := hbl' w (HT.out.below.trans ((below_one w5 (.cells #[.int .i64 ((p1 : Nat) : Int)] 3)).mono HT.out.below.size)); have hkk := push_kept (OwnI.below HW.out (below_one w5 (.cells #[.int .i64 ((p1 : Nat) : Int)] 3))) hkeep'; (with_reducible have HT := Lib.hid ((HT.out.more (below_one w5 (.cells #[.int .i64 ((p1 : Nat) : Int)] 3))).keep hbw hkk)); (with_reducible have HU := Lib.hid ((HU.out.more (below_one w5 (.cells #[.int .i64 ((p1 : Nat) : Int)] 3))).keep hbw hkk)); have HW := Lib.hid (push_firsts (t := longL kk) hown' HP1.out HN.out); clear hown' hbl' hkeep' hsz' hat' hbw hkk c0 c1 c2; rw [firsts_len, ← HN.out]; obtain ⟨⟨i0, i1, i2, i3, i4, i5, i6, i7⟩, kf⟩ := box8 HT.out.a)
              obtain ⟨ps, tx, er, hps, hw1, hw2⟩ := both_walk tv2 hn1 hn2 at0
              have D1 := Lib.hid hw1
              have D2 := Lib.hid hw2
              obtain ⟨sx, hsx⟩ : ∃ s, s = strB tx := ⟨_, rfl⟩
              rw [← hsx] at D1 D2
              clear hw1 hw2 hsx

              (with_reducible refine (D1.out _ _ HT.out.v).mono ?_)
              rintro e w7 ⟨vp, rfl, hvp, hb7⟩
              have HVP := Lib.hid hvp
              have HT := Lib.hid (HT.out.more hb7)
              have HU := Lib.hid (HU.out.more hb7)
              have HW := Lib.hid (OwnI.below HW.out hb7)
              clear hvp hb7
              clear i0 i1 i2 i3 i4 i5 i6 i7 kf
              obtain ⟨⟨i0, i1, i2, i3, i4, i5, i6, i7⟩, kf⟩ := box8 HU.out.a
              go_wp2_with fail
              (with_reducible refine (D2.out _ _ HU.out.v).mono ?_)
              rintro e w8 ⟨vq, rfl, hvq, hb8⟩
              have HVQ := Lib.hid hvq
              have HT := Lib.hid (HT.out.more hb8)
              have HU := Lib.hid (HU.out.more hb8)
              have HW := Lib.hid (OwnI.below HW.out hb8)
              have HVP := Lib.hid (HVP.out.below hb8)
              clear hvq hb8
              clear i0 i1 i2 i3 i4 i5 i6 i7 kf
              go_wp2_with fail
              (with_reducible refine (lsame_calls vp vq (natI ps) _ HVP.out HVQ.out (by rw [natI_len]; omega)).mono ?_)
              rintro e w9 ⟨rfl, hb9⟩
              have HT := Lib.hid (HT.out.more hb9)
              have HU := Lib.hid (HU.out.more hb9)
              have HW := Lib.hid (OwnI.below HW.out hb9)
              clear hb9
              go_wp2_with fail
              exact ⟨⟨i + 1, k2, ts ++ [(l2, longL kk)], N + 1, Z6, z6, rA1, rn1, rc1, rA2, rn2, rc2, rdl, rjr, rsq, rA7, rn7, rc7, yA1, yn1, yc1, yA2, yn2, yc2, ydl, yjr, ysq, yA7, yn7, yc7, by omega, by go_num, rfl, HT.out, HU.out, tv2, HW.out, (by omega), (by rw [HN.out]; simp)⟩, by simp [intOf]; omega⟩
            · obtain ⟨hc1, hc2⟩ := both_put_no (A := ts) (O := []) (B := []) (old := []) (no := 0) (t := longL kk) (by simpa using tv) hn1 hn2 (.inl ⟨rfl, rfl, rfl⟩) (by rw [longL_len]; omega) (by rw [longL_len]; exact hf)
              have C1 := Lib.hid hc1
              have C2 := Lib.hid hc2
              have HF1 := Lib.hid (fun (W : World) (v : Value) (h : IsVault W v k1) => tv.form hn1 hn2 h)
              clear hc1 hc2
              obtain ⟨⟨i0, i1, i2, i3, i4, i5, i6, i7⟩, kf⟩ := box8 HT.out.a
              go_wp2_with fail
              (with_reducible refine (C1.out _ _ HT.out.v).mono ?_)
              rintro e w4 ⟨v', rfl, hv', hb4⟩
              obtain ⟨rA1, rn1, rc1, rA2, rn2, rc2, rdl, rjr, rsq, rA7, rn7, rc7, rfl⟩ := HF1.out _ _ hv'
              have hT := HT.out.more hb4
              obtain ⟨X, hX, hVX, hk⟩ := hT.put hv'
              have HU := Lib.hid (hT.beside (HU.out.more hb4) hVX hk (by have := HNE.out; omega))
              have HW := Lib.hid (OwnI.other hT (OwnI.below HW.out hb4) hk)
              have HXX := Lib.hid hX
              have HT := Lib.hid hVX
              clear i0 i1 i2 i3 i4 i5 i6 i7 kf
              obtain ⟨⟨i0, i1, i2, i3, i4, i5, i6, i7⟩, kf⟩ := box8 hT.a
              clear hX hVX hk hT hb4 hv'
              go_upto_region 16 with (fail)
              rw [HXX.out]
              clear HXX
              clear i0 i1 i2 i3 i4 i5 i6 i7 kf
              obtain ⟨⟨i0, i1, i2, i3, i4, i5, i6, i7⟩, kf⟩ := box8 HU.out.a
              go_wp2_with fail
              (with_reducible refine (C2.out _ _ HU.out.v).mono ?_)
              rintro e w4 ⟨v', rfl, hv', hb4⟩
              obtain ⟨yA1, yn1, yc1, yA2, yn2, yc2, ydl, yjr, ysq, yA7, yn7, yc7, rfl⟩ := HF1.out _ _ hv'
              have hT := HU.out.more hb4
              obtain ⟨X, hX, hVX, hk⟩ := hT.put hv'
              have HT := Lib.hid (hT.beside (HT.out.more hb4) hVX hk (by have := HNE.out; omega))
              have HW := Lib.hid (OwnI.other hT (OwnI.below HW.out hb4) hk)
              have HXX := Lib.hid hX
              have HU := Lib.hid hVX
              clear i0 i1 i2 i3 i4 i5 i6 i7 kf
              obtain ⟨⟨i0, i1, i2, i3, i4, i5, i6, i7⟩, kf⟩ := box8 hT.a
              clear hX hVX hk hT hb4 hv'
              go_upto_region 19 with (fail)
              rw [HXX.out]
              clear HXX
              clear i0 i1 i2 i3 i4 i5 i6 i7 kf
              have CS := Lib.hid (law_same tv hn1 hn2)
              obtain ⟨⟨i0, i1, i2, i3, i4, i5, i6, i7⟩, kf⟩ := box8 HT.out.a
              obtain ⟨⟨j0, j1, j2, j3, j4, j5, j6, j7⟩, jf⟩ := box8 HU.out.a
              go_wp2_with fail
              (with_reducible refine (CS.out _ _ _ HT.out.v HU.out.v).mono ?_)
              rintro e w5 ⟨rfl, hb5⟩
              have HT := Lib.hid (HT.out.more hb5)
              have HU := Lib.hid (HU.out.more hb5)
              have HW := Lib.hid (OwnI.below HW.out hb5)
              clear hb5 CS j0 j1 j2 j3 j4 j5 j6 j7 jf
              clear i0 i1 i2 i3 i4 i5 i6 i7 kf
              obtain ⟨c0, c1, c2⟩ := HC.out _ HT.out.below
              obtain ⟨ps, tx, er, hps, hw1, hw2⟩ := both_walk tv hn1 hn2 at0
              have D1 := Lib.hid hw1
              have D2 := Lib.hid hw2
              obtain ⟨sx, hsx⟩ : ∃ s, s = strB tx := ⟨_, rfl⟩
              rw [← hsx] at D1 D2
              clear hw1 hw2 hsx
              obtain ⟨⟨i0, i1, i2, i3, i4, i5, i6, i7⟩, kf⟩ := box8 HT.out.a
              go_wp2_with fail
              (with_reducible refine (D1.out _ _ HT.out.v).mono ?_)
              rintro e w7 ⟨vp, rfl, hvp, hb7⟩
              have HVP := Lib.hid hvp
              have HT := Lib.hid (HT.out.more hb7)
              have HU := Lib.hid (HU.out.more hb7)
              have HW := Lib.hid (OwnI.below HW.out hb7)
              clear hvp hb7
              clear i0 i1 i2 i3 i4 i5 i6 i7 kf
              obtain ⟨⟨i0, i1, i2, i3, i4, i5, i6, i7⟩, kf⟩ := box8 HU.out.a
              go_wp2_with fail
              (with_reducible refine (D2.out _ _ HU.out.v).mono ?_)
              rintro e w8 ⟨vq, rfl, hvq, hb8⟩
              have HVQ := Lib.hid hvq
              have HT := Lib.hid (HT.out.more hb8)
              have HU := Lib.hid (HU.out.more hb8)
              have HW := Lib.hid (OwnI.below HW.out hb8)
              have HVP := Lib.hid (HVP.out.below hb8)
              clear hvq hb8
              clear i0 i1 i2 i3 i4 i5 i6 i7 kf
              go_wp2_with fail
              (with_reducible refine (lsame_calls vp vq (natI ps) _ HVP.out HVQ.out (by rw [natI_len]; omega)).mono ?_)
              rintro e w9 ⟨rfl, hb9⟩
              have HT := Lib.hid (HT.out.more hb9)
              have HU := Lib.hid (HU.out.more hb9)
              have HW := Lib.hid (OwnI.below HW.out hb9)
              clear hb9
              go_wp2_with fail
              exact ⟨⟨i + 1, k1, ts, N, _, _, rA1, rn1, rc1, rA2, rn2, rc2, rdl, rjr, rsq, rA7, rn7, rc7, yA1, yn1, yc1, yA2, yn2, yc2, ydl, yjr, ysq, yA7, yn7, yc7, by omega, by go_num, rfl, HT.out, HU.out, tv, HW.out, (by omega), HN.out⟩, by simp [intOf]; omega⟩
          · have hkd1 : (kd == (0 : Int)) = false := by simpa using hkd
            have hkd2 : (kd != (0 : Int)) = true := by simpa using hkd
            go_upto_region 17 with (fail)
            clear c0 c1 c2
            obtain ⟨hc1, hc2⟩ := both_drop_no tv hn1 hn2
            have C1 := Lib.hid hc1
            have C2 := Lib.hid hc2
            have HF1 := Lib.hid (fun (W : World) (v : Value) (h : IsVault W v k1) => tv.form hn1 hn2 h)
            clear hc1 hc2
            obtain ⟨⟨i0, i1, i2, i3, i4, i5, i6, i7⟩, kf⟩ := box8 HT.out.a
            go_wp2_with fail
            (with_reducible refine (C1.out _ _ HT.out.v).mono ?_)
            rintro e w4 ⟨v', rfl, hv', hb4⟩
            obtain ⟨rA1, rn1, rc1, rA2, rn2, rc2, rdl, rjr, rsq, rA7, rn7, rc7, rfl⟩ := HF1.out _ _ hv'
            have hT := HT.out.more hb4
            obtain ⟨X, hX, hVX, hk⟩ := hT.put hv'
            have HU := Lib.hid (hT.beside (HU.out.more hb4) hVX hk (by have := HNE.out; omega))
            have HW := Lib.hid (OwnI.other hT (OwnI.below HW.out hb4) hk)
            have HXX := Lib.hid hX
            have HT := Lib.hid hVX
            clear i0 i1 i2 i3 i4 i5 i6 i7 kf
            obtain ⟨⟨i0, i1, i2, i3, i4, i5, i6, i7⟩, kf⟩ := box8 hT.a
            clear hX hVX hk hT hb4 hv'
            go_upto_region 18 with (fail)
            rw [HXX.out]
            clear HXX
            clear i0 i1 i2 i3 i4 i5 i6 i7 kf
            obtain ⟨⟨i0, i1, i2, i3, i4, i5, i6, i7⟩, kf⟩ := box8 HU.out.a
            go_wp2_with fail
            (with_reducible refine (C2.out _ _ HU.out.v).mono ?_)
            rintro e w4 ⟨v', rfl, hv', hb4⟩
            obtain ⟨yA1, yn1, yc1, yA2, yn2, yc2, ydl, yjr, ysq, yA7, yn7, yc7, rfl⟩ := HF1.out _ _ hv'
            have hT := HU.out.more hb4
            obtain ⟨X, hX, hVX, hk⟩ := hT.put hv'
            have HT := Lib.hid (hT.beside (HT.out.more hb4) hVX hk (by have := HNE.out; omega))
            have HW := Lib.hid (OwnI.other hT (OwnI.below HW.out hb4) hk)
            have HXX := Lib.hid hX
            have HU := Lib.hid hVX
            clear i0 i1 i2 i3 i4 i5 i6 i7 kf
            obtain ⟨⟨i0, i1, i2, i3, i4, i5, i6, i7⟩, kf⟩ := box8 hT.a
            clear hX hVX hk hT hb4 hv'
            go_upto_region 19 with (fail)
            rw [HXX.out]
            clear HXX
            clear i0 i1 i2 i3 i4 i5 i6 i7 kf
            have CS := Lib.hid (law_same tv hn1 hn2)
            obtain ⟨⟨i0, i1, i2, i3, i4, i5, i6, i7⟩, kf⟩ := box8 HT.out.a
            obtain ⟨⟨j0, j1, j2, j3, j4, j5, j6, j7⟩, jf⟩ := box8 HU.out.a
            go_wp2_with fail
            (with_reducible refine (CS.out _ _ _ HT.out.v HU.out.v).mono ?_)
            rintro e w5 ⟨rfl, hb5⟩
            have HT := Lib.hid (HT.out.more hb5)
            have HU := Lib.hid (HU.out.more hb5)
            have HW := Lib.hid (OwnI.below HW.out hb5)
            clear hb5 CS j0 j1 j2 j3 j4 j5 j6 j7 jf
            clear i0 i1 i2 i3 i4 i5 i6 i7 kf
            obtain ⟨c0, c1, c2⟩ := HC.out _ HT.out.below
            obtain ⟨ps, tx, er, hps, hw1, hw2⟩ := both_walk tv hn1 hn2 at0
            have D1 := Lib.hid hw1
            have D2 := Lib.hid hw2
            obtain ⟨sx, hsx⟩ : ∃ s, s = strB tx := ⟨_, rfl⟩
            rw [← hsx] at D1 D2
            clear hw1 hw2 hsx
            obtain ⟨⟨i0, i1, i2, i3, i4, i5, i6, i7⟩, kf⟩ := box8 HT.out.a
            go_wp2_with fail
            (with_reducible refine (D1.out _ _ HT.out.v).mono ?_)
            rintro e w7 ⟨vp, rfl, hvp, hb7⟩
            have HVP := Lib.hid hvp
            have HT := Lib.hid (HT.out.more hb7)
            have HU := Lib.hid (HU.out.more hb7)
            have HW := Lib.hid (OwnI.below HW.out hb7)
            clear hvp hb7
            clear i0 i1 i2 i3 i4 i5 i6 i7 kf
            obtain ⟨⟨i0, i1, i2, i3, i4, i5, i6, i7⟩, kf⟩ := box8 HU.out.a
            go_wp2_with fail
            (with_reducible refine (D2.out _ _ HU.out.v).mono ?_)
            rintro e w8 ⟨vq, rfl, hvq, hb8⟩
            have HVQ := Lib.hid hvq
            have HT := Lib.hid (HT.out.more hb8)
            have HU := Lib.hid (HU.out.more hb8)
            have HW := Lib.hid (OwnI.below HW.out hb8)
            have HVP := Lib.hid (HVP.out.below hb8)
            clear hvq hb8
            clear i0 i1 i2 i3 i4 i5 i6 i7 kf
            go_wp2_with fail
            (with_reducible refine (lsame_calls vp vq (natI ps) _ HVP.out HVQ.out (by rw [natI_len]; omega)).mono ?_)
            rintro e w9 ⟨rfl, hb9⟩
            have HT := Lib.hid (HT.out.more hb9)
            have HU := Lib.hid (HU.out.more hb9)
            have HW := Lib.hid (OwnI.below HW.out hb9)
            clear hb9
            go_wp2_with fail
            exact ⟨⟨i + 1, k1, ts, N, _, _, rA1, rn1, rc1, rA2, rn2, rc2, rdl, rjr, rsq, rA7, rn7, rc7, yA1, yn1, yc1, yA2, yn2, yc2, ydl, yjr, ysq, yA7, yn7, yc7, by omega, by go_num, rfl, HT.out, HU.out, tv, HW.out, (by omega), HN.out⟩, by simp [intOf]; omega⟩
        · clear hth
          go_upto_region 12 with (fail)
          go_wp2_with fail
          rw [HRX.out]
          (with_reducible refine (LK_.out _).mono ?_)
          rintro e w3 ⟨rfl, hb3⟩
          have HT := Lib.hid (HT.out.more hb3)
          have HU := Lib.hid (HU.out.more hb3)
          have HW := Lib.hid (OwnI.below HW.out hb3)
          clear c0 c1 c2 hb3
          obtain ⟨c0, c1, c2⟩ := HC.out _ HT.out.below
          by_cases hkd : kd = 0
          · subst hkd
            go_upto_region 15 with (fail)
            clear c0 c1 c2
            by_cases hf : needC kk + (1 + (pagesOf (ts ++ [])).length) ≤ n
            · obtain ⟨k2, l2, pk, hc1, hc2⟩ := both_put (A := ts) (O := []) (B := []) (old := []) (no := 0) (t := longL kk) (by simpa using tv) hn1 hn2 (.inl ⟨rfl, rfl, rfl⟩) (by rw [longL_len]; omega) (by rw [longL_len]; exact hf)
              have tv2 : TV (shL n) k2 (ts ++ [(l2, longL kk)] ++ []) := pk.tv
              rw [List.append_nil] at tv2
              obtain ⟨p1, hp1⟩ : ∃ p, p = l2.getD 0 0 := ⟨_, rfl⟩
              rw [← hp1] at hc1 hc2
              have HP1 := Lib.hid hp1
              clear hp1
              have C1 := Lib.hid hc1
              have C2 := Lib.hid hc2
              have HF1 := Lib.hid (fun (W : World) (v : Value) (h : IsVault W v k2) => tv2.form hn1 hn2 h)
              clear hc1 hc2
              obtain ⟨⟨i0, i1, i2, i3, i4, i5, i6, i7⟩, kf⟩ := box8 HT.out.a
              go_wp2_with fail
              (with_reducible refine (C1.out _ _ HT.out.v).mono ?_)
              rintro e w4 ⟨v', rfl, hv', hb4⟩
              obtain ⟨rA1, rn1, rc1, rA2, rn2, rc2, rdl, rjr, rsq, rA7, rn7, rc7, rfl⟩ := HF1.out _ _ hv'
              have hT := HT.out.more hb4
              obtain ⟨X, hX, hVX, hk⟩ := hT.put hv'
              have HU := Lib.hid (hT.beside (HU.out.more hb4) hVX hk (by have := HNE.out; omega))
              have HW := Lib.hid (OwnI.other hT (OwnI.below HW.out hb4) hk)
              have HXX := Lib.hid hX
              have HT := Lib.hid hVX
              clear i0 i1 i2 i3 i4 i5 i6 i7 kf
              obtain ⟨⟨i0, i1, i2, i3, i4, i5, i6, i7⟩, kf⟩ := box8 hT.a
              clear hX hVX hk hT hb4 hv'
              go_upto_region 16 with (fail)
              rw [HXX.out]
              clear HXX
              clear i0 i1 i2 i3 i4 i5 i6 i7 kf
              obtain ⟨⟨i0, i1, i2, i3, i4, i5, i6, i7⟩, kf⟩ := box8 HU.out.a
              go_wp2_with fail
              (with_reducible refine (C2.out _ _ HU.out.v).mono ?_)
              rintro e w4 ⟨v', rfl, hv', hb4⟩
              obtain ⟨yA1, yn1, yc1, yA2, yn2, yc2, ydl, yjr, ysq, yA7, yn7, yc7, rfl⟩ := HF1.out _ _ hv'
              have hT := HU.out.more hb4
              obtain ⟨X, hX, hVX, hk⟩ := hT.put hv'
              have HT := Lib.hid (hT.beside (HT.out.more hb4) hVX hk (by have := HNE.out; omega))
              have HW := Lib.hid (OwnI.other hT (OwnI.below HW.out hb4) hk)
              have HXX := Lib.hid hX
              have HU := Lib.hid hVX
              clear i0 i1 i2 i3 i4 i5 i6 i7 kf
              obtain ⟨⟨i0, i1, i2, i3, i4, i5, i6, i7⟩, kf⟩ := box8 hT.a
              clear hX hVX hk hT hb4 hv'
              go_upto_region 19 with (fail)
              rw [HXX.out]
              clear HXX
              clear i0 i1 i2 i3 i4 i5 i6 i7 kf
              have CS := Lib.hid (law_same tv2 hn1 hn2)
              obtain ⟨⟨i0, i1, i2, i3, i4, i5, i6, i7⟩, kf⟩ := box8 HT.out.a
              obtain ⟨⟨j0, j1, j2, j3, j4, j5, j6, j7⟩, jf⟩ := box8 HU.out.a
              go_wp2_with fail
              (with_reducible refine (CS.out _ _ _ HT.out.v HU.out.v).mono ?_)
              rintro e w5 ⟨rfl, hb5⟩
              have HT := Lib.hid (HT.out.more hb5)
              have HU := Lib.hid (HU.out.more hb5)
              have HW := Lib.hid (OwnI.below HW.out hb5)
              clear hb5 CS j0 j1 j2 j3 j4 j5 j6 j7 jf
              clear i0 i1 i2 i3 i4 i5 i6 i7 kf
              obtain ⟨c0, c1, c2⟩ := HC.out _ HT.out.below
              go_wp2_with (at_builtin; refine wpList_push (by rfl) (.tmp 140) (.tmp 142) (by rfl) w.heap.size _ (firsts ts) ((p1 : Nat) : Int) w5.heap.size (by rfl) (by rfl) (by exact HW.out.below (below_one _ _)) (by exact heap_alloc_new w5 _) (by rw [firsts_len, ← HN.out]; omega) (by have := HT.out.below.size; simp; omega) ?_; intro Z6 z6 w6' hown' hbl' hkeep' hsz' hat'; have hbw : Below w.heap.size w w6' := hbl' w (HT.out.below.trans ((below_one w5 (.cells #[.int .i64 ((p1 : Nat) : Int)] 3)).mono HT.out.below.size)); have hkk := push_kept (OwnI.below HW.out (below_one w5 (.cells #[.int .i64 ((p1 : Nat) : Int)] 3))) hkeep'; (with_reducible have HT := Lib.hid ((HT.out.more (below_one w5 (.cells #[.int .i64 ((p1 : Nat) : Int)] 3))).keep hbw hkk)); (with_reducible have HU := Lib.hid ((HU.out.more (below_one w5 (.cells #[.int .i64 ((p1 : Nat) : Int)] 3))).keep hbw hkk)); have HW := Lib.hid (push_firsts (t := longL kk) hown' HP1.out HN.out); clear hown' hbl' hkeep' hsz' hat' hbw hkk c0 c1 c2; rw [firsts_len, ← HN.out]; obtain ⟨⟨i0, i1, i2, i3, i4, i5, i6, i7⟩, kf⟩ := box8 HT.out.a)
              obtain ⟨ps, tx, er, hps, hw1, hw2⟩ := both_walk tv2 hn1 hn2 at0
              have D1 := Lib.hid hw1
              have D2 := Lib.hid hw2
              obtain ⟨sx, hsx⟩ : ∃ s, s = strB tx := ⟨_, rfl⟩
              rw [← hsx] at D1 D2
              clear hw1 hw2 hsx

              (with_reducible refine (D1.out _ _ HT.out.v).mono ?_)
              rintro e w7 ⟨vp, rfl, hvp, hb7⟩
              have HVP := Lib.hid hvp
              have HT := Lib.hid (HT.out.more hb7)
              have HU := Lib.hid (HU.out.more hb7)
              have HW := Lib.hid (OwnI.below HW.out hb7)
              clear hvp hb7
              clear i0 i1 i2 i3 i4 i5 i6 i7 kf
              obtain ⟨⟨i0, i1, i2, i3, i4, i5, i6, i7⟩, kf⟩ := box8 HU.out.a
              go_wp2_with fail
              (with_reducible refine (D2.out _ _ HU.out.v).mono ?_)
              rintro e w8 ⟨vq, rfl, hvq, hb8⟩
              have HVQ := Lib.hid hvq
              have HT := Lib.hid (HT.out.more hb8)
              have HU := Lib.hid (HU.out.more hb8)
              have HW := Lib.hid (OwnI.below HW.out hb8)
              have HVP := Lib.hid (HVP.out.below hb8)
              clear hvq hb8
              clear i0 i1 i2 i3 i4 i5 i6 i7 kf
              go_wp2_with fail
              (with_reducible refine (lsame_calls vp vq (natI ps) _ HVP.out HVQ.out (by rw [natI_len]; omega)).mono ?_)
              rintro e w9 ⟨rfl, hb9⟩
              have HT := Lib.hid (HT.out.more hb9)
              have HU := Lib.hid (HU.out.more hb9)
              have HW := Lib.hid (OwnI.below HW.out hb9)
              clear hb9
              go_wp2_with fail
              exact ⟨⟨i + 1, k2, ts ++ [(l2, longL kk)], N + 1, Z6, z6, rA1, rn1, rc1, rA2, rn2, rc2, rdl, rjr, rsq, rA7, rn7, rc7, yA1, yn1, yc1, yA2, yn2, yc2, ydl, yjr, ysq, yA7, yn7, yc7, by omega, by go_num, rfl, HT.out, HU.out, tv2, HW.out, (by omega), (by rw [HN.out]; simp)⟩, by simp [intOf]; omega⟩
            · obtain ⟨hc1, hc2⟩ := both_put_no (A := ts) (O := []) (B := []) (old := []) (no := 0) (t := longL kk) (by simpa using tv) hn1 hn2 (.inl ⟨rfl, rfl, rfl⟩) (by rw [longL_len]; omega) (by rw [longL_len]; exact hf)
              have C1 := Lib.hid hc1
              have C2 := Lib.hid hc2
              have HF1 := Lib.hid (fun (W : World) (v : Value) (h : IsVault W v k1) => tv.form hn1 hn2 h)
              clear hc1 hc2
              obtain ⟨⟨i0, i1, i2, i3, i4, i5, i6, i7⟩, kf⟩ := box8 HT.out.a
              go_wp2_with fail
              (with_reducible refine (C1.out _ _ HT.out.v).mono ?_)
              rintro e w4 ⟨v', rfl, hv', hb4⟩
              obtain ⟨rA1, rn1, rc1, rA2, rn2, rc2, rdl, rjr, rsq, rA7, rn7, rc7, rfl⟩ := HF1.out _ _ hv'
              have hT := HT.out.more hb4
              obtain ⟨X, hX, hVX, hk⟩ := hT.put hv'
              have HU := Lib.hid (hT.beside (HU.out.more hb4) hVX hk (by have := HNE.out; omega))
              have HW := Lib.hid (OwnI.other hT (OwnI.below HW.out hb4) hk)
              have HXX := Lib.hid hX
              have HT := Lib.hid hVX
              clear i0 i1 i2 i3 i4 i5 i6 i7 kf
              obtain ⟨⟨i0, i1, i2, i3, i4, i5, i6, i7⟩, kf⟩ := box8 hT.a
              clear hX hVX hk hT hb4 hv'
              go_upto_region 16 with (fail)
              rw [HXX.out]
              clear HXX
              clear i0 i1 i2 i3 i4 i5 i6 i7 kf
              obtain ⟨⟨i0, i1, i2, i3, i4, i5, i6, i7⟩, kf⟩ := box8 HU.out.a
              go_wp2_with fail
              (with_reducible refine (C2.out _ _ HU.out.v).mono ?_)
              rintro e w4 ⟨v', rfl, hv', hb4⟩
              obtain ⟨yA1, yn1, yc1, yA2, yn2, yc2, ydl, yjr, ysq, yA7, yn7, yc7, rfl⟩ := HF1.out _ _ hv'
              have hT := HU.out.more hb4
              obtain ⟨X, hX, hVX, hk⟩ := hT.put hv'
              have HT := Lib.hid (hT.beside (HT.out.more hb4) hVX hk (by have := HNE.out; omega))
              have HW := Lib.hid (OwnI.other hT (OwnI.below HW.out hb4) hk)
              have HXX := Lib.hid hX
              have HU := Lib.hid hVX
              clear i0 i1 i2 i3 i4 i5 i6 i7 kf
              obtain ⟨⟨i0, i1, i2, i3, i4, i5, i6, i7⟩, kf⟩ := box8 hT.a
              clear hX hVX hk hT hb4 hv'
              go_upto_region 19 with (fail)
              rw [HXX.out]
              clear HXX
              clear i0 i1 i2 i3 i4 i5 i6 i7 kf
              have CS := Lib.hid (law_same tv hn1 hn2)
              obtain ⟨⟨i0, i1, i2, i3, i4, i5, i6, i7⟩, kf⟩ := box8 HT.out.a
              obtain ⟨⟨j0, j1, j2, j3, j4, j5, j6, j7⟩, jf⟩ := box8 HU.out.a
              go_wp2_with fail
              (with_reducible refine (CS.out _ _ _ HT.out.v HU.out.v).mono ?_)
              rintro e w5 ⟨rfl, hb5⟩
              have HT := Lib.hid (HT.out.more hb5)
              have HU := Lib.hid (HU.out.more hb5)
              have HW := Lib.hid (OwnI.below HW.out hb5)
              clear hb5 CS j0 j1 j2 j3 j4 j5 j6 j7 jf
              clear i0 i1 i2 i3 i4 i5 i6 i7 kf
              obtain ⟨c0, c1, c2⟩ := HC.out _ HT.out.below
              obtain ⟨ps, tx, er, hps, hw1, hw2⟩ := both_walk tv hn1 hn2 at0
              have D1 := Lib.hid hw1
              have D2 := Lib.hid hw2
              obtain ⟨sx, hsx⟩ : ∃ s, s = strB tx := ⟨_, rfl⟩
              rw [← hsx] at D1 D2
              clear hw1 hw2 hsx
              obtain ⟨⟨i0, i1, i2, i3, i4, i5, i6, i7⟩, kf⟩ := box8 HT.out.a
              go_wp2_with fail
              (with_reducible refine (D1.out _ _ HT.out.v).mono ?_)
              rintro e w7 ⟨vp, rfl, hvp, hb7⟩
              have HVP := Lib.hid hvp
              have HT := Lib.hid (HT.out.more hb7)
              have HU := Lib.hid (HU.out.more hb7)
              have HW := Lib.hid (OwnI.below HW.out hb7)
              clear hvp hb7
              clear i0 i1 i2 i3 i4 i5 i6 i7 kf
              obtain ⟨⟨i0, i1, i2, i3, i4, i5, i6, i7⟩, kf⟩ := box8 HU.out.a
              go_wp2_with fail
              (with_reducible refine (D2.out _ _ HU.out.v).mono ?_)
              rintro e w8 ⟨vq, rfl, hvq, hb8⟩
              have HVQ := Lib.hid hvq
              have HT := Lib.hid (HT.out.more hb8)
              have HU := Lib.hid (HU.out.more hb8)
              have HW := Lib.hid (OwnI.below HW.out hb8)
              have HVP := Lib.hid (HVP.out.below hb8)
              clear hvq hb8
              clear i0 i1 i2 i3 i4 i5 i6 i7 kf
              go_wp2_with fail
              (with_reducible refine (lsame_calls vp vq (natI ps) _ HVP.out HVQ.out (by rw [natI_len]; omega)).mono ?_)
              rintro e w9 ⟨rfl, hb9⟩
              have HT := Lib.hid (HT.out.more hb9)
              have HU := Lib.hid (HU.out.more hb9)
              have HW := Lib.hid (OwnI.below HW.out hb9)
              clear hb9
              go_wp2_with fail
              exact ⟨⟨i + 1, k1, ts, N, _, _, rA1, rn1, rc1, rA2, rn2, rc2, rdl, rjr, rsq, rA7, rn7, rc7, yA1, yn1, yc1, yA2, yn2, yc2, ydl, yjr, ysq, yA7, yn7, yc7, by omega, by go_num, rfl, HT.out, HU.out, tv, HW.out, (by omega), HN.out⟩, by simp [intOf]; omega⟩
          · have hkd1 : (kd == (0 : Int)) = false := by simpa using hkd
            have hkd2 : (kd != (0 : Int)) = true := by simpa using hkd
            go_upto_region 17 with (fail)
            clear c0 c1 c2
            obtain ⟨hc1, hc2⟩ := both_drop_no tv hn1 hn2
            have C1 := Lib.hid hc1
            have C2 := Lib.hid hc2
            have HF1 := Lib.hid (fun (W : World) (v : Value) (h : IsVault W v k1) => tv.form hn1 hn2 h)
            clear hc1 hc2
            obtain ⟨⟨i0, i1, i2, i3, i4, i5, i6, i7⟩, kf⟩ := box8 HT.out.a
            go_wp2_with fail
            (with_reducible refine (C1.out _ _ HT.out.v).mono ?_)
            rintro e w4 ⟨v', rfl, hv', hb4⟩
            obtain ⟨rA1, rn1, rc1, rA2, rn2, rc2, rdl, rjr, rsq, rA7, rn7, rc7, rfl⟩ := HF1.out _ _ hv'
            have hT := HT.out.more hb4
            obtain ⟨X, hX, hVX, hk⟩ := hT.put hv'
            have HU := Lib.hid (hT.beside (HU.out.more hb4) hVX hk (by have := HNE.out; omega))
            have HW := Lib.hid (OwnI.other hT (OwnI.below HW.out hb4) hk)
            have HXX := Lib.hid hX
            have HT := Lib.hid hVX
            clear i0 i1 i2 i3 i4 i5 i6 i7 kf
            obtain ⟨⟨i0, i1, i2, i3, i4, i5, i6, i7⟩, kf⟩ := box8 hT.a
            clear hX hVX hk hT hb4 hv'
            go_upto_region 18 with (fail)
            rw [HXX.out]
            clear HXX
            clear i0 i1 i2 i3 i4 i5 i6 i7 kf
            obtain ⟨⟨i0, i1, i2, i3, i4, i5, i6, i7⟩, kf⟩ := box8 HU.out.a
            go_wp2_with fail
            (with_reducible refine (C2.out _ _ HU.out.v).mono ?_)
            rintro e w4 ⟨v', rfl, hv', hb4⟩
            obtain ⟨yA1, yn1, yc1, yA2, yn2, yc2, ydl, yjr, ysq, yA7, yn7, yc7, rfl⟩ := HF1.out _ _ hv'
            have hT := HU.out.more hb4
            obtain ⟨X, hX, hVX, hk⟩ := hT.put hv'
            have HT := Lib.hid (hT.beside (HT.out.more hb4) hVX hk (by have := HNE.out; omega))
            have HW := Lib.hid (OwnI.other hT (OwnI.below HW.out hb4) hk)
            have HXX := Lib.hid hX
            have HU := Lib.hid hVX
            clear i0 i1 i2 i3 i4 i5 i6 i7 kf
            obtain ⟨⟨i0, i1, i2, i3, i4, i5, i6, i7⟩, kf⟩ := box8 hT.a
            clear hX hVX hk hT hb4 hv'
            go_upto_region 19 with (fail)
            rw [HXX.out]
            clear HXX
            clear i0 i1 i2 i3 i4 i5 i6 i7 kf
            have CS := Lib.hid (law_same tv hn1 hn2)
            obtain ⟨⟨i0, i1, i2, i3, i4, i5, i6, i7⟩, kf⟩ := box8 HT.out.a
            obtain ⟨⟨j0, j1, j2, j3, j4, j5, j6, j7⟩, jf⟩ := box8 HU.out.a
            go_wp2_with fail
            (with_reducible refine (CS.out _ _ _ HT.out.v HU.out.v).mono ?_)
            rintro e w5 ⟨rfl, hb5⟩
            have HT := Lib.hid (HT.out.more hb5)
            have HU := Lib.hid (HU.out.more hb5)
            have HW := Lib.hid (OwnI.below HW.out hb5)
            clear hb5 CS j0 j1 j2 j3 j4 j5 j6 j7 jf
            clear i0 i1 i2 i3 i4 i5 i6 i7 kf
            obtain ⟨c0, c1, c2⟩ := HC.out _ HT.out.below
            obtain ⟨ps, tx, er, hps, hw1, hw2⟩ := both_walk tv hn1 hn2 at0
            have D1 := Lib.hid hw1
            have D2 := Lib.hid hw2
            obtain ⟨sx, hsx⟩ : ∃ s, s = strB tx := ⟨_, rfl⟩
            rw [← hsx] at D1 D2
            clear hw1 hw2 hsx
            obtain ⟨⟨i0, i1, i2, i3, i4, i5, i6, i7⟩, kf⟩ := box8 HT.out.a
            go_wp2_with fail
            (with_reducible refine (D1.out _ _ HT.out.v).mono ?_)
            rintro e w7 ⟨vp, rfl, hvp, hb7⟩
            have HVP := Lib.hid hvp
            have HT := Lib.hid (HT.out.more hb7)
            have HU := Lib.hid (HU.out.more hb7)
            have HW := Lib.hid (OwnI.below HW.out hb7)
            clear hvp hb7
            clear i0 i1 i2 i3 i4 i5 i6 i7 kf
            obtain ⟨⟨i0, i1, i2, i3, i4, i5, i6, i7⟩, kf⟩ := box8 HU.out.a
            go_wp2_with fail
            (with_reducible refine (D2.out _ _ HU.out.v).mono ?_)
            rintro e w8 ⟨vq, rfl, hvq, hb8⟩
            have HVQ := Lib.hid hvq
            have HT := Lib.hid (HT.out.more hb8)
            have HU := Lib.hid (HU.out.more hb8)
            have HW := Lib.hid (OwnI.below HW.out hb8)
            have HVP := Lib.hid (HVP.out.below hb8)
            clear hvq hb8
            clear i0 i1 i2 i3 i4 i5 i6 i7 kf
            go_wp2_with fail
            (with_reducible refine (lsame_calls vp vq (natI ps) _ HVP.out HVQ.out (by rw [natI_len]; omega)).mono ?_)
            rintro e w9 ⟨rfl, hb9⟩
            have HT := Lib.hid (HT.out.more hb9)
            have HU := Lib.hid (HU.out.more hb9)
            have HW := Lib.hid (OwnI.below HW.out hb9)
            clear hb9
            go_wp2_with fail
            exact ⟨⟨i + 1, k1, ts, N, _, _, rA1, rn1, rc1, rA2, rn2, rc2, rdl, rjr, rsq, rA7, rn7, rc7, yA1, yn1, yc1, yA2, yn2, yc2, ydl, yjr, ysq, yA7, yn7, yc7, by omega, by go_num, rfl, HT.out, HU.out, tv, HW.out, (by omega), HN.out⟩, by simp [intOf]; omega⟩
    · obtain rfl : i = m := by omega
      have HT := Lib.hid hV.below
      clear hV hU hW
      go_wp2_with fail
      (with_reducible refine (AW.out _).mono ?_)
      rintro e wz ⟨rfl, hbz⟩
      go_wp2_with fail
      (with_reducible refine (most_calls _).mono ?_)
      rintro e wb ⟨rfl, rfl⟩
      go_wp2_with fail
      (with_reducible refine (rmost_calls _).mono ?_)
      rintro e wb ⟨rfl, rfl⟩
      go_wp2_with fail
      go_ret
      exact ⟨rfl, Dsk.below_trans' HT.out hbz⟩
end Go.Proofs.YtgeiemccjionpaaGreat.Chn
