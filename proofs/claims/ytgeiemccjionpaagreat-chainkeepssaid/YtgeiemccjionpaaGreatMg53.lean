/- Contracts and plain mathematics that the statement's proof wants: no statement is proved here, nothing is assumed. -/
import Derived.Test.YtgeiemccjionpaaGreatMg52
/- HKeeps -/
namespace Go.Proofs.YtgeiemccjionpaaGreat.Chn
open Go.RowKit Go.Sort
open Dsk Vlt

set_option maxRecDepth 100000 in
set_option maxHeartbeats 32000000 in
theorem keeps_calls (p : Int) (AX : Option Addr) (m cap : Nat) (xs : List LK) (w : World) (AW : ∀ w : World, Calls Tryz.prog 8 #[] w fun e w' => e = .returned (.bool true) ∧ Below w.heap.size w w') (hp : 0 ≤ p ∧ p < 256) (hm : m ≤ 9223372036854775807) (hxs : LIn w AX m xs) :
    Calls Tryz.prog 5 #[.int .u8 p, .slice AX m cap] w fun e w' => e = .returned (.bool true) ∧ Below w.heap.size w w' := by
  obtain ⟨n, hn⟩ : ∃ n : Nat, (n : Int) = 16 + p % 24 := ⟨(16 + p % 24).toNat, by omega⟩
  have hn1 : 16 ≤ n := by omega
  have hn2 : n ≤ 512 := by omega
  have hxr := shL_right hn1 hn2
  have tv0 := TV.format hxr
  obtain ⟨k0, hk0⟩ : ∃ k, k = formatV (shL n) := ⟨_, rfl⟩
  rw [← hk0] at tv0
  have C0 : Hid (∀ W : World, Calls Tryz.prog 9 #[.int .i64 (n : Nat), .int .i64 8] W fun e w' => ∃ v', e = .returned (.tuple #[v', .int .i64 0]) ∧ IsVault w' v' k0 ∧ Below W.heap.size W w') := Lib.hid (fun W => by rw [hk0]; exact rformat_ok (shL n) W hxr)
  have AW := Lib.hid AW
  have HF0 := Lib.hid (fun (W : World) (v : Value) (h : IsVault W v k0) => tv0.form hn1 hn2 h)
  have HHN := Lib.hid hn.symm
  have HX := Lib.hid hxs
  clear hn hk0 hxr hxs
  by_cases hm10 : 40 < m
  · have hm11 : (40 : Int) < (m : Int) := by omega
    go_enter Tryz.func5, Tryz.ntmps5
    go_wp2_with fail
    (with_reducible refine (AW.out _).mono ?_)
    rintro e wz ⟨rfl, hbz⟩
    go_wp2_with fail
    go_ret
    exact ⟨rfl, hbz⟩
  have hm11 : ¬ (40 : Int) < (m : Int) := by omega
  go_enter Tryz.func5, Tryz.ntmps5
  go_wp2_with fail
  rw [HHN.out]
  clear hp
  (with_reducible refine (C0.out _).mono ?_)
  rintro e w1 ⟨v1, rfl, hv1, hb1⟩
  obtain ⟨pA1, pn1, pc1, pA2, pn2, pc2, pdl, pjr, psq, pA7, pn7, pc7, rfl⟩ := HF0.out _ _ hv1
  obtain ⟨g, hg⟩ : ∃ g, g = w1.heap.size := ⟨_, rfl⟩
  obtain ⟨Z, hZ⟩ : ∃ Z, Z = w1.alloc (.cells #[.slice pA1 pn1 pc1, .slice pA2 pn2 pc2, .bool false, .int .i64 pdl, .int .i64 (n : Nat), .int .i64 pjr, .int .i64 psq, .slice pA7 pn7 pc7] 32) := ⟨_, rfl⟩
  have HB : Hid (VV w Z g #[.slice pA1 pn1 pc1, .slice pA2 pn2 pc2, .bool false, .int .i64 pdl, .int .i64 (n : Nat), .int .i64 pjr, .int .i64 psq, .slice pA7 pn7 pc7] k0) := Lib.hid (by rw [hZ, hg]; exact VV.new hv1 hb1)
  have HZ := Lib.hid hZ
  have HG := Lib.hid hg
  clear hZ hg hv1 hb1
  go_upto_region 4 with (fail)
  rw [← HZ.out, ← HG.out]
  clear HZ HG
  go_wp2_with fail
  go_loopw [7, 8, 9] (fun s7 s8 s9 wr => ∃ (i : Nat) (k1 : VK) (ts : List TX) (N : Nat) (PA : Option Addr) (pc : Nat) (SA : Option Addr) (sc : Nat) (qA1 : Option Addr) (qn1 qc1 : Nat) (qA2 : Option Addr) (qn2 qc2 : Nat) (qdl qjr qsq : Int) (qA7 : Option Addr) (qn7 qc7 : Nat), i ≤ m ∧ s9 = .int .i64 i ∧ s7 = .slice PA N pc ∧ s8 = .slice SA N sc ∧ VV w wr g #[.slice qA1 qn1 qc1, .slice qA2 qn2 qc2, .bool false, .int .i64 qdl, .int .i64 (n : Nat), .int .i64 qjr, .int .i64 qsq, .slice qA7 qn7 qc7] k1 ∧ TV (shL n) k1 ts ∧ LongT ts ∧ Two w wr (.slice PA N pc) (.slice SA N sc) (firsts ts) (sizes ts) ∧ N ≤ i ∧ N = ts.length) (fun _ _ u _ => m - (intOf u).toNat)
  case atStart => exact ⟨0, k0, [], 0, none, 0, none, 0, pA1, pn1, pc1, pA2, pn2, pc2, pdl, pjr, psq, pA7, pn7, pc7, Nat.zero_le _, rfl, rfl, rfl, HB.out, tv0, fun x hx => absurd hx (by simp), ⟨OwnI.nil _ _, OwnI.nil _ _, fun q h => by cases h⟩, Nat.le_refl _, rfl⟩
  case round =>
    clear HB C0 HF0
    obtain ⟨i, k1, ts, N, PA, pc, SA, sc, qA1, qn1, qc1, qA2, qn2, qc2, qdl, qjr, qsq, qA7, qn7, qc7, hi, rfl, rfl, rfl, hV, tv, hlt, hW, hfew, hN⟩ := hrel
    obtain ⟨w2, rfl⟩ : ∃ w2, w2 = wr := ⟨_, rfl⟩
    by_cases hi1 : i < m
    · obtain ⟨a0, hx⟩ : ∃ q, xs[i]? = some q := ⟨_, List.getElem?_eq_getElem (by rw [HX.out.1]; exact hi1)⟩
      obtain ⟨⟨kd1, kd2⟩, ⟨nn1, nn2⟩, hx1, hx2⟩ := HX.out.2.1 a0 (List.mem_of_getElem? hx)
      obtain ⟨xb, xo, rfl, hxl, hxc⟩ := HX.out.2.2 (by omega)
      have hcc := hxc i a0 hx
      obtain ⟨kd, nn, sz⟩ := a0
      have HC : Hid (∀ W, Below w.heap.size w W → W.cell? ⟨xb, xo + i * 3, none⟩ = some (.int .i64 kd) ∧ W.cell? ⟨xb, xo + i * 3 + 1, none⟩ = some (.int .i64 nn) ∧ W.cell? ⟨xb, xo + i * 3 + 2, none⟩ = some (.int .u16 sz)) := Lib.hid (fun W hW => ⟨(hW.cell (p := ⟨xb, _, none⟩) hxl).trans hcc.1, (hW.cell (p := ⟨xb, _, none⟩) hxl).trans hcc.2.1, (hW.cell (p := ⟨xb, _, none⟩) hxl).trans hcc.2.2⟩)
      obtain ⟨kk, hkk⟩ : ∃ a : Nat, (a : Int) = sz % 900 := ⟨(sz % 900).toNat, by omega⟩
      have HRX : Hid ((wrap64 sz).tmod 900 = (kk : Int)) := Lib.hid (by rw [wrap_lk hx1 hx2, Int.tmod_eq_emod_of_nonneg hx1]; exact hkk.symm)
      have hkk9 : kk < 900 := by omega
      obtain ⟨T, hT⟩ : ∃ T, T = strB (longL kk) := ⟨_, rfl⟩
      have LK_ : Hid (∀ W : World, Calls Tryz.prog 10 #[.int .i64 (kk : Nat)] W fun e w' => e = .returned (.string T) ∧ Below W.heap.size W w') := Lib.hid (fun W => by rw [hT]; exact long_calls kk W (by omega))
      obtain ⟨b, no, A, O, B, old, hts, hAt, hcs⟩ := there_is tv hN nn
      have HN := Lib.hid hN
      have hi2 : (i : Int) < (m : Int) := by omega
      have hi4 : (0 : Int) ≤ (i : Int) := by omega
      have hw1 : IntKind.i64.wrap ((i : Int) + 1) = (i : Int) + 1 := by rw [wrap_small _ (by omega) (by omega)]
      clear hx hx1 hx2 hkk hxc hcc hxl kd1 kd2 nn1 nn2 hN
      obtain ⟨c0, c1, c2⟩ := HC.out _ hV.below
      have HT := Lib.hid (hV.more (Below.refl _ _).drew)
      have HTW := Lib.hid (hW.more (Below.refl _ _).drew)
      clear hV hW
      go_upto_region 8 with (fail)
      go_region
      clear c0 c1 c2
      go_upto_region 9 with (fail)
      go_cut [12] from 52 to 59 (fun s12 wx => s12 = .bool b ∧ VV w wx g #[.slice qA1 qn1 qc1, .slice qA2 qn2 qc2, .bool false, .int .i64 qdl, .int .i64 (n : Nat), .int .i64 qjr, .int .i64 qsq, .slice qA7 qn7 qc7] k1 ∧ Two w wx (.slice PA N pc) (.slice SA N sc) (firsts ts) (sizes ts))
      case first =>
        rcases hcs with ⟨rfl, j, p1, t0, rfl, hjN, hO, hAl, hno, hg1, hne, hp1a, hfj⟩ | ⟨rfl, hno, hO, hB, hol, hA, hnn | ⟨hnn, hnn2⟩⟩
        · have hj0 : (0 : Int) ≤ (j : Int) := by omega
          go_wp2_with fail
          go_meet
          case rel => exact ⟨rfl, HT.out, HTW.out⟩
        · go_wp2_with fail
          go_meet
          case rel => exact ⟨rfl, HT.out, HTW.out⟩
        · go_wp2_with fail
          go_meet
          case rel => exact ⟨rfl, HT.out, HTW.out⟩
      case rest =>
      obtain ⟨rfl, hV, hW⟩ := hcut
      have HT := Lib.hid hV
      have HTW := Lib.hid hW
      clear hV hW
      go_upto_if 60 with (fail)
      go_cut [10] from 61 to 64 (fun s10 wx => s10 = .int .i64 no ∧ VV w wx g #[.slice qA1 qn1 qc1, .slice qA2 qn2 qc2, .bool false, .int .i64 qdl, .int .i64 (n : Nat), .int .i64 qjr, .int .i64 qsq, .slice qA7 qn7 qc7] k1 ∧ Two w wx (.slice PA N pc) (.slice SA N sc) (firsts ts) (sizes ts))
      case first =>
        rcases hcs with ⟨rfl, j, p1, t0, rfl, hjN, hO, hAl, rfl, hg1, hne, hp1a, hfj⟩ | ⟨rfl, rfl, hO, hB, hol, hA, hnn⟩
        · have hj0 : (0 : Int) ≤ (j : Int) := by omega
          obtain ⟨PA2, pn2, pc2, hpe, hpn2, hpc2, hprd⟩ := HTW.out.a.isInts.open_
          injection hpe with hpe1 hpe2 hpe3
          subst hpe1 hpe2 hpe3
          obtain ⟨pb, po, rfl, y0⟩ := int_at hprd (Below.refl _ _) hfj (by omega)
          clear hpn2 hpc2 hprd hfj
          go_wp2_with fail
          go_meet
          case rel => exact ⟨rfl, HT.out, HTW.out⟩
        · go_wp2_with fail
          go_meet
          case rel => exact ⟨rfl, HT.out, HTW.out⟩
      case rest =>
      obtain ⟨rfl, hV, hW⟩ := hcut
      have HT := Lib.hid hV
      have HTW := Lib.hid hW
      obtain ⟨w3, hw3⟩ : ∃ q, q = wc := ⟨_, rfl⟩
      subst hw3
      clear hV hW
      obtain ⟨c0, c1, c2⟩ := HC.out _ HT.out.below
      go_upto_region 13 with (fail)
      rw [HRX.out]
      clear HRX c0 c1 c2
      obtain ⟨⟨i0, i1, i2, i3, i4, i5, i6, i7⟩, kf⟩ := box8 HT.out.a
      obtain ⟨gw, hgw⟩ : ∃ q, q = w3.heap.size := ⟨_, rfl⟩
      obtain ⟨Zw, hZw⟩ : ∃ Y, Y = w3.alloc (.cells #[.slice qA1 qn1 qc1, .slice qA2 qn2 qc2, .bool false, .int .i64 qdl, .int .i64 (n : Nat), .int .i64 qjr, .int .i64 qsq, .slice qA7 qn7 qc7] 32) := ⟨_, rfl⟩
      have HVW : Hid (VV w Zw gw #[.slice qA1 qn1 qc1, .slice qA2 qn2 qc2, .bool false, .int .i64 qdl, .int .i64 (n : Nat), .int .i64 qjr, .int .i64 qsq, .slice qA7 qn7 qc7] k1) := Lib.hid (by rw [hZw, hgw]; exact VV.new HT.out.v HT.out.below)
      have HNE : Hid (g < gw) := Lib.hid (by rw [hgw]; exact HT.out.lt)
      have HT : Hid (VV w Zw g #[.slice qA1 qn1 qc1, .slice qA2 qn2 qc2, .bool false, .int .i64 qdl, .int .i64 (n : Nat), .int .i64 qjr, .int .i64 qsq, .slice qA7 qn7 qc7] k1) := Lib.hid (by rw [hZw]; exact HT.out.more (below_one _ _))
      have HTW : Hid (Two w Zw (.slice PA N pc) (.slice SA N sc) (firsts ts) (sizes ts)) := Lib.hid (by rw [hZw]; exact HTW.out.more (below_one _ _))
      have HZ := Lib.hid hZw
      have HG := Lib.hid hgw
      clear hZw hgw
      go_upto_region 14 with (fail)
      rw [← HZ.out, ← HG.out]
      clear HZ HG
      clear i0 i1 i2 i3 i4 i5 i6 i7 kf
      obtain ⟨c0, c1, c2⟩ := HC.out _ HT.out.below
      go_upto_if 78 with (fail)
      go_cut [7, 8, 15, 16, 17, 18, 19] from 78 to 151 (fun s7 s8 s15 s16 s17 s18 s19 wx => ∃ (k2 : VK) (ts2 : List TX) (N2 : Nat) (PB : Option Addr) (pd : Nat) (SB : Option Addr) (sd : Nat) (rA1 : Option Addr) (rn1 rc1 : Nat) (rA2 : Option Addr) (rn2 rc2 : Nat) (rdl rjr rsq : Int) (rA7 : Option Addr) (rn7 rc7 : Nat), s7 = .slice PB N2 pd ∧ s8 = .slice SB N2 sd ∧ VV w wx g #[.slice rA1 rn1 rc1, .slice rA2 rn2 rc2, .bool false, .int .i64 rdl, .int .i64 (n : Nat), .int .i64 rjr, .int .i64 rsq, .slice rA7 rn7 rc7] k2 ∧ TV (shL n) k2 ts2 ∧ LongT ts2 ∧ Two w wx (.slice PB N2 pd) (.slice SB N2 sd) (firsts ts2) (sizes ts2) ∧ N2 ≤ i + 1 ∧ N2 = ts2.length)
      case first =>
        by_cases hkd : kd = 0
        · subst hkd
          by_cases hf : needC kk + (1 + (pagesOf (A ++ B)).length) ≤ n
          · obtain ⟨k2, l2, pk, _, _, hc1⟩ := law_put (A := A) (O := O) (B := B) (old := old) (no := no) (t := longL kk) (by rw [← hts]; exact tv) hn1 hn2 hAt (by rw [longL_len]; omega) (by rw [longL_len]; exact hf)
            have tv2 : TV (shL n) k2 (A ++ [(l2, longL kk)] ++ B) := pk.tv
            have hfst0 := pk.first
            obtain ⟨p2, hp2⟩ : ∃ p, p = l2.getD 0 0 := ⟨_, rfl⟩
            rw [← hp2] at hc1 hfst0
            have hfst := Lib.hid hfst0
            rw [← hT] at hc1
            have C1 := Lib.hid hc1
            have HF1 := Lib.hid (fun (W : World) (v : Value) (h : IsVault W v k2) => tv2.form hn1 hn2 h)
            have hlt2 : LongT (A ++ [(l2, longL kk)] ++ B) := LongT.put (O := O) (by rw [← hts]; exact hlt) hkk9
            have HLT2 := Lib.hid hlt2
            have HP2 := Lib.hid hp2
            clear hc1 hlt2 pk hp2 hfst0
            go_upto_region 15 with (fail)
            clear c0 c1 c2
            refine keeps_put (k2 := k2) (a := ((p2 : Nat) : Int)) (e := 0) HT.out LK_.out C1.out HF1.out ?_
            intro X g2 rA1 rn1 rc1 rA2 rn2 rc2 rdl rjr rsq rA7 rn7 rc7 y79 y80 y81 y82 y83 y84 y85 y86 y87 hVN hVO hBX
            have HTW := Lib.hid (HTW.out.more hBX)
            have HN2 := Lib.hid hVN
            have HO := Lib.hid hVO
            clear hVN hVO hBX HVW
            obtain ⟨X2, hX2, hVX, hk⟩ := HO.out.put HN2.out.v
            obtain ⟨⟨i0, i1, i2, i3, i4, i5, i6, i7⟩, kf⟩ := box8 HN2.out.a
            obtain ⟨⟨j0, j1, j2, j3, j4, j5, j6, j7⟩, jf⟩ := box8 HO.out.a
            have HTW := Lib.hid (HTW.out.other HO.out hk)
            have HXX := Lib.hid hX2
            have HT := Lib.hid hVX
            clear hX2 hVX hk
            go_upto_region 18 with (fail)
            rw [HXX.out]
            clear HXX
            clear i0 i1 i2 i3 i4 i5 i6 i7 kf
            clear j0 j1 j2 j3 j4 j5 j6 j7 jf
            clear HN2 HO C1 HF1
            rcases hcs with ⟨rfl, j, p1, t0, rfl, hjN, hO, hAl, rfl, hg1, hne, hp1a, hfj⟩ | ⟨rfl, rfl, rfl, rfl, rfl, rfl, hnn⟩
            · have hpe := hfst.out hne
              rw [hg1] at hpe
              subst hpe
              subst hO
              have hj0 : (0 : Int) ≤ (j : Int) := by omega
              go_upto_region 24 with (fail)
              have HE : Hid (OwnI X2.heap.size (X2.alloc (.cells #[] 3)) (.slice (some ⟨X2.heap.size, 0, none⟩) 0 0) []) := Lib.hid (empty_own X2 _ (Nat.le_refl _))
              have HSI : Hid (IsInts (X2.alloc (.cells #[] 3)) (.slice SA N sc) (sizes ts)) := Lib.hid (IsInts.below HTW.out.b.isInts (below_one _ _))
              have HSL : Hid ((sizes ts).length = N) := Lib.hid (by rw [sizes_len]; exact HN.out.symm)
              have HBA : Hid (Below X2.heap.size X2 (X2.alloc (.cells #[] 3))) := Lib.hid (below_one _ _)
              have hN5 : N ≤ 100000 := by omega
              go_wp2_with (at_builtin; refine wpList_app_run (by rfl) (.tmp 113) (.tmp 114) (by rfl) X2.heap.size _ _ [] (sizes ts) (by rfl) (by rfl) HE.out HSI.out (by have := HSL.out; simp; omega) (by simp) ?_; intro v' w6 hown' hbl'; have hb6 := hbl' X2 HBA.out; rw [List.nil_append] at hown'; obtain ⟨gz, zc, rfl⟩ : ∃ gz zc, v' = .slice (some ⟨gz, 0, none⟩) N zc := (by have h1 : w6.ownsRow X2.heap.size 3 1 v' N (intC (sizes ts)) := (by have := hown'; unfold OwnI at this; rw [HSL.out] at this; exact this); obtain ⟨gz, zc, e, _⟩ := h1.form (by omega); exact ⟨gz, zc, e⟩); obtain ⟨hs1, hs2, ⟨uu, hs3⟩, _, hs5⟩ := hown'.set HSL.out.symm (show j < N by omega) ((kk : Nat) : Int); have HS1 := Lib.hid hs1; have HB6 : Hid (Below X2.heap.size X2 (w6.setCell ⟨gz, j, none⟩ (.int .i64 (kk : Nat)))) := Lib.hid (hb6.setCell hs5 _); clear hs1 hs5 hown' hbl' hb6)
              have HTW : Hid (Two w (w6.setCell ⟨gz, j, none⟩ (.int .i64 (kk : Nat))) (.slice PA N pc) (.slice (some ⟨gz, 0, none⟩) N zc) (firsts (A ++ [(l2, longL kk)] ++ B)) (sizes (A ++ [(l2, longL kk)] ++ B))) := Lib.hid (by
                have h1 := Two.new2 HTW.out HS1.out HB6.out HT.out.below.size
                have e1 : firsts ts = firsts (A ++ [(l2, longL kk)] ++ B) := by rw [hts]; exact (firsts_same (by rw [hg1]; exact HP2.out.symm)).symm
                have e2 : (sizes ts).set j ((kk : Nat) : Int) = sizes (A ++ [(l2, longL kk)] ++ B) := by rw [hts, ← hAl]; exact sizes_set A B old l2 t0 (longL kk) (longL_len kk)
                rw [e1, e2] at h1
                exact h1)
              have HT := Lib.hid (HT.out.more HB6.out)
              (try go_wp2_with fail)
              have hNe : N = (A ++ [(l2, longL kk)] ++ B).length := by rw [HN.out, hts]; simp
              go_meet
              case rel => exact ⟨k2, A ++ [(l2, longL kk)] ++ B, N, PA, pc, some ⟨gz, 0, none⟩, zc, rA1, rn1, rc1, rA2, rn2, rc2, rdl, rjr, rsq, rA7, rn7, rc7, rfl, rfl, HT.out, tv2, HLT2.out, HTW.out, by omega, hNe⟩
            · rw [List.append_nil] at tv2
              have HLT3 : Hid (LongT (A ++ [(l2, longL kk)])) := Lib.hid (by have := HLT2.out; rw [List.append_nil] at this; exact this)
              have hN5 : N ≤ 100000 := by omega
              have HFL : Hid ((firsts A).length = N) := Lib.hid (by rw [firsts_len]; exact HN.out.symm)
              have HSL : Hid ((sizes A).length = N) := Lib.hid (by rw [sizes_len]; exact HN.out.symm)
              go_upto_region 17 with (fail)
              go_wp2_with (at_builtin; first
                | (refine wpList_push (by rfl) (.tmp 89) (.tmp 91) (by rfl) w.heap.size _ (firsts A) ((p2 : Nat) : Int) X2.heap.size (by rfl) (by rfl) (by exact OwnI.below HTW.out.a (below_one _ _)) (by exact heap_alloc_new X2 _) (by rw [HFL.out]; omega) (by have := HT.out.below.size; simp; omega) ?_; intro Z6 z6 w6 hown' hbl' hkeep' hsz' hat'; have hbw : Below w.heap.size w w6 := hbl' w (HT.out.below.trans ((below_one X2 (.cells #[.int .i64 ((p2 : Nat) : Int)] 3)).mono HT.out.below.size)); have hkk := push_kept (OwnI.below HTW.out.a (below_one X2 (.cells #[.int .i64 ((p2 : Nat) : Int)] 3))) hkeep'; (with_reducible have HT := Lib.hid ((HT.out.more (below_one X2 (.cells #[.int .i64 ((p2 : Nat) : Int)] 3))).keep hbw hkk)); have HTW := Lib.hid ((HTW.out.more (below_one X2 (.cells #[.int .i64 ((p2 : Nat) : Int)] 3))).push1 hown' hkeep' hat'); clear hown' hbl' hkeep' hsz' hat' hbw hkk; rw [HFL.out]; rw [HFL.out] at HTW)
                | (refine wpList_push (by rfl) (.tmp 93) (.tmp 95) (by rfl) w.heap.size _ (sizes A) ((kk : Nat) : Int) w6.heap.size (by rfl) (by rfl) (by exact OwnI.below HTW.out.b (below_one _ _)) (by exact heap_alloc_new w6 _) (by rw [HSL.out]; omega) (by have := HT.out.below.size; simp; omega) ?_; intro Z7 z7 w7 hown' hbl' hkeep' hsz' hat'; have hbw : Below w.heap.size w w7 := hbl' w (HT.out.below.trans ((below_one w6 (.cells #[.int .i64 ((kk : Nat) : Int)] 3)).mono HT.out.below.size)); have hkk := push_kept (OwnI.below HTW.out.b (below_one w6 (.cells #[.int .i64 ((kk : Nat) : Int)] 3))) hkeep'; (with_reducible have HT := Lib.hid ((HT.out.more (below_one w6 (.cells #[.int .i64 ((kk : Nat) : Int)] 3))).keep hbw hkk)); have HTW := Lib.hid ((HTW.out.more (below_one w6 (.cells #[.int .i64 ((kk : Nat) : Int)] 3))).push2 hown' hkeep' hat'); clear hown' hbl' hkeep' hsz' hat' hbw hkk; rw [HSL.out]; rw [HSL.out] at HTW))
              have HTW : Hid (Two w w7 (.slice Z6 (N + 1) z6) (.slice Z7 (N + 1) z7) (firsts (A ++ [(l2, longL kk)])) (sizes (A ++ [(l2, longL kk)]))) := Lib.hid (by
                have h1 := HTW.out
                rw [firsts_push A (l2 := l2) (t := longL kk) HP2.out.symm, sizes_push A l2 (longL kk) (longL_len kk)] at h1
                exact h1)
              have hNe : N + 1 = (A ++ [(l2, longL kk)]).length := by rw [HN.out]; simp
              go_meet
              case rel => exact ⟨k2, A ++ [(l2, longL kk)], N + 1, Z6, z6, Z7, z7, rA1, rn1, rc1, rA2, rn2, rc2, rdl, rjr, rsq, rA7, rn7, rc7, rfl, rfl, HT.out, tv2, HLT3.out, HTW.out, by omega, hNe⟩
          · have C1 := Lib.hid (law_put_no (A := A) (O := O) (B := B) (old := old) (no := no) (t := longL kk) (by rw [← hts]; exact tv) hn1 hn2 hAt (by rw [longL_len]; omega) (by rw [longL_len]; exact hf))
            rw [← hT] at C1
            have HF1 := Lib.hid (fun (W : World) (v : Value) (h : IsVault W v k1) => tv.form hn1 hn2 h)
            have CS := Lib.hid (law_same tv hn1 hn2)
            go_upto_region 15 with (fail)
            clear c0 c1 c2
            refine keeps_put (k2 := k1) (a := 0) (e := 7) HT.out LK_.out C1.out HF1.out ?_
            intro X g2 rA1 rn1 rc1 rA2 rn2 rc2 rdl rjr rsq rA7 rn7 rc7 y79 y80 y81 y82 y83 y84 y85 y86 y87 hVN hVO hBX
            have HTW := Lib.hid (HTW.out.more hBX)
            have HN2 := Lib.hid hVN
            have HO := Lib.hid hVO
            have HVW := Lib.hid (HVW.out.more hBX)
            clear hVN hVO hBX
            obtain ⟨X2, hX2, hVX, hk⟩ := HO.out.put HN2.out.v
            obtain ⟨⟨i0, i1, i2, i3, i4, i5, i6, i7⟩, kf⟩ := box8 HN2.out.a
            obtain ⟨⟨j0, j1, j2, j3, j4, j5, j6, j7⟩, jf⟩ := box8 HO.out.a
            have HTW := Lib.hid (HTW.out.other HO.out hk)
            have HVW := Lib.hid (HO.out.beside HVW.out hVX hk (by have := HNE.out; omega))
            have HXX := Lib.hid hX2
            have HT := Lib.hid hVX
            clear hX2 hVX hk
            go_upto_region 18 with (fail)
            rw [HXX.out]
            clear HXX
            clear i0 i1 i2 i3 i4 i5 i6 i7 kf
            clear j0 j1 j2 j3 j4 j5 j6 j7 jf
            clear HN2 HO C1 HF1
            obtain ⟨⟨i0, i1, i2, i3, i4, i5, i6, i7⟩, kf⟩ := box8 HT.out.a
            obtain ⟨⟨j0, j1, j2, j3, j4, j5, j6, j7⟩, jf⟩ := box8 HVW.out.a
            go_wp2_with fail
            (with_reducible refine (CS.out _ _ _ HT.out.v HVW.out.v).mono ?_)
            rintro e w5 ⟨rfl, hb5⟩
            have HT := Lib.hid (HT.out.more hb5)
            have HTW := Lib.hid (HTW.out.more hb5)
            clear i0 i1 i2 i3 i4 i5 i6 i7 kf
            clear j0 j1 j2 j3 j4 j5 j6 j7 jf
            clear hb5
            go_wp2_with fail
            go_meet
            case rel => exact ⟨k1, ts, N, PA, pc, SA, sc, rA1, rn1, rc1, rA2, rn2, rc2, rdl, rjr, rsq, rA7, rn7, rc7, rfl, rfl, HT.out, tv, hlt, HTW.out, by omega, HN.out⟩
        · have hkd1 : (kd == (0 : Int)) = false := by simpa using hkd
          have hkd2 : (kd != (0 : Int)) = true := by simpa using hkd
          rcases hcs with ⟨rfl, j, p1, t0, rfl, hjN, rfl, hAl, rfl, hg1, hne, hp1a, hfj⟩ | ⟨rfl, rfl, rfl, rfl, rfl, rfl, hnn⟩
          · obtain ⟨tv2, hc1⟩ := law_drop (A := A) (B := B) (l := old) (t := t0) (by rw [← hts]; exact tv) hn1 hn2
            rw [hg1] at hc1
            have C1 := Lib.hid hc1
            obtain ⟨k2, hk2⟩ : ∃ q, q = freeV k1 (natI old) := ⟨_, rfl⟩
            rw [← hk2] at tv2 C1
            have HF1 := Lib.hid (fun (W : World) (v : Value) (h : IsVault W v k2) => tv2.form hn1 hn2 h)
            have HLT2 : Hid (LongT (A ++ B)) := Lib.hid (LongT.drop (O := [(old, t0)]) (by rw [← hts]; exact hlt))
            have hj0 : (0 : Int) ≤ (j : Int) := by omega
            have hN5 : N ≤ 100000 := by omega
            clear hc1 hk2
            go_upto_region 26 with (fail)
            clear c0 c1 c2 HVW
            obtain ⟨⟨i0, i1, i2, i3, i4, i5, i6, i7⟩, kf⟩ := box8 HT.out.a
            go_wp2_with fail
            (with_reducible refine (C1.out _ _ HT.out.v).mono ?_)
            rintro e w4 ⟨v', rfl, hv', hb4⟩
            obtain ⟨rA1, rn1, rc1, rA2, rn2, rc2, rdl, rjr, rsq, rA7, rn7, rc7, rfl⟩ := HF1.out _ _ hv'
            have HO := Lib.hid (HT.out.more hb4)
            have HTW := Lib.hid (HTW.out.more hb4)
            clear i0 i1 i2 i3 i4 i5 i6 i7 kf
            obtain ⟨g2, hg2⟩ : ∃ g, g = w4.heap.size := ⟨_, rfl⟩
            obtain ⟨Z4, hZ4⟩ : ∃ Y, Y = w4.alloc (.cells #[.slice rA1 rn1 rc1, .slice rA2 rn2 rc2, .bool false, .int .i64 rdl, .int .i64 (n : Nat), .int .i64 rjr, .int .i64 rsq, .slice rA7 rn7 rc7] 32) := ⟨_, rfl⟩
            have HN2 : Hid (VV w Z4 g2 #[.slice rA1 rn1 rc1, .slice rA2 rn2 rc2, .bool false, .int .i64 rdl, .int .i64 (n : Nat), .int .i64 rjr, .int .i64 rsq, .slice rA7 rn7 rc7] k2) := Lib.hid (by rw [hZ4, hg2]; exact VV.new hv' HO.out.below)
            have HO : Hid (VV w Z4 g #[.slice qA1 qn1 qc1, .slice qA2 qn2 qc2, .bool false, .int .i64 qdl, .int .i64 (n : Nat), .int .i64 qjr, .int .i64 qsq, .slice qA7 qn7 qc7] k1) := Lib.hid (by rw [hZ4]; exact HO.out.more (below_one _ _))
            have HTW : Hid (Two w Z4 (.slice PA N pc) (.slice SA N sc) (firsts ts) (sizes ts)) := Lib.hid (by rw [hZ4]; exact HTW.out.more (below_one _ _))
            have HZ := Lib.hid hZ4
            have HG := Lib.hid hg2
            clear hZ4 hg2 hv' hb4 HT
            go_upto_region 27 with (fail)
            rw [← HZ.out, ← HG.out]
            clear HZ HG
            obtain ⟨X2, hX2, hVX, hk⟩ := HO.out.put HN2.out.v
            obtain ⟨⟨i0, i1, i2, i3, i4, i5, i6, i7⟩, kf⟩ := box8 HN2.out.a
            obtain ⟨⟨j0, j1, j2, j3, j4, j5, j6, j7⟩, jf⟩ := box8 HO.out.a
            have HTW := Lib.hid (HTW.out.other HO.out hk)
            have HXX := Lib.hid hX2
            have HT := Lib.hid hVX
            clear hX2 hVX hk
            go_upto_region 28 with (fail)
            rw [HXX.out]
            clear HXX
            clear i0 i1 i2 i3 i4 i5 i6 i7 kf
            clear j0 j1 j2 j3 j4 j5 j6 j7 jf
            clear HN2 HO C1 HF1
            obtain ⟨S1, q1, hr1, hs1⟩ := slice_toI (k := j) HTW.out.a.isInts (by rw [firsts_len]; exact HN.out) (by omega)
            obtain ⟨S2, q2, hr2, hs2⟩ := slice_fromI (k := j + 1) HTW.out.a.isInts (by rw [firsts_len]; exact HN.out) (by omega)
            have hjw : IntKind.i64.wrap ((j : Int) + 1) = (j : Int) + 1 := by rw [wrap_small _ (by omega) (by omega)]
            rw [show (((j + 1 : Nat)) : Int) = (j : Int) + 1 by omega] at hr2
            have HS1 := Lib.hid hs1
            have HS2 := Lib.hid hs2
            have HBA : Hid (Below X2.heap.size X2 (X2.alloc (.cells #[] 3)).drew) := Lib.hid (below_one X2 _).drew
            have HE : Hid (OwnI X2.heap.size (X2.alloc (.cells #[] 3)).drew (.slice (some ⟨X2.heap.size, 0, none⟩) 0 0) []) := Lib.hid (OwnI.below (empty_own X2 _ (Nat.le_refl _)) (Below.refl _ _).drew)
            have HFL : Hid ((firsts ts).length = N) := Lib.hid (by rw [firsts_len]; exact HN.out.symm)
            clear hs1 hs2
            go_upto_region 31 with (fail)
            go_region_law (first
              | (refine step_app rfl (.tmp 132) (.tmp 135) rfl X2.heap.size _ _ [] ((firsts ts).take j) (by simp [Act.eval]) (by simp [Act.eval]) HE.out (IsInts.below HS1.out HBA.out) (by rw [List.length_take, HFL.out]; simp; omega) (by simp) ?_; intro Z1 z1 w6 h1 h2; obtain ⟨N1, hN1⟩ : ∃ q, q = ([] : List Int).length + ((firsts ts).take j).length := ⟨_, rfl⟩; rw [← hN1] at h1 ⊢; have HO1 := Lib.hid h1; have HB1 := Lib.hid (h2 X2 HBA.out); replace hN1 := Lib.hid hN1; clear h1 h2)
              | (refine step_app rfl (.tmp 136) (.tmp 140) rfl X2.heap.size _ _ ([] ++ (firsts ts).take j) ((firsts ts).drop (j + 1)) (by simp [Act.eval]) (by simp [Act.eval]) HO1.out (IsInts.below HS2.out HB1.out) (by rw [List.nil_append, List.length_take, List.length_drop, HFL.out]; omega) HB1.out.size ?_; intro Z2 z2 w7 h1 h2; obtain ⟨N3, hN2⟩ : ∃ q, q = ([] ++ (firsts ts).take j).length + ((firsts ts).drop (j + 1)).length := ⟨_, rfl⟩; rw [← hN2] at h1 ⊢; have HO2 := Lib.hid h1; have HB2 := Lib.hid (h2 X2 HB1.out); replace hN2 := Lib.hid hN2; clear h1 h2))
            have HN3 : Hid (N3 = N - 1) := Lib.hid (by
              rw [hN2.out, List.nil_append, List.length_take, List.length_drop, HFL.out]
              omega)
            have HXN3 : Hid (OwnI X2.heap.size w7 (.slice Z2 N3 z2) (firsts (A ++ B))) := Lib.hid (by
              have := HO2.out
              rw [List.nil_append, hts, ← hAl, firsts_cut] at this
              exact this)
            have HCN3 := Lib.hid HB2.out
            clear hr1 hr2 hjw HS1 HS2 HBA HE HFL HO1 HB1 hN1 HO2 HB2 hN2
            have HTW := Lib.hid (HTW.out.new1 HXN3.out HCN3.out HT.out.below.size)
            have HT := Lib.hid (HT.out.more HCN3.out)
            obtain ⟨S1, q1, hr1, hs1⟩ := slice_toI (k := j) HTW.out.b.isInts (by rw [sizes_len]; exact HN.out) (by omega)
            obtain ⟨S2, q2, hr2, hs2⟩ := slice_fromI (k := j + 1) HTW.out.b.isInts (by rw [sizes_len]; exact HN.out) (by omega)
            have hjw : IntKind.i64.wrap ((j : Int) + 1) = (j : Int) + 1 := by rw [wrap_small _ (by omega) (by omega)]
            rw [show (((j + 1 : Nat)) : Int) = (j : Int) + 1 by omega] at hr2
            have HS1 := Lib.hid hs1
            have HS2 := Lib.hid hs2
            have HBA : Hid (Below w7.heap.size w7 (w7.alloc (.cells #[] 3)).drew) := Lib.hid (below_one w7 _).drew
            have HE : Hid (OwnI w7.heap.size (w7.alloc (.cells #[] 3)).drew (.slice (some ⟨w7.heap.size, 0, none⟩) 0 0) []) := Lib.hid (OwnI.below (empty_own w7 _ (Nat.le_refl _)) (Below.refl _ _).drew)
            have HFL : Hid ((sizes ts).length = N) := Lib.hid (by rw [sizes_len]; exact HN.out.symm)
            clear hs1 hs2
            go_upto_region 32 with (fail)
            go_region_law (first
              | (refine step_app rfl (.tmp 142) (.tmp 145) rfl w7.heap.size _ _ [] ((sizes ts).take j) (by simp [Act.eval]) (by simp [Act.eval]) HE.out (IsInts.below HS1.out HBA.out) (by rw [List.length_take, HFL.out]; simp; omega) (by simp) ?_; intro Z1 z1 w6 h1 h2; obtain ⟨N1, hN1⟩ : ∃ q, q = ([] : List Int).length + ((sizes ts).take j).length := ⟨_, rfl⟩; rw [← hN1] at h1 ⊢; have HO1 := Lib.hid h1; have HB1 := Lib.hid (h2 w7 HBA.out); replace hN1 := Lib.hid hN1; clear h1 h2)
              | (refine step_app rfl (.tmp 146) (.tmp 150) rfl w7.heap.size _ _ ([] ++ (sizes ts).take j) ((sizes ts).drop (j + 1)) (by simp [Act.eval]) (by simp [Act.eval]) HO1.out (IsInts.below HS2.out HB1.out) (by rw [List.nil_append, List.length_take, List.length_drop, HFL.out]; omega) HB1.out.size ?_; intro Z3 z3 w8 h1 h2; obtain ⟨N4, hN2⟩ : ∃ q, q = ([] ++ (sizes ts).take j).length + ((sizes ts).drop (j + 1)).length := ⟨_, rfl⟩; rw [← hN2] at h1 ⊢; have HO2 := Lib.hid h1; have HB2 := Lib.hid (h2 w7 HB1.out); replace hN2 := Lib.hid hN2; clear h1 h2))
            have HN4 : Hid (N4 = N - 1) := Lib.hid (by
              rw [hN2.out, List.nil_append, List.length_take, List.length_drop, HFL.out]
              omega)
            have HXN4 : Hid (OwnI w7.heap.size w8 (.slice Z3 N4 z3) (sizes (A ++ B))) := Lib.hid (by
              have := HO2.out
              rw [List.nil_append, hts, ← hAl, sizes_cut] at this
              exact this)
            have HCN4 := Lib.hid HB2.out
            clear hr1 hr2 hjw HS1 HS2 HBA HE HFL HO1 HB1 hN1 HO2 HB2 hN2
            have HTW := Lib.hid (HTW.out.new2 HXN4.out HCN4.out HT.out.below.size)
            have HT := Lib.hid (HT.out.more HCN4.out)
            obtain rfl : N4 = N3 := by have := HN3.out; have := HN4.out; omega
            have hNe : N4 = (A ++ B).length := by
              have h1 := HN3.out
              have h2 := HN.out
              rw [hts] at h2
              simp at h2 ⊢
              omega
            go_wp2_with fail
            (conv => arg 2; simp [Act.put])
            go_meet
            case rel => exact ⟨k2, A ++ B, N4, Z2, z2, Z3, z3, rA1, rn1, rc1, rA2, rn2, rc2, rdl, rjr, rsq, rA7, rn7, rc7, rfl, rfl, HT.out, tv2, HLT2.out, HTW.out, by have := HN3.out; omega, hNe⟩
          · have C1 := Lib.hid (law_drop_no tv hn1 hn2)
            have HF1 := Lib.hid (fun (W : World) (v : Value) (h : IsVault W v k1) => tv.form hn1 hn2 h)
            go_upto_region 26 with (fail)
            clear c0 c1 c2 HVW
            obtain ⟨⟨i0, i1, i2, i3, i4, i5, i6, i7⟩, kf⟩ := box8 HT.out.a
            go_wp2_with fail
            (with_reducible refine (C1.out _ _ HT.out.v).mono ?_)
            rintro e w4 ⟨v', rfl, hv', hb4⟩
            obtain ⟨rA1, rn1, rc1, rA2, rn2, rc2, rdl, rjr, rsq, rA7, rn7, rc7, rfl⟩ := HF1.out _ _ hv'
            have HO := Lib.hid (HT.out.more hb4)
            have HTW := Lib.hid (HTW.out.more hb4)
            clear i0 i1 i2 i3 i4 i5 i6 i7 kf
            obtain ⟨g2, hg2⟩ : ∃ g, g = w4.heap.size := ⟨_, rfl⟩
            obtain ⟨Z4, hZ4⟩ : ∃ Y, Y = w4.alloc (.cells #[.slice rA1 rn1 rc1, .slice rA2 rn2 rc2, .bool false, .int .i64 rdl, .int .i64 (n : Nat), .int .i64 rjr, .int .i64 rsq, .slice rA7 rn7 rc7] 32) := ⟨_, rfl⟩
            have HN2 : Hid (VV w Z4 g2 #[.slice rA1 rn1 rc1, .slice rA2 rn2 rc2, .bool false, .int .i64 rdl, .int .i64 (n : Nat), .int .i64 rjr, .int .i64 rsq, .slice rA7 rn7 rc7] k1) := Lib.hid (by rw [hZ4, hg2]; exact VV.new hv' HO.out.below)
            have HO : Hid (VV w Z4 g #[.slice qA1 qn1 qc1, .slice qA2 qn2 qc2, .bool false, .int .i64 qdl, .int .i64 (n : Nat), .int .i64 qjr, .int .i64 qsq, .slice qA7 qn7 qc7] k1) := Lib.hid (by rw [hZ4]; exact HO.out.more (below_one _ _))
            have HTW : Hid (Two w Z4 (.slice PA N pc) (.slice SA N sc) (firsts A) (sizes A)) := Lib.hid (by rw [hZ4]; exact HTW.out.more (below_one _ _))
            have HZ := Lib.hid hZ4
            have HG := Lib.hid hg2
            clear hZ4 hg2 hv' hb4 HT
            go_upto_region 27 with (fail)
            rw [← HZ.out, ← HG.out]
            clear HZ HG
            obtain ⟨X2, hX2, hVX, hk⟩ := HO.out.put HN2.out.v
            obtain ⟨⟨i0, i1, i2, i3, i4, i5, i6, i7⟩, kf⟩ := box8 HN2.out.a
            obtain ⟨⟨j0, j1, j2, j3, j4, j5, j6, j7⟩, jf⟩ := box8 HO.out.a
            have HTW := Lib.hid (HTW.out.other HO.out hk)
            have HXX := Lib.hid hX2
            have HT := Lib.hid hVX
            clear hX2 hVX hk
            go_upto_region 28 with (fail)
            rw [HXX.out]
            clear HXX
            clear i0 i1 i2 i3 i4 i5 i6 i7 kf
            clear j0 j1 j2 j3 j4 j5 j6 j7 jf
            clear HN2 HO C1 HF1
            go_wp2_with fail
            go_meet
            case rel => exact ⟨k1, A, N, PA, pc, SA, sc, rA1, rn1, rc1, rA2, rn2, rc2, rdl, rjr, rsq, rA7, rn7, rc7, rfl, rfl, HT.out, tv, hlt, HTW.out, by omega, HN.out⟩
      case rest =>
      clear HT HTW HVW HNE c0 c1 c2 hcs hAt hts LK_ HC hlt tv
      obtain ⟨k2, ts2, N2, PB, pd, SB, sd, rA1, rn1, rc1, rA2, rn2, rc2, rdl, rjr, rsq, rA7, rn7, rc7, rfl, rfl, hV, tv2, hlt2, hW, hN2i, hN2⟩ := hcut
      have HT := Lib.hid hV
      have HTW := Lib.hid hW
      have RZ := Lib.hid (fun (v : Value) (W : World) (h : IsVault W v k2) => rread_zero v W (shL_right hn1 hn2) tv2.still h)
      obtain ⟨M, hM⟩ : ∃ M, M = strB (CV k2 0) := ⟨_, rfl⟩
      rw [← hM] at RZ
      obtain ⟨U0, hU0⟩ : ∃ U, U = (pagesOf ts2).length := ⟨_, rfl⟩
      have HM := Lib.hid hM
      have HU0 := Lib.hid hU0
      have HN2 := Lib.hid hN2
      have HTV := Lib.hid tv2
      have HLT2 := Lib.hid hlt2
      clear hV hW hM hU0 hN2 tv2 hlt2
      obtain ⟨⟨i0, i1, i2, i3, i4, i5, i6, i7⟩, kf⟩ := box8 HT.out.a
      go_wp2_with fail
      (with_reducible refine (RZ.out _ _ HT.out.v).mono ?_)
      rintro e w4 ⟨rfl, hb4⟩
      have HT := Lib.hid (HT.out.more hb4)
      have HTW := Lib.hid (HTW.out.more hb4)
      obtain ⟨Y5, hmk, hq, hbq⟩ := RowQ.new w4
      obtain ⟨gs, hgs⟩ : ∃ q, q = w4.heap.size := ⟨_, rfl⟩
      rw [← hgs] at hmk hq
      have HGS : Hid (w.heap.size ≤ gs) := Lib.hid (by rw [hgs]; exact HT.out.below.size)
      have HT := Lib.hid (HT.out.more hbq)
      have HTW := Lib.hid (HTW.out.more hbq)
      have HQ := Lib.hid hq
      clear hb4 hq hbq hgs RZ
      clear i0 i1 i2 i3 i4 i5 i6 i7 kf
      go_upto_block 3 with (fail)
      clear hmk
      refine keeps_loop HTV.out hn1 hn2 HLT2.out HN2.out HM.out HU0.out HT.out HTW.out HQ.out HGS.out ?_
      intro X y4 y24 y25 y26 y27 y28 y158 y159 y160 y161 y162 y163 y164 y165 y166 y167 y168 y169 y170 y171 y172 y173 y174 y175 y176 y177 y178 y179 y180 y181 y182 y183 y184 y185 y186 y187 y188 y189 y190 y191 y192 y193 y194 y195 y196 y197 y198 y199 y200 y201 y202 y203 y204 y205 y206 y207 y208 y209 y210 y211 y212 y213 y214 y215 y216 y217 y218 y219 y220 y221 y222 y223 y224 y225 y226 y227 y228 y229 y230 y231 y232 y233 y234 y235 y236 y237 y238 hV hW
      have HTW0 := Lib.hid hW
      have HT0 := Lib.hid hV
      have HTW := Lib.hid (hW.more (Below.refl _ _).drew)
      have HT := Lib.hid (hV.more (Below.refl _ _).drew)
      clear hV hW HQ HGS
      by_cases hz : N2 = 0
      · have hz1 : ¬ (0 : Int) < (N2 : Int) := by omega
        go_upto_region 49 with (fail)
        go_quiet (fail)
        go_wp2_with fail
        exact ⟨⟨i + 1, k2, ts2, N2, PB, pd, SB, sd, rA1, rn1, rc1, rA2, rn2, rc2, rdl, rjr, rsq, rA7, rn7, rc7, by omega, by go_num, rfl, rfl, HT0.out.more ⟨rfl, rfl, rfl, Nat.le_refl _, fun _ _ => rfl⟩, HTV.out, HLT2.out, HTW0.out.more ⟨rfl, rfl, rfl, Nat.le_refl _, fun _ _ => rfl⟩, by omega, HN2.out⟩, by simp [intOf]; omega⟩
      · have hz1 : (0 : Int) < (N2 : Int) := by omega
        have hne : ts2 ≠ [] := fun e => hz (by rw [HN2.out, e]; rfl)
        have hfr := free_is HTV.out.inv hne
        rw [shL_n, ← HU0.out] at hfr
        obtain ⟨F, hF⟩ : ∃ F, F = Bit.freeN (CV k2 0) n := ⟨_, rfl⟩
        have FC : Hid (∀ W : World, Calls Tryz.prog 27 #[.string M, .int .i64 (n : Nat)] W fun e w' => e = .returned (.int .i64 (F : Nat)) ∧ Below W.heap.size W w') := Lib.hid (fun W => by
          have h1 := Bit.rfree_calls (CV k2 0) (n : Nat) W (by have := HTV.out.inv.z; omega)
          rw [show Bit.capN (n : Nat) = n by unfold Bit.capN; omega, ← hF, ← HM.out] at h1
          exact h1)
        rw [← hF] at hfr
        have HW1 : Hid (IntKind.i64.wrap ((n : Int) - 1) = ((n - 1 : Nat) : Int)) := Lib.hid (by rw [wrap_small _ (by omega) (by omega)]; omega)
        have HW2 : Hid (IntKind.i64.wrap (((n - 1 : Nat) : Int) - (U0 : Int)) = (F : Int)) := Lib.hid (by rw [wrap_small _ (by omega) (by omega)]; omega)
        have hz2 : 0 < N2 := by omega
        have hz3 : decide (0 < N2) = true := decide_eq_true hz2
        clear hfr hF hne HT HTW
        go_upto_region 49 with (fail)
        have hw1 := HW1.out
        have hw2 := HW2.out
        have y4 := fun (dd : Nat) (os : Array Obj) => (box8 (HT0.out.more (below_regrown X dd os)).a).1.2.2.2.2.1
        have D1 := Lib.hid (rg FC.out X)
        refine wp_region_quiet_below (by kernel_rfl) (by kernel_rfl) ?_
        (try simp only [List.append_eq, List.cons_append, List.nil_append])
        repeat (first | go_big_quiet_step (first | (with_reducible exact D1.out _ _)) | quiet_step (first | (with_reducible exact D1.out _ _)))
        refine wpQuiet_nil ?_
        intro _ hw'
        obtain ⟨⟨dq, osq⟩, hw''⟩ := hw'
        subst hw''
        have HT := Lib.hid (HT0.out.more (below_regrown X dq osq))
        have HTW := Lib.hid (HTW0.out.more (below_regrown X dq osq))
        generalize grow (redrawn X dq) osq = W1 at *
        clear y4 D1 HT0 HTW0
        go_wp2_with fail
        exact ⟨⟨i + 1, k2, ts2, N2, PB, pd, SB, sd, rA1, rn1, rc1, rA2, rn2, rc2, rdl, rjr, rsq, rA7, rn7, rc7, by omega, by go_num, rfl, rfl, HT.out, HTV.out, HLT2.out, HTW.out, by omega, HN2.out⟩, by simp [intOf]; omega⟩
    · obtain rfl : i = m := by omega
      have HT := Lib.hid hV.below
      clear hV hW
      go_wp2_with fail
      (with_reducible refine (AW.out _).mono ?_)
      rintro e wz ⟨rfl, hbz⟩
      go_wp2_with fail
      go_ret
      exact ⟨rfl, Dsk.below_trans' HT.out hbz⟩
end Go.Proofs.YtgeiemccjionpaaGreat.Chn
