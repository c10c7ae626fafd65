/- Contracts and plain mathematics that the statement's proof wants: no statement is proved here, nothing is assumed. -/
import Derived.Test.YtgeiemccjionpaaGreatMg38
/- HAwake -/
namespace Go.Proofs.YtgeiemccjionpaaGreat.Chn
open Go.RowKit Go.Sort
open Dsk Vlt

theorem aw_form {k : VK} (h : Still xA k) {W : World} {v : Value} (hv : IsVault W v k) (n : Nat) (hn : n = PN xA) : ∃ A1 n1 c1 A2 n2 c2 dl jr sq A7 n7 c7, v = .agg #[.slice A1 n1 c1, .slice A2 n2 c2, .bool false, .int .i64 dl, .int .i64 (n : Nat), .int .i64 jr, .int .i64 sq, .slice A7 n7 c7] := by
  rw [hn]
  exact h.form8 xA_right hv
theorem s_kA1 : Still xA kA1 := putA1.still
theorem aw_put1 (v : Value) (W : World) (hv : IsVault W v kA0) : Calls Tryz.prog 11 #[v, .int .i64 0, .string (strB (longL 300))] W fun e w' => ∃ v', e = .returned (.tuple #[v', .int .i64 1, .int .i64 0]) ∧ IsVault w' v' kA1 ∧ Below W.heap.size W w' := by
  have := put_fit v 0 [] (longL 300) W xA_right tA0.still hv (.inl ⟨rfl, rfl⟩) (by rw [longL_len]; omega) fitA1
  rw [allA1] at this
  exact this
theorem walkA1 : walkZ (CV kA1) (PN xA) (PN xA) [] [] 1 = ([1, 2], longL 300, 0) := putA1.walk (l := [1, 2]) (by simp)
theorem aw_walk1 (v : Value) (W : World) (hv : IsVault W v kA1) : Calls Tryz.prog 16 #[v, .int .i64 1] W fun e w' => ∃ vp, e = .returned (.tuple #[vp, .string (strB (longL 300)), .int .i64 0]) ∧ IsInts w' vp [1, 2] ∧ Below W.heap.size W w' := walk_calls v 1 W xA_right putA1.still hv _ walkA1
theorem aw_put2 (v : Value) (W : World) (hv : IsVault W v kA1) : Calls Tryz.prog 11 #[v, .int .i64 1, .string ⟨#[120]⟩] W fun e w' => ∃ v', e = .returned (.tuple #[v', .int .i64 1, .int .i64 0]) ∧ IsVault w' v' kA2 ∧ Below W.heap.size W w' := by
  have := put_fit v 1 [1, 2] [120] W xA_right putA1.still hv (.inr ⟨by decide, _, walkA1⟩) (by decide) fitA2
  rw [allA2] at this
  exact this
theorem walkA2 : walkZ (CV kA2) (PN xA) (PN xA) [] [] 1 = ([1], [120], 0) := putA2.walk (l := [1]) (by simp)
theorem aw_walk2 (v : Value) (W : World) (hv : IsVault W v kA2) : Calls Tryz.prog 16 #[v, .int .i64 1] W fun e w' => ∃ vp, e = .returned (.tuple #[vp, .string ⟨#[120]⟩, .int .i64 0]) ∧ IsInts w' vp [1] ∧ Below W.heap.size W w' := walk_calls v 1 W xA_right putA2.still hv _ walkA2
theorem aw_put3 (v : Value) (W : World) (hv : IsVault W v kA2) : Calls Tryz.prog 11 #[v, .int .i64 0, .string (strB (longL 4000))] W fun e w' => ∃ v', e = .returned (.tuple #[v', .int .i64 0, .int .i64 7]) ∧ IsVault w' v' kA2 ∧ Below W.heap.size W w' :=
  put_no v 0 [] (longL 4000) W xA_right putA2.still hv (.inl ⟨rfl, rfl⟩) (by rw [longL_len]; omega) fitA3
theorem aw_walk3 (v : Value) (W : World) (hv : IsVault W v kA2) : Calls Tryz.prog 16 #[v, .int .i64 0] W fun e w' => ∃ vp, e = .returned (.tuple #[vp, .string ⟨#[]⟩, .int .i64 1]) ∧ IsInts w' vp [] ∧ Below W.heap.size W w' := walk_calls v 0 W xA_right putA2.still hv ([], [], 1) rfl
theorem aw_drop (v : Value) (W : World) (hv : IsVault W v kA2) : Calls Tryz.prog 13 #[v, .int .i64 1] W fun e w' => ∃ v', e = .returned (.tuple #[v', .int .i64 0]) ∧ IsVault w' v' kA3 ∧ Below W.heap.size W w' := drop_ok v 1 [1] [120] W xA_right putA2.still hv walkA2
theorem aw_read3 (v : Value) (W : World) (hv : IsVault W v kA3) : Calls Tryz.prog 25 #[v, .int .i64 0] W fun e w' => e = .returned (.tuple #[.string (strB (CV kA3 0)), .int .i64 0]) ∧ Below W.heap.size W w' := rread_zero v W xA_right dropA.still hv
theorem aw_free (v vp : Value) (W : World) (hv : IsVault W v kA3) (hp : IsInts W vp [0]) : Calls Tryz.prog 21 #[v, vp] W fun e w' => ∃ v', e = .returned (.tuple #[v', .int .i64 0]) ∧ IsVault w' v' kA4 ∧ Below W.heap.size W w' :=
  free_calls v vp [0] W xA_right dropA.still hv hp (by decide) (by intro a ha; simp at ha; omega)
theorem aw_read4 (v : Value) (W : World) (hv : IsVault W v kA4) : Calls Tryz.prog 25 #[v, .int .i64 0] W fun e w' => e = .returned (.tuple #[.string (strB (CV kA4 0)), .int .i64 0]) ∧ Below W.heap.size W w' := rread_zero v W xA_right stillA4 hv
theorem aw_count3 (W : World) : Calls Tryz.prog 27 #[.string (strB (CV kA3 0)), .int .i64 16] W fun e w' => e = .returned (.int .i64 15) ∧ Below W.heap.size W w' := by
  have := Bit.rfree_calls (CV kA3 0) 16 W (by rw [CV_len dropA.still]; omega)
  rw [show Bit.capN 16 = 16 from rfl, freeA3] at this
  exact this
theorem aw_count4 (W : World) : Calls Tryz.prog 27 #[.string (strB (CV kA4 0)), .int .i64 16] W fun e w' => e = .returned (.int .i64 16) ∧ Below W.heap.size W w' := by
  have := Bit.rfree_calls (CV kA4 0) 16 W (by rw [CV_len stillA4]; omega)
  rw [show Bit.capN 16 = 16 from rfl, freeA4] at this
  exact this
theorem aw_long300 (W : World) : Calls Tryz.prog 10 #[.int .i64 300] W fun e w' => e = .returned (.string (strB (longL 300))) ∧ Below W.heap.size W w' := long_calls 300 W (by omega)
theorem aw_long4000 (W : World) : Calls Tryz.prog 10 #[.int .i64 4000] W fun e w' => e = .returned (.string (strB (longL 4000))) ∧ Below W.heap.size W w' := long_calls 4000 W (by omega)
theorem aw_need0 (W : World) : Calls Tryz.prog 23 #[.int .i64 0] W fun e w' => e = .returned (.int .i64 1) ∧ w' = W := need_calls 0 W (by omega)
theorem aw_need205 (W : World) : Calls Tryz.prog 23 #[.int .i64 205] W fun e w' => e = .returned (.int .i64 2) ∧ w' = W := need_calls 205 W (by omega)

set_option maxRecDepth 100000 in
set_option maxHeartbeats 32000000 in
theorem awake_true (w : World) : Calls Tryz.prog 8 #[] w fun e w' => e = .returned (.bool true) ∧ Below w.heap.size w w' := by
  obtain ⟨n, hn⟩ : ∃ n, n = PN xA := ⟨_, rfl⟩
  have HN := Lib.hid hn
  clear hn
  have C0 : Hid (∀ W : World, Calls Tryz.prog 9 #[.int .i64 16, .int .i64 20] W fun e w' => ∃ v', e = .returned (.tuple #[v', .int .i64 0]) ∧ IsVault w' v' kA0 ∧ Below W.heap.size W w') := Lib.hid (fun W => rformat_ok xA W xA_right)
  have L3 := Lib.hid aw_long300
  have L4 := Lib.hid aw_long4000
  have C1 := Lib.hid aw_put1
  have D1 := Lib.hid aw_walk1
  have C3 := Lib.hid aw_put3
  have K3 := Lib.hid aw_count3
  have K4 := Lib.hid aw_count4
  have R3 := Lib.hid aw_read3
  have R4 := Lib.hid aw_read4
  obtain ⟨s3, hs3⟩ : ∃ s, s = strB (longL 300) := ⟨_, rfl⟩
  obtain ⟨s4, hs4⟩ : ∃ s, s = strB (longL 4000) := ⟨_, rfl⟩
  obtain ⟨m3, hm3⟩ : ∃ s, s = strB (CV kA3 0) := ⟨_, rfl⟩
  obtain ⟨m4, hm4⟩ : ∃ s, s = strB (CV kA4 0) := ⟨_, rfl⟩
  rw [← hs3] at L3 C1 D1
  rw [← hs4] at L4 C3
  rw [← hm3] at K3 R3
  rw [← hm4] at K4 R4
  clear hs3 hs4 hm3 hm4
  go_enter Tryz.func8, Tryz.ntmps8
  go_wp2_with fail
  (with_reducible refine (C0.out _).mono ?_)
  rintro e w1 ⟨v1, rfl, hv1, hb1⟩
  obtain ⟨pA1, pn1, pc1, pA2, pn2, pc2, pdl, pjr, psq, pA7, pn7, pc7, rfl⟩ := aw_form tA0.still hv1 n HN.out
  obtain ⟨g, hg⟩ : ∃ g, g = w1.heap.size := ⟨_, rfl⟩
  obtain ⟨Y, hY⟩ : ∃ Y, Y = w1.alloc (.cells #[.slice pA1 pn1 pc1, .slice pA2 pn2 pc2, .bool false, .int .i64 pdl, .int .i64 (n : Nat), .int .i64 pjr, .int .i64 psq, .slice pA7 pn7 pc7] 32) := ⟨_, rfl⟩
  have HB : Hid (VV w Y g #[.slice pA1 pn1 pc1, .slice pA2 pn2 pc2, .bool false, .int .i64 pdl, .int .i64 (n : Nat), .int .i64 pjr, .int .i64 psq, .slice pA7 pn7 pc7] kA0) := Lib.hid (by rw [hY, hg]; exact VV.new hv1 hb1)
  have HY := Lib.hid hY
  have HG := Lib.hid hg
  clear hY hg hv1 hb1
  go_upto_region 2 with (fail)
  rw [← HY.out, ← HG.out]
  clear HY HG
  go_cut [3, 4] from 29 to 35 (fun s3 s4 wx => ∃ (qA1 : Option Addr) (qn1 qc1 : Nat) (qA2 : Option Addr) (qn2 qc2 : Nat) (qdl qjr qsq : Int) (qA7 : Option Addr) (qn7 qc7 : Nat), s3 = .int .i64 1 ∧ s4 = .int .i64 0 ∧ VV w wx g #[.slice qA1 qn1 qc1, .slice qA2 qn2 qc2, .bool false, .int .i64 qdl, .int .i64 (n : Nat), .int .i64 qjr, .int .i64 qsq, .slice qA7 qn7 qc7] kA1)
  case first =>
    have HT := Lib.hid (HB.out.more (Below.refl _ _).drew)
    obtain ⟨⟨i0, i1, i2, i3, i4, i5, i6, i7⟩, kf⟩ := box8 HT.out.a
    go_region_with (first
      | (go_at_call 10; (with_reducible refine (L3.out _).mono ?_); rintro e wa ⟨rfl, hBa⟩; (with_reducible replace HT := Lib.hid (HT.out.more hBa)); clear hBa i0 i1 i2 i3 i4 i5 i6 i7 kf; obtain ⟨⟨i0, i1, i2, i3, i4, i5, i6, i7⟩, kf⟩ := box8 HT.out.a)
      | (go_at_call 11; (with_reducible refine (C1.out _ _ HT.out.v).mono ?_); rintro e wa ⟨v', rfl, hv', hBa⟩; (with_reducible replace HT := Lib.hid (HT.out.more hBa)); obtain ⟨qA1, qn1, qc1, qA2, qn2, qc2, qdl, qjr, qsq, qA7, qn7, qc7, rfl⟩ := aw_form s_kA1 hv' n HN.out; have HV' := Lib.hid hv'; clear hv' hBa i0 i1 i2 i3 i4 i5 i6 i7 kf; obtain ⟨⟨i0, i1, i2, i3, i4, i5, i6, i7⟩, kf⟩ := box8 HT.out.a))
    all_goals
      obtain ⟨X, hX, hVX, _⟩ := HT.out.put HV'.out
      rw [hX]
      go_wp2_with fail
      go_meet
      case rel => exact ⟨qA1, qn1, qc1, qA2, qn2, qc2, qdl, qjr, qsq, qA7, qn7, qc7, rfl, rfl, hVX⟩
  case rest =>
    obtain ⟨qA1, qn1, qc1, qA2, qn2, qc2, qdl, qjr, qsq, qA7, qn7, qc7, rfl, rfl, hVX⟩ := hcut
    have HT2 := Lib.hid hVX
    clear hVX HB
    obtain ⟨⟨i0, i1, i2, i3, i4, i5, i6, i7⟩, kf⟩ := box8 HT2.out.a
    go_wp2_with fail
    (with_reducible refine (D1.out _ _ HT2.out.v).mono ?_)
    rintro e w3 ⟨vp, rfl, hvp, hb3⟩
    obtain ⟨PA, pn, pc, rfl, hpn, hpc, _⟩ := hvp.open_
    obtain rfl : pn = 2 := hpn
    have HP := Lib.hid hvp
    have HT3 := Lib.hid (HT2.out.more hb3)
    clear hvp hb3 hpc i0 i1 i2 i3 i4 i5 i6 i7 kf HT2
    obtain ⟨⟨i0, i1, i2, i3, i4, i5, i6, i7⟩, kf⟩ := box8 HT3.out.a
    go_wp2_with fail
    (with_reducible refine (aw_put2 _ _ HT3.out.v).mono ?_)
    rintro e w4 ⟨v', rfl, hv', hb4⟩
    obtain ⟨rA1, rn1, rc1, rA2, rn2, rc2, rdl, rjr, rsq, rA7, rn7, rc7, rfl⟩ := aw_form putA2.still hv' n HN.out
    have hT4 := HT3.out.more hb4
    obtain ⟨X4, hX4, hVX4, hk4⟩ := hT4.put hv'
    have HX4 := Lib.hid hX4
    have HP := Lib.hid (hT4.ints (HP.out.below hb4) hk4)
    have HT4 := Lib.hid hVX4
    clear i0 i1 i2 i3 i4 i5 i6 i7 kf
    obtain ⟨⟨i0, i1, i2, i3, i4, i5, i6, i7⟩, kf⟩ := box8 (Lib.hid hT4).out.a
    clear hX4 hVX4 hk4 hT4 hb4 hv' HT3
    go_upto_region 5 with (fail)
    rw [HX4.out]
    clear HX4 i0 i1 i2 i3 i4 i5 i6 i7 kf
    obtain ⟨⟨i0, i1, i2, i3, i4, i5, i6, i7⟩, kf⟩ := box8 HT4.out.a
    go_wp2_with fail
    (with_reducible refine (aw_walk2 _ _ HT4.out.v).mono ?_)
    rintro e w5 ⟨vq, rfl, hvq, hb5⟩
    have HP := Lib.hid (HP.out.below hb5)
    have HT5 := Lib.hid (HT4.out.more hb5)
    clear hvq hb5 HT4 i0 i1 i2 i3 i4 i5 i6 i7 kf
    go_wp2_with fail
    have HTA := Lib.hid ((HT5.out.more (below_one w5 (.cells #[.slice none 0 0, .slice none 0 0, .bool false, .int .i64 0, .int .i64 0, .int .i64 0, .int .i64 0, .slice none 0 0] 32))).more (Below.refl _ _).drew)
    have HZA : Hid ((w5.alloc (.cells #[.slice none 0 0, .slice none 0 0, .bool false, .int .i64 0, .int .i64 0, .int .i64 0, .int .i64 0, .slice none 0 0] 32)).drew.heap[w5.heap.size]? = some (.cells #[.slice none 0 0, .slice none 0 0, .bool false, .int .i64 0, .int .i64 0, .int .i64 0, .int .i64 0, .slice none 0 0] 32 (0, 0))) := Lib.hid (heap_alloc_new w5 _)
    have HGZA := Lib.hid HT5.out.lt
    have HPA := Lib.hid ((HP.out.below (below_one w5 (.cells #[.slice none 0 0, .slice none 0 0, .bool false, .int .i64 0, .int .i64 0, .int .i64 0, .int .i64 0, .slice none 0 0] 32))).below (Below.refl _ _).drew)
    have HT := Lib.hid (HT5.out.more (Below.refl _ _).drew)
    have HP := Lib.hid (HP.out.below (Below.refl _ _).drew)
    obtain ⟨⟨d0, d1, d2, d3, d4, d5, d6, d7⟩, df⟩ := box8 HTA.out.a
    clear HT5
    have HT0 := HT
    have HP0 := HP
    clear HT HP
    go_cut [13, 14, 15] from 57 to 63 (fun s13 s14 s15 wx => ∃ (g' : Nat) (qA1 : Option Addr) (qn1 qc1 : Nat) (qA2 : Option Addr) (qn2 qc2 : Nat) (qdl qjr qsq : Int) (qA7 : Option Addr) (qn7 qc7 : Nat), s13 = .pointer (some ⟨g', 0, none⟩) ∧ s14 = .int .i64 0 ∧ s15 = .int .i64 7 ∧ VV w wx g' #[.slice qA1 qn1 qc1, .slice qA2 qn2 qc2, .bool false, .int .i64 qdl, .int .i64 (n : Nat), .int .i64 qjr, .int .i64 qsq, .slice qA7 qn7 qc7] kA2 ∧ VV w wx g #[.slice rA1 rn1 rc1, .slice rA2 rn2 rc2, .bool false, .int .i64 rdl, .int .i64 (n : Nat), .int .i64 rjr, .int .i64 rsq, .slice rA7 rn7 rc7] kA2 ∧ IsInts wx (.slice PA 2 pc) [1, 2])
    case first =>
      have HT := HT0
      have HP := HP0
      clear HT0 HP0
      obtain ⟨⟨i0, i1, i2, i3, i4, i5, i6, i7⟩, kf⟩ := box8 HT.out.a; obtain ⟨⟨a0, a1, a2, a3, a4, a5, a6, a7⟩, af⟩ := box8 (HT.out.more (below_one _ (.cells #[.slice none 0 0, .slice none 0 0, .bool false, .int .i64 0, .int .i64 0, .int .i64 0, .int .i64 0, .slice none 0 0] 32))).a; obtain ⟨⟨z0, z1, z2, z3, z4, z5, z6, z7⟩, zf⟩ := box8 HT.out.zero; (try (have yz := box8 HZ.out; obtain ⟨⟨y0, y1, y2, y3, y4, y5, y6, y7⟩, yf⟩ := yz))
      go_region_with (first
        | (go_at_call 10; (with_reducible refine (L4.out _).mono ?_); rintro e wa ⟨rfl, hBa⟩; first
          | ((with_reducible replace HT := Lib.hid (HT.out.more hBa)); (try (with_reducible replace HZ := Lib.hid (box_kept _ HZ.out hBa))); (try (with_reducible replace HP := Lib.hid (HP.out.below hBa))); clear i0 i1 i2 i3 i4 i5 i6 i7 kf a0 a1 a2 a3 a4 a5 a6 a7 af z0 z1 z2 z3 z4 z5 z6 z7 zf; (try clear y0 y1 y2 y3 y4 y5 y6 y7 yf); obtain ⟨⟨i0, i1, i2, i3, i4, i5, i6, i7⟩, kf⟩ := box8 HT.out.a; obtain ⟨⟨a0, a1, a2, a3, a4, a5, a6, a7⟩, af⟩ := box8 (HT.out.more (below_one _ (.cells #[.slice none 0 0, .slice none 0 0, .bool false, .int .i64 0, .int .i64 0, .int .i64 0, .int .i64 0, .slice none 0 0] 32))).a; obtain ⟨⟨z0, z1, z2, z3, z4, z5, z6, z7⟩, zf⟩ := box8 HT.out.zero; (try (have yz := box8 HZ.out; obtain ⟨⟨y0, y1, y2, y3, y4, y5, y6, y7⟩, yf⟩ := yz)); clear hBa)
          | ((with_reducible have HZ := Lib.hid (box_kept _ HZA.out hBa)); have HGZ := HGZA; (with_reducible replace HT := Lib.hid (HTA.out.more hBa)); (try (with_reducible replace HP := Lib.hid (HPA.out.below hBa))); clear i0 i1 i2 i3 i4 i5 i6 i7 kf a0 a1 a2 a3 a4 a5 a6 a7 af z0 z1 z2 z3 z4 z5 z6 z7 zf; (try clear y0 y1 y2 y3 y4 y5 y6 y7 yf); obtain ⟨⟨i0, i1, i2, i3, i4, i5, i6, i7⟩, kf⟩ := box8 HT.out.a; obtain ⟨⟨a0, a1, a2, a3, a4, a5, a6, a7⟩, af⟩ := box8 (HT.out.more (below_one _ (.cells #[.slice none 0 0, .slice none 0 0, .bool false, .int .i64 0, .int .i64 0, .int .i64 0, .int .i64 0, .slice none 0 0] 32))).a; obtain ⟨⟨z0, z1, z2, z3, z4, z5, z6, z7⟩, zf⟩ := box8 HT.out.zero; (try (have yz := box8 HZ.out; obtain ⟨⟨y0, y1, y2, y3, y4, y5, y6, y7⟩, yf⟩ := yz)); clear hBa)
          | ((with_reducible have HZ := Lib.hid (box_kept _ HT.out.zero hBa)); have HGZ := Lib.hid HT.out.lt; (with_reducible replace HT := Lib.hid ((HT.out.more (below_one _ _)).more hBa)); (try (with_reducible replace HP := Lib.hid ((HP.out.below (below_one _ _)).below hBa))); clear i0 i1 i2 i3 i4 i5 i6 i7 kf a0 a1 a2 a3 a4 a5 a6 a7 af z0 z1 z2 z3 z4 z5 z6 z7 zf; (try clear y0 y1 y2 y3 y4 y5 y6 y7 yf); obtain ⟨⟨i0, i1, i2, i3, i4, i5, i6, i7⟩, kf⟩ := box8 HT.out.a; obtain ⟨⟨a0, a1, a2, a3, a4, a5, a6, a7⟩, af⟩ := box8 (HT.out.more (below_one _ (.cells #[.slice none 0 0, .slice none 0 0, .bool false, .int .i64 0, .int .i64 0, .int .i64 0, .int .i64 0, .slice none 0 0] 32))).a; obtain ⟨⟨z0, z1, z2, z3, z4, z5, z6, z7⟩, zf⟩ := box8 HT.out.zero; (try (have yz := box8 HZ.out; obtain ⟨⟨y0, y1, y2, y3, y4, y5, y6, y7⟩, yf⟩ := yz)); clear hBa))
        | (go_at_call 11; (with_reducible refine (C3.out _ _ HT.out.v).mono ?_); rintro e wa ⟨v', rfl, hv', hBa⟩; obtain ⟨qA1, qn1, qc1, qA2, qn2, qc2, qdl, qjr, qsq, qA7, qn7, qc7, rfl⟩ := aw_form putA2.still hv' n HN.out; have HV' := Lib.hid hv'; clear hv'; (with_reducible replace HT := Lib.hid (HT.out.more hBa)); (try (with_reducible replace HZ := Lib.hid (box_kept _ HZ.out hBa))); (try (with_reducible replace HP := Lib.hid (HP.out.below hBa))); clear i0 i1 i2 i3 i4 i5 i6 i7 kf a0 a1 a2 a3 a4 a5 a6 a7 af z0 z1 z2 z3 z4 z5 z6 z7 zf; (try clear y0 y1 y2 y3 y4 y5 y6 y7 yf); obtain ⟨⟨i0, i1, i2, i3, i4, i5, i6, i7⟩, kf⟩ := box8 HT.out.a; obtain ⟨⟨a0, a1, a2, a3, a4, a5, a6, a7⟩, af⟩ := box8 (HT.out.more (below_one _ (.cells #[.slice none 0 0, .slice none 0 0, .bool false, .int .i64 0, .int .i64 0, .int .i64 0, .int .i64 0, .slice none 0 0] 32))).a; obtain ⟨⟨z0, z1, z2, z3, z4, z5, z6, z7⟩, zf⟩ := box8 HT.out.zero; (try (have yz := box8 HZ.out; obtain ⟨⟨y0, y1, y2, y3, y4, y5, y6, y7⟩, yf⟩ := yz)); clear hBa)
        | (go_at_call 11; (with_reducible refine (C3.out _ _ (HT.out.more (below_one _ _)).v).mono ?_); rintro e wa ⟨v', rfl, hv', hBa⟩; obtain ⟨qA1, qn1, qc1, qA2, qn2, qc2, qdl, qjr, qsq, qA7, qn7, qc7, rfl⟩ := aw_form putA2.still hv' n HN.out; have HV' := Lib.hid hv'; clear hv'; (with_reducible have HZ := Lib.hid (box_kept _ HT.out.zero hBa)); have HGZ := Lib.hid HT.out.lt; (with_reducible replace HT := Lib.hid ((HT.out.more (below_one _ _)).more hBa)); (try (with_reducible replace HP := Lib.hid ((HP.out.below (below_one _ _)).below hBa))); clear i0 i1 i2 i3 i4 i5 i6 i7 kf a0 a1 a2 a3 a4 a5 a6 a7 af z0 z1 z2 z3 z4 z5 z6 z7 zf; (try clear y0 y1 y2 y3 y4 y5 y6 y7 yf); obtain ⟨⟨i0, i1, i2, i3, i4, i5, i6, i7⟩, kf⟩ := box8 HT.out.a; obtain ⟨⟨a0, a1, a2, a3, a4, a5, a6, a7⟩, af⟩ := box8 (HT.out.more (below_one _ (.cells #[.slice none 0 0, .slice none 0 0, .bool false, .int .i64 0, .int .i64 0, .int .i64 0, .int .i64 0, .slice none 0 0] 32))).a; obtain ⟨⟨z0, z1, z2, z3, z4, z5, z6, z7⟩, zf⟩ := box8 HT.out.zero; (try (have yz := box8 HZ.out; obtain ⟨⟨y0, y1, y2, y3, y4, y5, y6, y7⟩, yf⟩ := yz)); clear hBa)
        | (go_at_call 11; (with_reducible refine (C3.out _ _ HTA.out.v).mono ?_); rintro e wa ⟨v', rfl, hv', hBa⟩; obtain ⟨qA1, qn1, qc1, qA2, qn2, qc2, qdl, qjr, qsq, qA7, qn7, qc7, rfl⟩ := aw_form putA2.still hv' n HN.out; have HV' := Lib.hid hv'; clear hv'; (with_reducible have HZ := Lib.hid (box_kept _ HZA.out hBa)); have HGZ := HGZA; (with_reducible replace HT := Lib.hid (HTA.out.more hBa)); (try (with_reducible replace HP := Lib.hid (HPA.out.below hBa))); clear i0 i1 i2 i3 i4 i5 i6 i7 kf a0 a1 a2 a3 a4 a5 a6 a7 af z0 z1 z2 z3 z4 z5 z6 z7 zf; (try clear y0 y1 y2 y3 y4 y5 y6 y7 yf); obtain ⟨⟨i0, i1, i2, i3, i4, i5, i6, i7⟩, kf⟩ := box8 HT.out.a; obtain ⟨⟨a0, a1, a2, a3, a4, a5, a6, a7⟩, af⟩ := box8 (HT.out.more (below_one _ (.cells #[.slice none 0 0, .slice none 0 0, .bool false, .int .i64 0, .int .i64 0, .int .i64 0, .int .i64 0, .slice none 0 0] 32))).a; obtain ⟨⟨z0, z1, z2, z3, z4, z5, z6, z7⟩, zf⟩ := box8 HT.out.zero; (try (have yz := box8 HZ.out; obtain ⟨⟨y0, y1, y2, y3, y4, y5, y6, y7⟩, yf⟩ := yz)); clear hBa))
      all_goals
        first
          | (have hz0 := HZ.out
             obtain ⟨X, hX, hVN, hVO, hIN⟩ := HT.out.fresh hz0 HGZ HV'.out
             rw [hX]
             go_wp2_with fail
             go_meet
             case rel => exact ⟨_, qA1, qn1, qc1, qA2, qn2, qc2, qdl, qjr, qsq, qA7, qn7, qc7, rfl, rfl, rfl, hVN, hVO, hIN _ _ HP.out⟩)
          | (go_wp2_with fail
             go_meet
             case rel => exact ⟨_, qA1, qn1, qc1, qA2, qn2, qc2, qdl, qjr, qsq, qA7, qn7, qc7, rfl, rfl, rfl, VV.new HV'.out HT.out.below, HT.out.more (below_one _ _), HP.out.below (below_one _ _)⟩)
    case rest =>
      obtain ⟨g', qA1, qn1, qc1, qA2, qn2, qc2, qdl, qjr, qsq, qA7, qn7, qc7, rfl, rfl, rfl, hVN, hVO, hIN⟩ := hcut
      have HT := Lib.hid hVO
      have HP := Lib.hid hIN
      clear hVN hVO hIN HT0 HP0 HTA HPA HZA HGZA
      (try clear i0 i1 i2 i3 i4 i5 i6 i7 kf)
      (try clear d0 d1 d2 d3 d4 d5 d6 d7 df)
      obtain ⟨⟨i0, i1, i2, i3, i4, i5, i6, i7⟩, kf⟩ := box8 HT.out.a
      go_wp2_with fail
      (with_reducible refine (aw_walk3 _ _ HT.out.v).mono ?_)
      rintro e w7 ⟨vz, rfl, hvz, hb7⟩
      have HT := Lib.hid (HT.out.more hb7)
      have HP := Lib.hid (HP.out.below hb7)
      clear hvz hb7 i0 i1 i2 i3 i4 i5 i6 i7 kf
      obtain ⟨⟨i0, i1, i2, i3, i4, i5, i6, i7⟩, kf⟩ := box8 HT.out.a
      go_wp2_with fail
      (with_reducible refine (aw_drop _ _ HT.out.v).mono ?_)
      rintro e w8 ⟨v', rfl, hv', hb8⟩
      obtain ⟨sA1, sn1, sc1, sA2, sn2, sc2, sdl, sjr, ssq, sA7, sn7, sc7, rfl⟩ := aw_form dropA.still hv' n HN.out
      have hT8 := HT.out.more hb8
      obtain ⟨X8, hX8, hVX8, hk8⟩ := hT8.put hv'
      have HX8 := Lib.hid hX8
      have HP := Lib.hid (hT8.ints (HP.out.below hb8) hk8)
      have HT := Lib.hid hVX8
      clear i0 i1 i2 i3 i4 i5 i6 i7 kf
      obtain ⟨⟨i0, i1, i2, i3, i4, i5, i6, i7⟩, kf⟩ := box8 hT8.a
      clear hX8 hVX8 hk8 hT8 hb8 hv'
      go_upto_region 9 with (fail)
      rw [HX8.out]
      clear HX8 i0 i1 i2 i3 i4 i5 i6 i7 kf
      obtain ⟨⟨i0, i1, i2, i3, i4, i5, i6, i7⟩, kf⟩ := box8 HT.out.a
      go_wp2_with fail
      (with_reducible refine (R3.out _ _ HT.out.v).mono ?_)
      rintro e w9 ⟨rfl, hb9⟩
      have HT := Lib.hid (HT.out.more hb9)
      have HP := Lib.hid (HP.out.below hb9)
      clear hb9 i0 i1 i2 i3 i4 i5 i6 i7 kf
      obtain ⟨⟨i0, i1, i2, i3, i4, i5, i6, i7⟩, kf⟩ := box8 HT.out.a
      go_wp2_with fail
      (with_reducible refine (aw_free _ _ _ (HT.out.more (below_one _ _)).v (one_ints w9 0)).mono ?_)
      rintro e w10 ⟨v', rfl, hv', hb10⟩
      obtain ⟨tA1, tn1, tc1, tA2, tn2, tc2, tdl, tjr, tsq, tA7, tn7, tc7, rfl⟩ := aw_form stillA4 hv' n HN.out
      have hT10 := (HT.out.more (below_one w9 (.cells #[.int .i64 0] 3))).more hb10
      obtain ⟨X10, hX10, hVX10, hk10⟩ := hT10.put hv'
      have HX10 := Lib.hid hX10
      have HP := Lib.hid (hT10.ints ((HP.out.below (below_one w9 (.cells #[.int .i64 0] 3))).below hb10) hk10)
      have HT := Lib.hid hVX10
      clear i0 i1 i2 i3 i4 i5 i6 i7 kf
      obtain ⟨⟨i0, i1, i2, i3, i4, i5, i6, i7⟩, kf⟩ := box8 hT10.a
      clear hX10 hVX10 hk10 hT10 hb10 hv'
      go_upto_region 11 with (fail)
      rw [HX10.out]
      clear HX10 i0 i1 i2 i3 i4 i5 i6 i7 kf
      obtain ⟨⟨i0, i1, i2, i3, i4, i5, i6, i7⟩, kf⟩ := box8 HT.out.a
      go_wp2_with fail
      (with_reducible refine (R4.out _ _ HT.out.v).mono ?_)
      rintro e w11 ⟨rfl, hb11⟩
      have HT := Lib.hid (HT.out.more hb11)
      have HP := Lib.hid (HP.out.below hb11)
      clear hb11 i0 i1 i2 i3 i4 i5 i6 i7 kf
      go_wp2_with fail
      (with_reducible refine (L3.out _).mono ?_)
      rintro e w12 ⟨rfl, hb12⟩
      have HT := Lib.hid (HT.out.more hb12)
      have hp12 := HP.out.below hb12
      obtain ⟨PA', pn', pc', hpe, hpn', hpc', hprd⟩ := hp12.open_
      injection hpe with hpe1 hpe2 hpe3
      subst hpe1 hpe3
      obtain ⟨pb, po, rfl, y0⟩ := int_at hprd (Below.refl _ _) (k := 1) (o := 2) rfl (by omega)
      clear hb12 hp12 hpn' hpc' hprd hpe2
      go_wp2_with fail
      (with_reducible refine (K3.out _).mono ?_)
      rintro e w13 ⟨rfl, hb13⟩
      have HT := Lib.hid (HT.out.more hb13)
      clear hb13 y0
      go_wp2_with fail
      (with_reducible refine (K4.out _).mono ?_)
      rintro e w14 ⟨rfl, hb14⟩
      have HT := Lib.hid (HT.out.more hb14)
      clear hb14
      go_wp2_with fail
      (with_reducible refine (most_calls _).mono ?_)
      rintro e w15 ⟨rfl, rfl⟩
      go_wp2_with fail
      (with_reducible refine (aw_need0 _).mono ?_)
      rintro e w15 ⟨rfl, rfl⟩
      go_wp2_with fail
      (with_reducible refine (aw_need205 _).mono ?_)
      rintro e w15 ⟨rfl, rfl⟩
      go_wp2_with fail
      go_ret
      exact ⟨rfl, HT.out.below⟩
end Go.Proofs.YtgeiemccjionpaaGreat.Chn
