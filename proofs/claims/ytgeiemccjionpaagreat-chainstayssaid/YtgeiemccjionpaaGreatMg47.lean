/- Contracts and plain mathematics that the statement's proof wants: no statement is proved here, nothing is assumed. -/
import Derived.Test.YtgeiemccjionpaaGreatMg38
/- HStays -/
namespace Go.Proofs.YtgeiemccjionpaaGreat.Chn
open Go.RowKit Go.Sort
open Dsk Vlt

set_option maxRecDepth 100000 in
set_option maxHeartbeats 32000000 in
theorem stays_calls (p a0 b0 : Int) (w : World) (AW : ∀ w : World, Calls Tryz.prog 8 #[] w fun e w' => e = .returned (.bool true) ∧ Below w.heap.size w w') (hp : 0 ≤ p ∧ p < 256) (ha : 0 ≤ a0 ∧ a0 < 65536) (hb : 0 ≤ b0 ∧ b0 < 65536) :
    Calls Tryz.prog 7 #[.int .u8 p, .agg #[.int .u16 a0, .int .u16 b0]] w fun e w' => e = .returned (.bool true) ∧ Below w.heap.size w w' := by
  obtain ⟨n, hn⟩ : ∃ n : Nat, (n : Int) = 16 + p % 24 := ⟨(16 + p % 24).toNat, by omega⟩
  obtain ⟨a, hae⟩ : ∃ a : Nat, (a : Int) = a0 % 2000 := ⟨(a0 % 2000).toNat, by omega⟩
  obtain ⟨b, hbe⟩ : ∃ b : Nat, (b : Int) = b0 % 2000 := ⟨(b0 % 2000).toNat, by omega⟩
  have hn1 : 16 ≤ n := by omega
  have hn2 : n ≤ 512 := by omega
  have ha2 : a < 2000 := by omega
  have hb2 : b < 2000 := by omega
  have hxr := shL_right hn1 hn2
  have tv0 := TV.format hxr
  obtain ⟨k0, hk0⟩ : ∃ k, k = formatV (shL n) := ⟨_, rfl⟩
  rw [← hk0] at tv0
  have C0 : Hid (∀ W : World, Calls Tryz.prog 9 #[.int .i64 (n : Nat), .int .i64 8] W fun e w' => ∃ v', e = .returned (.tuple #[v', .int .i64 0]) ∧ IsVault w' v' k0 ∧ Below W.heap.size W w') := Lib.hid (fun W => by rw [hk0]; exact rformat_ok (shL n) W hxr)
  have LA := Lib.hid (fun W => long_calls a W (by omega))
  have LB := Lib.hid (fun W => long_calls b W (by omega))
  have NA := Lib.hid (fun W => need_calls a W (by omega))
  have NB := Lib.hid (fun W => need_calls b W (by omega))
  have AW := Lib.hid AW
  have HF0 := Lib.hid (fun (W : World) (v : Value) (h : IsVault W v k0) => tv0.form hn1 hn2 h)
  have hwa : wrap64 a0 = a0 := by unfold wrap64; omega
  have hwb : wrap64 b0 = b0 := by unfold wrap64; omega
  have hra : (wrap64 a0).tmod 2000 = (a : Int) := by rw [hwa, Int.tmod_eq_emod_of_nonneg (by omega)]; omega
  have hrb : (wrap64 b0).tmod 2000 = (b : Int) := by rw [hwb, Int.tmod_eq_emod_of_nonneg (by omega)]; omega
  obtain ⟨Y, hY, hYb⟩ : ∃ Y, Y = w.alloc (.cells #[.int .u16 a0, .int .u16 b0] 61) ∧ Below w.heap.size w Y := ⟨_, rfl, below_one _ _⟩
  have HXL : Hid (w.heap.size < Y.heap.size) := Lib.hid (by rw [hY]; simp)
  have x0 : Y.cell? ⟨w.heap.size, 0, none⟩ = some (.int .u16 a0) := by rw [hY, cell_of_row _ _ _ _ _ _ (heap_alloc_new w _)]; rfl
  have x1 : Y.cell? ⟨w.heap.size, 1, none⟩ = some (.int .u16 b0) := by rw [hY, cell_of_row _ _ _ _ _ _ (heap_alloc_new w _)]; rfl
  have HY := Lib.hid hY
  have HYB := Lib.hid hYb
  have HHN := Lib.hid hn.symm
  have HRA := Lib.hid (And.intro hra hrb)
  have hla := longL_len a
  have HWN : Hid (IntKind.i64.wrap ((n : Int) - 1) = (n : Int) - 1) := Lib.hid (by rw [wrap_small _ (by omega) (by omega)])
  have hlb := longL_len b
  clear ha hb hn hae hbe hY hYb hk0 hwa hwb hra hrb hxr
  go_enter Tryz.func7, Tryz.ntmps7
  go_wp2_with fail
  rw [HHN.out, ← HY.out]
  clear hp
  (with_reducible refine (C0.out _).mono ?_)
  rintro e w1 ⟨v1, rfl, hv1, hb1⟩
  obtain ⟨pA1, pn1, pc1, pA2, pn2, pc2, pdl, pjr, psq, pA7, pn7, pc7, rfl⟩ := HF0.out _ _ hv1
  obtain ⟨g, hg⟩ : ∃ g, g = w1.heap.size := ⟨_, rfl⟩
  obtain ⟨Z, hZ⟩ : ∃ Z, Z = w1.alloc (.cells #[.slice pA1 pn1 pc1, .slice pA2 pn2 pc2, .bool false, .int .i64 pdl, .int .i64 (n : Nat), .int .i64 pjr, .int .i64 psq, .slice pA7 pn7 pc7] 32) := ⟨_, rfl⟩
  have HB : Hid (VV w Z g #[.slice pA1 pn1 pc1, .slice pA2 pn2 pc2, .bool false, .int .i64 pdl, .int .i64 (n : Nat), .int .i64 pjr, .int .i64 psq, .slice pA7 pn7 pc7] k0) := Lib.hid (by rw [hZ, hg]; exact VV.new hv1 (Dsk.below_trans' HYB.out hb1))
  have x0 : Z.cell? ⟨w.heap.size, 0, none⟩ = some (.int .u16 a0) := by
    rw [hZ]
    exact ((Dsk.below_trans' hb1 (below_one w1 _)).cell (p := ⟨w.heap.size, 0, none⟩) HXL.out).trans x0
  have x1 : Z.cell? ⟨w.heap.size, 1, none⟩ = some (.int .u16 b0) := by
    rw [hZ]
    exact ((Dsk.below_trans' hb1 (below_one w1 _)).cell (p := ⟨w.heap.size, 1, none⟩) HXL.out).trans x1
  have HZ := Lib.hid hZ
  have HG := Lib.hid hg
  clear hZ hg hv1 hb1
  go_upto_region 2 with (fail)
  rw [← HZ.out, ← HG.out]
  clear HZ HG
  go_region
  rw [HRA.out.1, HRA.out.2]
  go_upto_region 3 with (fail)
  clear x0 x1
  by_cases hf : needC a + 1 ≤ n
  · obtain ⟨k1, l1, pk, _, _, hc1⟩ := law_put (A := []) (O := []) (B := []) (no := 0) (t := longL a) tv0 hn1 hn2 (.inl ⟨rfl, rfl, rfl⟩) (by omega) (by rw [hla]; simpa [pagesOf] using hf)
    have tv1 : TV (shL n) k1 ([] ++ [(l1, longL a)] ++ []) := pk.tv
    have hl1 := pk.len
    rw [hla] at hl1
    obtain ⟨p1, hp1, hp1a, _⟩ := tv1.first (l := l1) (t := longL a) (by simp)
    have hg1 := getD_at hp1
    have C1 := Lib.hid hc1
    have W1 := Lib.hid (law_walk tv1 hn1 hn2 (l := l1) (t := longL a) (by simp))
    have HF1 := Lib.hid (fun (W : World) (v : Value) (h : IsVault W v k1) => tv1.form hn1 hn2 h)
    rw [hg1] at C1 W1
    clear hc1
    go_cut [9, 10] from 37 to 44 (fun s9 s10 wx => ∃ (qA1 : Option Addr) (qn1 qc1 : Nat) (qA2 : Option Addr) (qn2 qc2 : Nat) (qdl qjr qsq : Int) (qA7 : Option Addr) (qn7 qc7 : Nat), s9 = .int .i64 ((p1 : Nat) : Int) ∧ s10 = .int .i64 0 ∧ VV w wx g #[.slice qA1 qn1 qc1, .slice qA2 qn2 qc2, .bool false, .int .i64 qdl, .int .i64 (n : Nat), .int .i64 qjr, .int .i64 qsq, .slice qA7 qn7 qc7] k1)
    case first =>
      have HT := Lib.hid ((HB.out.more (Below.refl _ _).drew).more (Below.refl _ _).drew)
      obtain ⟨⟨i0, i1, i2, i3, i4, i5, i6, i7⟩, kf⟩ := box8 HT.out.a
      go_region_with (first
        | (go_at_call 10; (with_reducible refine (LA.out _).mono ?_); rintro e wa ⟨rfl, hBa⟩; (with_reducible replace HT := Lib.hid (HT.out.more hBa)); clear hBa i0 i1 i2 i3 i4 i5 i6 i7 kf; obtain ⟨⟨i0, i1, i2, i3, i4, i5, i6, i7⟩, kf⟩ := box8 HT.out.a)
        | (go_at_call 11; (with_reducible refine (C1.out _ _ HT.out.v).mono ?_); rintro e wa ⟨v', rfl, hv', hBa⟩; (with_reducible replace HT := Lib.hid (HT.out.more hBa)); obtain ⟨qA1, qn1, qc1, qA2, qn2, qc2, qdl, qjr, qsq, qA7, qn7, qc7, rfl⟩ := HF1.out _ _ hv'; have HV' := Lib.hid hv'; clear hv' hBa i0 i1 i2 i3 i4 i5 i6 i7 kf; obtain ⟨⟨i0, i1, i2, i3, i4, i5, i6, i7⟩, kf⟩ := box8 HT.out.a))
      all_goals
        obtain ⟨X, hX, hVX, _⟩ := HT.out.put HV'.out
        rw [hX]
        go_wp2_with fail
        go_meet
        case rel => exact ⟨qA1, qn1, qc1, qA2, qn2, qc2, qdl, qjr, qsq, qA7, qn7, qc7, rfl, rfl, hVX⟩
    case rest =>
      obtain ⟨qA1, qn1, qc1, qA2, qn2, qc2, qdl, qjr, qsq, qA7, qn7, qc7, rfl, rfl, hVX⟩ := hcut
      have HT := Lib.hid hVX
      clear hVX HB

      obtain ⟨⟨i0, i1, i2, i3, i4, i5, i6, i7⟩, kf⟩ := box8 HT.out.a
      go_wp2_with fail
      (with_reducible refine (W1.out _ _ HT.out.v).mono ?_)
      rintro e w3 ⟨vp, rfl, hvp, hb3⟩
      obtain ⟨PA, pn, pc, rfl, hpl, hpc, _⟩ := hvp.open_
      rw [natI_len, hl1] at hpl
      subst hpl
      have HP := Lib.hid hvp
      have HT := Lib.hid (HT.out.more hb3)
      clear hvp hb3 hpc i0 i1 i2 i3 i4 i5 i6 i7 kf
      go_wp2_with fail
      have HTA := Lib.hid ((HT.out.more (below_one w3 (.cells #[.slice none 0 0, .slice none 0 0, .bool false, .int .i64 0, .int .i64 0, .int .i64 0, .int .i64 0, .slice none 0 0] 32))).more (Below.refl _ _).drew)
      have HZA : Hid ((w3.alloc (.cells #[.slice none 0 0, .slice none 0 0, .bool false, .int .i64 0, .int .i64 0, .int .i64 0, .int .i64 0, .slice none 0 0] 32)).drew.heap[w3.heap.size]? = some (.cells #[.slice none 0 0, .slice none 0 0, .bool false, .int .i64 0, .int .i64 0, .int .i64 0, .int .i64 0, .slice none 0 0] 32 (0, 0))) := Lib.hid (heap_alloc_new w3 _)
      have HGZA := Lib.hid HT.out.lt
      have HPA := Lib.hid ((HP.out.below (below_one w3 (.cells #[.slice none 0 0, .slice none 0 0, .bool false, .int .i64 0, .int .i64 0, .int .i64 0, .int .i64 0, .slice none 0 0] 32))).below (Below.refl _ _).drew)
      have HT0 := Lib.hid (HT.out.more (Below.refl _ _).drew)
      have HP0 := Lib.hid (HP.out.below (Below.refl _ _).drew)
      obtain ⟨⟨d0, d1, d2, d3, d4, d5, d6, d7⟩, df⟩ := box8 HTA.out.a
      clear HT HP
      have hl1n : l1 ≠ [] := by rintro rfl; simp at hp1
      by_cases hf2 : needC b + 1 ≤ n
      · obtain ⟨k2, l2, pk2, _, _, hc2⟩ := law_put (A := []) (O := [(l1, longL a)]) (B := []) (old := l1) (no := ((p1 : Nat) : Int)) (t := longL b) tv1 hn1 hn2 (.inr ⟨longL a, rfl, by rw [hg1]⟩) (by omega) (by rw [hlb]; simpa [pagesOf] using hf2)
        have tv2 : TV (shL n) k2 ([] ++ [(l2, longL b)] ++ []) := pk2.tv
        have hl2 := pk2.len
        rw [hlb] at hl2
        have hfst := pk2.first hl1n
        rw [hg1] at hfst
        have hkp := pk2.keep
        rw [hlb] at hkp
        have C2 := Lib.hid hc2
        have W2 := Lib.hid (law_walk tv2 hn1 hn2 (l := l2) (t := longL b) (by simp))
        have HF2 := Lib.hid (fun (W : World) (v : Value) (h : IsVault W v k2) => tv2.form hn1 hn2 h)
        rw [hfst] at C2 W2
        have HKP := Lib.hid hkp
        have HL1 := Lib.hid hl1
        have HL2 := Lib.hid hl2
        clear hc2 hkp hl1 hl2 hfst
        go_cut [14, 15, 16] from 64 to 72 (fun s14 s15 s16 wx => ∃ (g' : Nat) (rA1 : Option Addr) (rn1 rc1 : Nat) (rA2 : Option Addr) (rn2 rc2 : Nat) (rdl rjr rsq : Int) (rA7 : Option Addr) (rn7 rc7 : Nat), s14 = .pointer (some ⟨g', 0, none⟩) ∧ s15 = .int .i64 ((p1 : Nat) : Int) ∧ s16 = .int .i64 0 ∧ VV w wx g' #[.slice rA1 rn1 rc1, .slice rA2 rn2 rc2, .bool false, .int .i64 rdl, .int .i64 (n : Nat), .int .i64 rjr, .int .i64 rsq, .slice rA7 rn7 rc7] k2 ∧ VV w wx g #[.slice qA1 qn1 qc1, .slice qA2 qn2 qc2, .bool false, .int .i64 qdl, .int .i64 (n : Nat), .int .i64 qjr, .int .i64 qsq, .slice qA7 qn7 qc7] k1 ∧ IsInts wx (.slice PA (needC a) pc) (natI l1))
        case first =>
          have HT := HT0
          have HP := HP0
          clear HT0 HP0
          obtain ⟨⟨i0, i1, i2, i3, i4, i5, i6, i7⟩, kf⟩ := box8 HT.out.a; obtain ⟨⟨a0, a1, a2, a3, a4, a5, a6, a7⟩, af⟩ := box8 (HT.out.more (below_one _ (.cells #[.slice none 0 0, .slice none 0 0, .bool false, .int .i64 0, .int .i64 0, .int .i64 0, .int .i64 0, .slice none 0 0] 32))).a; obtain ⟨⟨z0, z1, z2, z3, z4, z5, z6, z7⟩, zf⟩ := box8 HT.out.zero; (try (have yz := box8 HZ.out; obtain ⟨⟨y0, y1, y2, y3, y4, y5, y6, y7⟩, yf⟩ := yz))
          go_region_with (first
            | (go_at_call 10; (with_reducible refine (LB.out _).mono ?_); rintro e wa ⟨rfl, hBa⟩; first
              | ((with_reducible replace HT := Lib.hid (HT.out.more hBa)); (try (with_reducible replace HZ := Lib.hid (box_kept _ HZ.out hBa))); (try (with_reducible replace HP := Lib.hid (HP.out.below hBa))); clear i0 i1 i2 i3 i4 i5 i6 i7 kf a0 a1 a2 a3 a4 a5 a6 a7 af z0 z1 z2 z3 z4 z5 z6 z7 zf; (try clear y0 y1 y2 y3 y4 y5 y6 y7 yf); obtain ⟨⟨i0, i1, i2, i3, i4, i5, i6, i7⟩, kf⟩ := box8 HT.out.a; obtain ⟨⟨a0, a1, a2, a3, a4, a5, a6, a7⟩, af⟩ := box8 (HT.out.more (below_one _ (.cells #[.slice none 0 0, .slice none 0 0, .bool false, .int .i64 0, .int .i64 0, .int .i64 0, .int .i64 0, .slice none 0 0] 32))).a; obtain ⟨⟨z0, z1, z2, z3, z4, z5, z6, z7⟩, zf⟩ := box8 HT.out.zero; (try (have yz := box8 HZ.out; obtain ⟨⟨y0, y1, y2, y3, y4, y5, y6, y7⟩, yf⟩ := yz)); clear hBa)
              | ((with_reducible have HZ := Lib.hid (box_kept _ HZA.out hBa)); have HGZ := HGZA; (with_reducible replace HT := Lib.hid (HTA.out.more hBa)); (try (with_reducible replace HP := Lib.hid (HPA.out.below hBa))); clear i0 i1 i2 i3 i4 i5 i6 i7 kf a0 a1 a2 a3 a4 a5 a6 a7 af z0 z1 z2 z3 z4 z5 z6 z7 zf; (try clear y0 y1 y2 y3 y4 y5 y6 y7 yf); obtain ⟨⟨i0, i1, i2, i3, i4, i5, i6, i7⟩, kf⟩ := box8 HT.out.a; obtain ⟨⟨a0, a1, a2, a3, a4, a5, a6, a7⟩, af⟩ := box8 (HT.out.more (below_one _ (.cells #[.slice none 0 0, .slice none 0 0, .bool false, .int .i64 0, .int .i64 0, .int .i64 0, .int .i64 0, .slice none 0 0] 32))).a; obtain ⟨⟨z0, z1, z2, z3, z4, z5, z6, z7⟩, zf⟩ := box8 HT.out.zero; (try (have yz := box8 HZ.out; obtain ⟨⟨y0, y1, y2, y3, y4, y5, y6, y7⟩, yf⟩ := yz)); clear hBa)
              | ((with_reducible have HZ := Lib.hid (box_kept _ HT.out.zero hBa)); have HGZ := Lib.hid HT.out.lt; (with_reducible replace HT := Lib.hid ((HT.out.more (below_one _ _)).more hBa)); (try (with_reducible replace HP := Lib.hid ((HP.out.below (below_one _ _)).below hBa))); clear i0 i1 i2 i3 i4 i5 i6 i7 kf a0 a1 a2 a3 a4 a5 a6 a7 af z0 z1 z2 z3 z4 z5 z6 z7 zf; (try clear y0 y1 y2 y3 y4 y5 y6 y7 yf); obtain ⟨⟨i0, i1, i2, i3, i4, i5, i6, i7⟩, kf⟩ := box8 HT.out.a; obtain ⟨⟨a0, a1, a2, a3, a4, a5, a6, a7⟩, af⟩ := box8 (HT.out.more (below_one _ (.cells #[.slice none 0 0, .slice none 0 0, .bool false, .int .i64 0, .int .i64 0, .int .i64 0, .int .i64 0, .slice none 0 0] 32))).a; obtain ⟨⟨z0, z1, z2, z3, z4, z5, z6, z7⟩, zf⟩ := box8 HT.out.zero; (try (have yz := box8 HZ.out; obtain ⟨⟨y0, y1, y2, y3, y4, y5, y6, y7⟩, yf⟩ := yz)); clear hBa))
            | (go_at_call 11; (with_reducible refine (C2.out _ _ HT.out.v).mono ?_); rintro e wa ⟨v', rfl, hv', hBa⟩; obtain ⟨rA1, rn1, rc1, rA2, rn2, rc2, rdl, rjr, rsq, rA7, rn7, rc7, rfl⟩ := HF2.out _ _ hv'; have HV' := Lib.hid hv'; clear hv'; (with_reducible replace HT := Lib.hid (HT.out.more hBa)); (try (with_reducible replace HZ := Lib.hid (box_kept _ HZ.out hBa))); (try (with_reducible replace HP := Lib.hid (HP.out.below hBa))); clear i0 i1 i2 i3 i4 i5 i6 i7 kf a0 a1 a2 a3 a4 a5 a6 a7 af z0 z1 z2 z3 z4 z5 z6 z7 zf; (try clear y0 y1 y2 y3 y4 y5 y6 y7 yf); obtain ⟨⟨i0, i1, i2, i3, i4, i5, i6, i7⟩, kf⟩ := box8 HT.out.a; obtain ⟨⟨a0, a1, a2, a3, a4, a5, a6, a7⟩, af⟩ := box8 (HT.out.more (below_one _ (.cells #[.slice none 0 0, .slice none 0 0, .bool false, .int .i64 0, .int .i64 0, .int .i64 0, .int .i64 0, .slice none 0 0] 32))).a; obtain ⟨⟨z0, z1, z2, z3, z4, z5, z6, z7⟩, zf⟩ := box8 HT.out.zero; (try (have yz := box8 HZ.out; obtain ⟨⟨y0, y1, y2, y3, y4, y5, y6, y7⟩, yf⟩ := yz)); clear hBa)
            | (go_at_call 11; (with_reducible refine (C2.out _ _ (HT.out.more (below_one _ _)).v).mono ?_); rintro e wa ⟨v', rfl, hv', hBa⟩; obtain ⟨rA1, rn1, rc1, rA2, rn2, rc2, rdl, rjr, rsq, rA7, rn7, rc7, rfl⟩ := HF2.out _ _ hv'; have HV' := Lib.hid hv'; clear hv'; (with_reducible have HZ := Lib.hid (box_kept _ HT.out.zero hBa)); have HGZ := Lib.hid HT.out.lt; (with_reducible replace HT := Lib.hid ((HT.out.more (below_one _ _)).more hBa)); (try (with_reducible replace HP := Lib.hid ((HP.out.below (below_one _ _)).below hBa))); clear i0 i1 i2 i3 i4 i5 i6 i7 kf a0 a1 a2 a3 a4 a5 a6 a7 af z0 z1 z2 z3 z4 z5 z6 z7 zf; (try clear y0 y1 y2 y3 y4 y5 y6 y7 yf); obtain ⟨⟨i0, i1, i2, i3, i4, i5, i6, i7⟩, kf⟩ := box8 HT.out.a; obtain ⟨⟨a0, a1, a2, a3, a4, a5, a6, a7⟩, af⟩ := box8 (HT.out.more (below_one _ (.cells #[.slice none 0 0, .slice none 0 0, .bool false, .int .i64 0, .int .i64 0, .int .i64 0, .int .i64 0, .slice none 0 0] 32))).a; obtain ⟨⟨z0, z1, z2, z3, z4, z5, z6, z7⟩, zf⟩ := box8 HT.out.zero; (try (have yz := box8 HZ.out; obtain ⟨⟨y0, y1, y2, y3, y4, y5, y6, y7⟩, yf⟩ := yz)); clear hBa)
            | (go_at_call 11; (with_reducible refine (C2.out _ _ HTA.out.v).mono ?_); rintro e wa ⟨v', rfl, hv', hBa⟩; obtain ⟨rA1, rn1, rc1, rA2, rn2, rc2, rdl, rjr, rsq, rA7, rn7, rc7, rfl⟩ := HF2.out _ _ hv'; have HV' := Lib.hid hv'; clear hv'; (with_reducible have HZ := Lib.hid (box_kept _ HZA.out hBa)); have HGZ := HGZA; (with_reducible replace HT := Lib.hid (HTA.out.more hBa)); (try (with_reducible replace HP := Lib.hid (HPA.out.below hBa))); clear i0 i1 i2 i3 i4 i5 i6 i7 kf a0 a1 a2 a3 a4 a5 a6 a7 af z0 z1 z2 z3 z4 z5 z6 z7 zf; (try clear y0 y1 y2 y3 y4 y5 y6 y7 yf); obtain ⟨⟨i0, i1, i2, i3, i4, i5, i6, i7⟩, kf⟩ := box8 HT.out.a; obtain ⟨⟨a0, a1, a2, a3, a4, a5, a6, a7⟩, af⟩ := box8 (HT.out.more (below_one _ (.cells #[.slice none 0 0, .slice none 0 0, .bool false, .int .i64 0, .int .i64 0, .int .i64 0, .int .i64 0, .slice none 0 0] 32))).a; obtain ⟨⟨z0, z1, z2, z3, z4, z5, z6, z7⟩, zf⟩ := box8 HT.out.zero; (try (have yz := box8 HZ.out; obtain ⟨⟨y0, y1, y2, y3, y4, y5, y6, y7⟩, yf⟩ := yz)); clear hBa))
          all_goals
            first
              | (have hz0 := HZ.out
                 obtain ⟨X, hX, hVN, hVO, hIN⟩ := HT.out.fresh hz0 HGZ HV'.out
                 rw [hX]
                 go_wp2_with fail
                 go_meet
                 case rel => exact ⟨_, rA1, rn1, rc1, rA2, rn2, rc2, rdl, rjr, rsq, rA7, rn7, rc7, rfl, rfl, rfl, hVN, hVO, hIN _ _ HP.out⟩)
              | (go_wp2_with fail
                 go_meet
                 case rel => exact ⟨_, rA1, rn1, rc1, rA2, rn2, rc2, rdl, rjr, rsq, rA7, rn7, rc7, rfl, rfl, rfl, VV.new HV'.out HT.out.below, HT.out.more (below_one _ _), HP.out.below (below_one _ _)⟩)
        case rest =>
          obtain ⟨g', rA1, rn1, rc1, rA2, rn2, rc2, rdl, rjr, rsq, rA7, rn7, rc7, rfl, rfl, rfl, hVN, hVO, hIN⟩ := hcut
          have HT := Lib.hid hVN
          have HP := Lib.hid hIN
          clear hVN hVO hIN HT0 HP0 HTA HPA HZA HGZA
          (try clear i0 i1 i2 i3 i4 i5 i6 i7 kf)
          (try clear d0 d1 d2 d3 d4 d5 d6 d7 df)
          obtain ⟨⟨i0, i1, i2, i3, i4, i5, i6, i7⟩, kf⟩ := box8 HT.out.a
          go_wp2_with fail
          (with_reducible refine (W2.out _ _ HT.out.v).mono ?_)
          rintro e w9 ⟨vq, rfl, hvq, hb9⟩
          obtain ⟨SA, sn, sc, rfl, hsl, hsc, _⟩ := hvq.open_
          rw [natI_len, HL2.out] at hsl
          subst hsl
          have HS := Lib.hid hvq
          have HT := Lib.hid (HT.out.more hb9)
          have HP := Lib.hid (HP.out.below hb9)
          clear hvq hb9 hsc i0 i1 i2 i3 i4 i5 i6 i7 kf
          go_wp2_with fail
          (with_reducible refine (NA.out _).mono ?_)
          rintro e wa ⟨rfl, rfl⟩
          go_wp2_with fail
          (with_reducible refine (NB.out _).mono ?_)
          rintro e wb ⟨rfl, rfl⟩
          go_wp2_with fail
          (with_reducible refine (LB.out _).mono ?_)
          rintro e w11 ⟨rfl, hb11⟩
          have HP := Lib.hid (HP.out.below hb11)
          have HS := Lib.hid (HS.out.below hb11)
          have HBL := Lib.hid (HT.out.more hb11).below
          clear hb11
          go_wp2_with fail
          go_loopw [20] (fun s20 wr => ∃ i : Nat, i ≤ needC a ∧ s20 = .int .i64 i ∧ Below w.heap.size w wr ∧ IsInts wr (.slice PA (needC a) pc) (natI l1) ∧ IsInts wr (.slice SA (needC b) sc) (natI l2)) (fun u _ => needC a - (intOf u).toNat)
          case atStart => exact ⟨0, Nat.zero_le _, rfl, HBL.out, HP.out, HS.out⟩
          case round =>
            clear HP HS HBL HT
            obtain ⟨i, hi, rfl, hbl, hp, hs⟩ := hrel
            obtain ⟨w12, rfl⟩ : ∃ w12, w12 = wr := ⟨_, rfl⟩
            have HBL := Lib.hid hbl
            have hnb : needC b ≤ 1000 := by omega
            by_cases hi1 : i < needC a ∧ i < needC b
            · obtain ⟨p, hpi⟩ : ∃ q, l1[i]? = some q := ⟨_, List.getElem?_eq_getElem (by rw [HL1.out]; exact hi1.1)⟩
              have hpi2 : l2[i]? = some p := by rw [HKP.out i (by rw [HL1.out]; exact hi1.1) hi1.2]; exact hpi
              have HP := Lib.hid hp
              have HS := Lib.hid hs
              obtain ⟨PA2, pn2, pc2, hpe, hpn2, hpc2, hprd⟩ := hp.open_
              injection hpe with hpe1 hpe2 hpe3
              subst hpe1 hpe2 hpe3
              obtain ⟨pb, po, rfl, y0⟩ := int_at hprd (Below.refl _ _) (natI_at hpi) (by omega)
              obtain ⟨SA2, sn2, sc2, hse, hsn2, hsc2, hsrd⟩ := hs.open_
              injection hse with hse1 hse2 hse3
              subst hse1 hse2 hse3
              obtain ⟨sb, so, rfl, y1⟩ := int_at hsrd (Below.refl _ _) (natI_at hpi2) (by omega)
              have hi2 : (i : Int) < ((needC a : Nat) : Int) := by omega
              have hi3 : (i : Int) < ((needC b : Nat) : Int) := by omega
              have hi4 : (0 : Int) ≤ (i : Int) := by omega
              have hw1 : IntKind.i64.wrap ((i : Int) + 1) = (i : Int) + 1 := by rw [wrap_small _ (by omega) (by omega)]
              clear hpn2 hpc2 hprd hsn2 hsc2 hsrd hp hs hbl
              go_upto_region 16 with (fail)
              go_region
              go_wp2_with fail
              exact ⟨⟨i + 1, by omega, by go_num, HBL.out.drew, HP.out.below (Below.refl _ _).drew, HS.out.below (Below.refl _ _).drew⟩, by simp [intOf]; omega⟩
            · by_cases hi5 : i < needC a
              · have hi2 : (i : Int) < ((needC a : Nat) : Int) := by omega
                have hi3 : ¬ (i : Int) < ((needC b : Nat) : Int) := by omega
                clear hi1 hp hs
                go_wp2_with fail
                (with_reducible refine (AW.out _).mono ?_)
                rintro e wz ⟨rfl, hbz⟩
                go_wp2_with fail
                go_ret
                exact ⟨rfl, Dsk.below_trans' HBL.out hbz⟩
              · have hi2 : ¬ (i : Int) < ((needC a : Nat) : Int) := by omega
                clear hi1 hp hs
                go_wp2_with fail
                (with_reducible refine (AW.out _).mono ?_)
                rintro e wz ⟨rfl, hbz⟩
                go_wp2_with fail
                go_ret
                exact ⟨rfl, Dsk.below_trans' HBL.out hbz⟩
      · have C2 := Lib.hid (law_put_no (A := []) (O := [(l1, longL a)]) (B := []) (old := l1) (no := ((p1 : Nat) : Int)) (t := longL b) tv1 hn1 hn2 (.inr ⟨longL a, rfl, by rw [hg1]⟩) (by omega) (by rw [hlb]; simpa [pagesOf] using hf2))
        have hgt : ((n : Int) - 1 < (needC b : Nat)) := by omega
        go_cut [14, 15, 16] from 64 to 72 (fun s14 s15 s16 wx => ∃ (g' : Nat) (rA1 : Option Addr) (rn1 rc1 : Nat) (rA2 : Option Addr) (rn2 rc2 : Nat) (rdl rjr rsq : Int) (rA7 : Option Addr) (rn7 rc7 : Nat), s14 = .pointer (some ⟨g', 0, none⟩) ∧ s15 = .int .i64 0 ∧ s16 = .int .i64 7 ∧ VV w wx g' #[.slice rA1 rn1 rc1, .slice rA2 rn2 rc2, .bool false, .int .i64 rdl, .int .i64 (n : Nat), .int .i64 rjr, .int .i64 rsq, .slice rA7 rn7 rc7] k1 ∧ VV w wx g #[.slice qA1 qn1 qc1, .slice qA2 qn2 qc2, .bool false, .int .i64 qdl, .int .i64 (n : Nat), .int .i64 qjr, .int .i64 qsq, .slice qA7 qn7 qc7] k1 ∧ IsInts wx (.slice PA (needC a) pc) (natI l1))
        case first =>
          have HT := HT0
          have HP := HP0
          clear HT0 HP0
          obtain ⟨⟨i0, i1, i2, i3, i4, i5, i6, i7⟩, kf⟩ := box8 HT.out.a; obtain ⟨⟨a0, a1, a2, a3, a4, a5, a6, a7⟩, af⟩ := box8 (HT.out.more (below_one _ (.cells #[.slice none 0 0, .slice none 0 0, .bool false, .int .i64 0, .int .i64 0, .int .i64 0, .int .i64 0, .slice none 0 0] 32))).a; obtain ⟨⟨z0, z1, z2, z3, z4, z5, z6, z7⟩, zf⟩ := box8 HT.out.zero; (try (have yz := box8 HZ.out; obtain ⟨⟨y0, y1, y2, y3, y4, y5, y6, y7⟩, yf⟩ := yz))
          go_region_with (first
            | (go_at_call 10; (with_reducible refine (LB.out _).mono ?_); rintro e wa ⟨rfl, hBa⟩; first
              | ((with_reducible replace HT := Lib.hid (HT.out.more hBa)); (try (with_reducible replace HZ := Lib.hid (box_kept _ HZ.out hBa))); (try (with_reducible replace HP := Lib.hid (HP.out.below hBa))); clear i0 i1 i2 i3 i4 i5 i6 i7 kf a0 a1 a2 a3 a4 a5 a6 a7 af z0 z1 z2 z3 z4 z5 z6 z7 zf; (try clear y0 y1 y2 y3 y4 y5 y6 y7 yf); obtain ⟨⟨i0, i1, i2, i3, i4, i5, i6, i7⟩, kf⟩ := box8 HT.out.a; obtain ⟨⟨a0, a1, a2, a3, a4, a5, a6, a7⟩, af⟩ := box8 (HT.out.more (below_one _ (.cells #[.slice none 0 0, .slice none 0 0, .bool false, .int .i64 0, .int .i64 0, .int .i64 0, .int .i64 0, .slice none 0 0] 32))).a; obtain ⟨⟨z0, z1, z2, z3, z4, z5, z6, z7⟩, zf⟩ := box8 HT.out.zero; (try (have yz := box8 HZ.out; obtain ⟨⟨y0, y1, y2, y3, y4, y5, y6, y7⟩, yf⟩ := yz)); clear hBa)
              | ((with_reducible have HZ := Lib.hid (box_kept _ HZA.out hBa)); have HGZ := HGZA; (with_reducible replace HT := Lib.hid (HTA.out.more hBa)); (try (with_reducible replace HP := Lib.hid (HPA.out.below hBa))); clear i0 i1 i2 i3 i4 i5 i6 i7 kf a0 a1 a2 a3 a4 a5 a6 a7 af z0 z1 z2 z3 z4 z5 z6 z7 zf; (try clear y0 y1 y2 y3 y4 y5 y6 y7 yf); obtain ⟨⟨i0, i1, i2, i3, i4, i5, i6, i7⟩, kf⟩ := box8 HT.out.a; obtain ⟨⟨a0, a1, a2, a3, a4, a5, a6, a7⟩, af⟩ := box8 (HT.out.more (below_one _ (.cells #[.slice none 0 0, .slice none 0 0, .bool false, .int .i64 0, .int .i64 0, .int .i64 0, .int .i64 0, .slice none 0 0] 32))).a; obtain ⟨⟨z0, z1, z2, z3, z4, z5, z6, z7⟩, zf⟩ := box8 HT.out.zero; (try (have yz := box8 HZ.out; obtain ⟨⟨y0, y1, y2, y3, y4, y5, y6, y7⟩, yf⟩ := yz)); clear hBa)
              | ((with_reducible have HZ := Lib.hid (box_kept _ HT.out.zero hBa)); have HGZ := Lib.hid HT.out.lt; (with_reducible replace HT := Lib.hid ((HT.out.more (below_one _ _)).more hBa)); (try (with_reducible replace HP := Lib.hid ((HP.out.below (below_one _ _)).below hBa))); clear i0 i1 i2 i3 i4 i5 i6 i7 kf a0 a1 a2 a3 a4 a5 a6 a7 af z0 z1 z2 z3 z4 z5 z6 z7 zf; (try clear y0 y1 y2 y3 y4 y5 y6 y7 yf); obtain ⟨⟨i0, i1, i2, i3, i4, i5, i6, i7⟩, kf⟩ := box8 HT.out.a; obtain ⟨⟨a0, a1, a2, a3, a4, a5, a6, a7⟩, af⟩ := box8 (HT.out.more (below_one _ (.cells #[.slice none 0 0, .slice none 0 0, .bool false, .int .i64 0, .int .i64 0, .int .i64 0, .int .i64 0, .slice none 0 0] 32))).a; obtain ⟨⟨z0, z1, z2, z3, z4, z5, z6, z7⟩, zf⟩ := box8 HT.out.zero; (try (have yz := box8 HZ.out; obtain ⟨⟨y0, y1, y2, y3, y4, y5, y6, y7⟩, yf⟩ := yz)); clear hBa))
            | (go_at_call 11; (with_reducible refine (C2.out _ _ HT.out.v).mono ?_); rintro e wa ⟨v', rfl, hv', hBa⟩; obtain ⟨rA1, rn1, rc1, rA2, rn2, rc2, rdl, rjr, rsq, rA7, rn7, rc7, rfl⟩ := HF1.out _ _ hv'; have HV' := Lib.hid hv'; clear hv'; (with_reducible replace HT := Lib.hid (HT.out.more hBa)); (try (with_reducible replace HZ := Lib.hid (box_kept _ HZ.out hBa))); (try (with_reducible replace HP := Lib.hid (HP.out.below hBa))); clear i0 i1 i2 i3 i4 i5 i6 i7 kf a0 a1 a2 a3 a4 a5 a6 a7 af z0 z1 z2 z3 z4 z5 z6 z7 zf; (try clear y0 y1 y2 y3 y4 y5 y6 y7 yf); obtain ⟨⟨i0, i1, i2, i3, i4, i5, i6, i7⟩, kf⟩ := box8 HT.out.a; obtain ⟨⟨a0, a1, a2, a3, a4, a5, a6, a7⟩, af⟩ := box8 (HT.out.more (below_one _ (.cells #[.slice none 0 0, .slice none 0 0, .bool false, .int .i64 0, .int .i64 0, .int .i64 0, .int .i64 0, .slice none 0 0] 32))).a; obtain ⟨⟨z0, z1, z2, z3, z4, z5, z6, z7⟩, zf⟩ := box8 HT.out.zero; (try (have yz := box8 HZ.out; obtain ⟨⟨y0, y1, y2, y3, y4, y5, y6, y7⟩, yf⟩ := yz)); clear hBa)
            | (go_at_call 11; (with_reducible refine (C2.out _ _ (HT.out.more (below_one _ _)).v).mono ?_); rintro e wa ⟨v', rfl, hv', hBa⟩; obtain ⟨rA1, rn1, rc1, rA2, rn2, rc2, rdl, rjr, rsq, rA7, rn7, rc7, rfl⟩ := HF1.out _ _ hv'; have HV' := Lib.hid hv'; clear hv'; (with_reducible have HZ := Lib.hid (box_kept _ HT.out.zero hBa)); have HGZ := Lib.hid HT.out.lt; (with_reducible replace HT := Lib.hid ((HT.out.more (below_one _ _)).more hBa)); (try (with_reducible replace HP := Lib.hid ((HP.out.below (below_one _ _)).below hBa))); clear i0 i1 i2 i3 i4 i5 i6 i7 kf a0 a1 a2 a3 a4 a5 a6 a7 af z0 z1 z2 z3 z4 z5 z6 z7 zf; (try clear y0 y1 y2 y3 y4 y5 y6 y7 yf); obtain ⟨⟨i0, i1, i2, i3, i4, i5, i6, i7⟩, kf⟩ := box8 HT.out.a; obtain ⟨⟨a0, a1, a2, a3, a4, a5, a6, a7⟩, af⟩ := box8 (HT.out.more (below_one _ (.cells #[.slice none 0 0, .slice none 0 0, .bool false, .int .i64 0, .int .i64 0, .int .i64 0, .int .i64 0, .slice none 0 0] 32))).a; obtain ⟨⟨z0, z1, z2, z3, z4, z5, z6, z7⟩, zf⟩ := box8 HT.out.zero; (try (have yz := box8 HZ.out; obtain ⟨⟨y0, y1, y2, y3, y4, y5, y6, y7⟩, yf⟩ := yz)); clear hBa)
            | (go_at_call 11; (with_reducible refine (C2.out _ _ HTA.out.v).mono ?_); rintro e wa ⟨v', rfl, hv', hBa⟩; obtain ⟨rA1, rn1, rc1, rA2, rn2, rc2, rdl, rjr, rsq, rA7, rn7, rc7, rfl⟩ := HF1.out _ _ hv'; have HV' := Lib.hid hv'; clear hv'; (with_reducible have HZ := Lib.hid (box_kept _ HZA.out hBa)); have HGZ := HGZA; (with_reducible replace HT := Lib.hid (HTA.out.more hBa)); (try (with_reducible replace HP := Lib.hid (HPA.out.below hBa))); clear i0 i1 i2 i3 i4 i5 i6 i7 kf a0 a1 a2 a3 a4 a5 a6 a7 af z0 z1 z2 z3 z4 z5 z6 z7 zf; (try clear y0 y1 y2 y3 y4 y5 y6 y7 yf); obtain ⟨⟨i0, i1, i2, i3, i4, i5, i6, i7⟩, kf⟩ := box8 HT.out.a; obtain ⟨⟨a0, a1, a2, a3, a4, a5, a6, a7⟩, af⟩ := box8 (HT.out.more (below_one _ (.cells #[.slice none 0 0, .slice none 0 0, .bool false, .int .i64 0, .int .i64 0, .int .i64 0, .int .i64 0, .slice none 0 0] 32))).a; obtain ⟨⟨z0, z1, z2, z3, z4, z5, z6, z7⟩, zf⟩ := box8 HT.out.zero; (try (have yz := box8 HZ.out; obtain ⟨⟨y0, y1, y2, y3, y4, y5, y6, y7⟩, yf⟩ := yz)); clear hBa))
          all_goals
            first
              | (have hz0 := HZ.out
                 obtain ⟨X, hX, hVN, hVO, hIN⟩ := HT.out.fresh hz0 HGZ HV'.out
                 rw [hX]
                 go_wp2_with fail
                 go_meet
                 case rel => exact ⟨_, rA1, rn1, rc1, rA2, rn2, rc2, rdl, rjr, rsq, rA7, rn7, rc7, rfl, rfl, rfl, hVN, hVO, hIN _ _ HP.out⟩)
              | (go_wp2_with fail
                 go_meet
                 case rel => exact ⟨_, rA1, rn1, rc1, rA2, rn2, rc2, rdl, rjr, rsq, rA7, rn7, rc7, rfl, rfl, rfl, VV.new HV'.out HT.out.below, HT.out.more (below_one _ _), HP.out.below (below_one _ _)⟩)
        case rest =>
          obtain ⟨g', rA1, rn1, rc1, rA2, rn2, rc2, rdl, rjr, rsq, rA7, rn7, rc7, rfl, rfl, rfl, hVN, hVO, hIN⟩ := hcut
          have HT := Lib.hid hVO
          clear hVN hVO hIN HT0 HP0 HTA HPA HZA HGZA
          (try clear i0 i1 i2 i3 i4 i5 i6 i7 kf)
          (try clear d0 d1 d2 d3 d4 d5 d6 d7 df)
          go_wp2_with fail
          have HT := Lib.hid (HT.out.more (Below.refl _ _).drew)
          obtain ⟨⟨i0, i1, i2, i3, i4, i5, i6, i7⟩, kf⟩ := box8 HT.out.a
          go_region_with (first
            | (go_at_call 8; (with_reducible refine (AW.out _).mono ?_); rintro e wa ⟨rfl, hBa⟩; (with_reducible replace HT := Lib.hid (HT.out.more hBa)); clear hBa i0 i1 i2 i3 i4 i5 i6 i7 kf; obtain ⟨⟨i0, i1, i2, i3, i4, i5, i6, i7⟩, kf⟩ := box8 HT.out.a)
            | (go_at_call 23; (with_reducible refine (NB.out _).mono ?_); rintro e wa ⟨rfl, rfl⟩))
          all_goals
            go_wp2_with fail
            go_ret
            exact ⟨by show Ending.returned (Value.bool (decide (IntKind.i64.wrap ((n : Int) - 1) < _))) = _; rw [HWN.out, decide_eq_true hgt], HT.out.below⟩

  · have C1 := Lib.hid (law_put_no (A := []) (O := []) (B := []) (no := 0) (t := longL a) tv0 hn1 hn2 (.inl ⟨rfl, rfl, rfl⟩) (by omega) (by rw [hla]; simpa [pagesOf] using hf))
    have hgt : ((n : Int) - 1 < (needC a : Nat)) := by omega
    go_cut [9, 10] from 37 to 44 (fun s9 s10 wx => ∃ (qA1 : Option Addr) (qn1 qc1 : Nat) (qA2 : Option Addr) (qn2 qc2 : Nat) (qdl qjr qsq : Int) (qA7 : Option Addr) (qn7 qc7 : Nat), s9 = .int .i64 0 ∧ s10 = .int .i64 7 ∧ VV w wx g #[.slice qA1 qn1 qc1, .slice qA2 qn2 qc2, .bool false, .int .i64 qdl, .int .i64 (n : Nat), .int .i64 qjr, .int .i64 qsq, .slice qA7 qn7 qc7] k0)
    case first =>
      have HT := Lib.hid ((HB.out.more (Below.refl _ _).drew).more (Below.refl _ _).drew)
      obtain ⟨⟨i0, i1, i2, i3, i4, i5, i6, i7⟩, kf⟩ := box8 HT.out.a
      go_region_with (first
        | (go_at_call 10; (with_reducible refine (LA.out _).mono ?_); rintro e wa ⟨rfl, hBa⟩; (with_reducible replace HT := Lib.hid (HT.out.more hBa)); clear hBa i0 i1 i2 i3 i4 i5 i6 i7 kf; obtain ⟨⟨i0, i1, i2, i3, i4, i5, i6, i7⟩, kf⟩ := box8 HT.out.a)
        | (go_at_call 11; (with_reducible refine (C1.out _ _ HT.out.v).mono ?_); rintro e wa ⟨v', rfl, hv', hBa⟩; (with_reducible replace HT := Lib.hid (HT.out.more hBa)); obtain ⟨qA1, qn1, qc1, qA2, qn2, qc2, qdl, qjr, qsq, qA7, qn7, qc7, rfl⟩ := HF0.out _ _ hv'; have HV' := Lib.hid hv'; clear hv' hBa i0 i1 i2 i3 i4 i5 i6 i7 kf; obtain ⟨⟨i0, i1, i2, i3, i4, i5, i6, i7⟩, kf⟩ := box8 HT.out.a))
      all_goals
        obtain ⟨X, hX, hVX, _⟩ := HT.out.put HV'.out
        rw [hX]
        go_wp2_with fail
        go_meet
        case rel => exact ⟨qA1, qn1, qc1, qA2, qn2, qc2, qdl, qjr, qsq, qA7, qn7, qc7, rfl, rfl, hVX⟩
    case rest =>
      obtain ⟨qA1, qn1, qc1, qA2, qn2, qc2, qdl, qjr, qsq, qA7, qn7, qc7, rfl, rfl, hVX⟩ := hcut
      have HT := Lib.hid hVX
      clear hVX HB

      go_wp2_with fail
      have HT := Lib.hid (HT.out.more (Below.refl _ _).drew)
      obtain ⟨⟨i0, i1, i2, i3, i4, i5, i6, i7⟩, kf⟩ := box8 HT.out.a
      go_region_with (first
        | (go_at_call 8; (with_reducible refine (AW.out _).mono ?_); rintro e wa ⟨rfl, hBa⟩; (with_reducible replace HT := Lib.hid (HT.out.more hBa)); clear hBa i0 i1 i2 i3 i4 i5 i6 i7 kf; obtain ⟨⟨i0, i1, i2, i3, i4, i5, i6, i7⟩, kf⟩ := box8 HT.out.a)
        | (go_at_call 23; (with_reducible refine (NA.out _).mono ?_); rintro e wa ⟨rfl, rfl⟩))
      all_goals
        go_wp2_with fail
        go_ret
        exact ⟨by show Ending.returned (Value.bool (decide (IntKind.i64.wrap ((n : Int) - 1) < _))) = _; rw [HWN.out, decide_eq_true hgt], HT.out.below⟩

end Go.Proofs.YtgeiemccjionpaaGreat.Chn
