/- Contracts and plain mathematics that the statement's proof wants: no statement is proved here, nothing is assumed. -/
import Derived.Test.YtgeiemccjionpaaGreatMg38
import Derived.Test.YtgeiemccjionpaaGreatMg43
/- HFits -/
namespace Go.Proofs.YtgeiemccjionpaaGreat.Chn
open Go.RowKit Go.Sort
open Dsk Vlt

theorem pages_one (ts : List TX) (l : List Nat) (t : List UInt8) : (pagesOf (ts ++ [(l, t)])).length = (pagesOf ts).length + l.length := by simp [pagesOf]
theorem At.len {O : List TX} {old : List Nat} {no : Int} (h : At O old no) (ts : List TX) : (pagesOf (ts ++ O)).length = (pagesOf ts).length + old.length := by
  rcases h with ⟨rfl, rfl, _⟩ | ⟨t0, rfl, _⟩
  · simp
  · exact pages_one _ _ _
theorem wrap_u16 {a : Int} (h1 : 0 ≤ a) (h2 : a < 65536) : wrap64 a = a := by unfold wrap64; omega

set_option maxRecDepth 100000 in
set_option maxHeartbeats 32000000 in
theorem fits_calls (p z0 : Int) (A : Option Addr) (m cap : Nat) (xs : List Int) (w : World) (AW : ∀ w : World, Calls Tryz.prog 8 #[] w fun e w' => e = .returned (.bool true) ∧ Below w.heap.size w w') (hp : 0 ≤ p ∧ p < 256) (hz : 0 ≤ z0 ∧ z0 < 65536) (hm : m ≤ 9223372036854775807) (hxs : UIn w A m xs) :
    Calls Tryz.prog 6 #[.int .u8 p, .slice A m cap, .int .u16 z0] w fun e w' => e = .returned (.bool true) ∧ Below w.heap.size w w' := by
  obtain ⟨n, hn⟩ : ∃ n : Nat, (n : Int) = 16 + p % 24 := ⟨(16 + p % 24).toNat, by omega⟩
  obtain ⟨z, hze⟩ : ∃ a : Nat, (a : Int) = z0 % 5000 := ⟨(z0 % 5000).toNat, by omega⟩
  have hn1 : 16 ≤ n := by omega
  have hn2 : n ≤ 512 := by omega
  have hz5 : z < 5000 := by omega
  have hxr := shL_right hn1 hn2
  have tv0 := TV.format hxr
  obtain ⟨k0, hk0⟩ : ∃ k, k = formatV (shL n) := ⟨_, rfl⟩
  rw [← hk0] at tv0
  have C0 : Hid (∀ W : World, Calls Tryz.prog 9 #[.int .i64 (n : Nat), .int .i64 8] W fun e w' => ∃ v', e = .returned (.tuple #[v', .int .i64 0]) ∧ IsVault w' v' k0 ∧ Below W.heap.size W w') := Lib.hid (fun W => by rw [hk0]; exact rformat_ok (shL n) W hxr)
  have AW := Lib.hid AW
  have HF0 := Lib.hid (fun (W : World) (v : Value) (h : IsVault W v k0) => tv0.form hn1 hn2 h)
  have HRZ : Hid ((wrap64 z0).tmod 5000 = (z : Int)) := Lib.hid (by rw [wrap_u16 hz.1 hz.2, Int.tmod_eq_emod_of_nonneg (by omega)]; omega)
  have hwn : IntKind.i64.wrap ((n : Int) - 1) = ((n - 1 : Nat) : Int) := by rw [wrap_small _ (by omega) (by omega)]; omega
  have HHN := Lib.hid hn.symm
  have HX := Lib.hid hxs
  clear hn hze hk0 hxr hz hxs
  by_cases hm10 : 10 < m
  · have hm11 : (10 : Int) < (m : Int) := by omega
    go_enter Tryz.func6, Tryz.ntmps6
    go_wp2_with fail
    (with_reducible refine (AW.out _).mono ?_)
    rintro e wz ⟨rfl, hbz⟩
    go_wp2_with fail
    go_ret
    exact ⟨rfl, hbz⟩
  have hm11 : ¬ (10 : Int) < (m : Int) := by omega
  go_enter Tryz.func6, Tryz.ntmps6
  go_wp2_with fail
  rw [HHN.out]
  clear hp
  (with_reducible refine (C0.out _).mono ?_)
  rintro e w1 ⟨v1, rfl, hv1, hb1⟩
  obtain ⟨pA1, pn1, pc1, pA2, pn2, pc2, pdl, pjr, psq, pA7, pn7, pc7, rfl⟩ := HF0.out _ _ hv1
  obtain ⟨g, hg⟩ : ∃ g, g = w1.heap.size := ⟨_, rfl⟩
  obtain ⟨Z, hZ⟩ : ∃ Z, Z = w1.alloc (.cells #[.slice pA1 pn1 pc1, .slice pA2 pn2 pc2, .bool false, .int .i64 pdl, .int .i64 (n : Nat), .int .i64 pjr, .int .i64 psq, .slice pA7 pn7 pc7] 32) := ⟨_, rfl⟩
  have HB : Hid (VV w Z g #[.slice pA1 pn1 pc1, .slice pA2 pn2 pc2, .bool false, .int .i64 pdl, .int .i64 (n : Nat), .int .i64 pjr, .int .i64 psq, .slice pA7 pn7 pc7] k0) := Lib.hid (by rw [hZ, hg]; exact VV.new hv1 hb1)
  have HZ := Lib.hid hZ
  have HG := Lib.hid hg
  clear hZ hg hv1 hb1
  go_upto_region 4 with (fail)
  rw [← HZ.out, ← HG.out]
  clear HZ HG
  obtain ⟨⟨i0, i1, i2, i3, i4, i5, i6, i7⟩, kf⟩ := box8 HB.out.a
  go_wp2_with fail
  clear i0 i1 i2 i3 i4 i5 i6 i7 kf
  go_loopw [9, 10, 11, 12] (fun s9 s10 s11 s12 wr => ∃ (i : Nat) (k1 : VK) (ts O : List TX) (old : List Nat) (fr lst : Nat) (qA1 : Option Addr) (qn1 qc1 : Nat) (qA2 : Option Addr) (qn2 qc2 : Nat) (qdl qjr qsq : Int) (qA7 : Option Addr) (qn7 qc7 : Nat), i ≤ m ∧ s12 = .int .i64 i ∧ s9 = .int .i64 fr ∧ s10 = .int .i64 lst ∧ s11 = .int .i64 (old.length : Nat) ∧ VV w wr g #[.slice qA1 qn1 qc1, .slice qA2 qn2 qc2, .bool false, .int .i64 qdl, .int .i64 (n : Nat), .int .i64 qjr, .int .i64 qsq, .slice qA7 qn7 qc7] k1 ∧ TV (shL n) k1 (ts ++ O ++ []) ∧ At O old (lst : Int) ∧ fr + (1 + (pagesOf (ts ++ O)).length) = n) (fun _ _ _ u _ => m - (intOf u).toNat)
  case atStart => exact ⟨0, k0, [], [], [], n - 1, 0, pA1, pn1, pc1, pA2, pn2, pc2, pdl, pjr, psq, pA7, pn7, pc7, Nat.zero_le _, rfl, rfl, rfl, rfl, HB.out, tv0, .inl ⟨rfl, rfl, rfl⟩, by simp [pagesOf]; omega⟩
  case round =>
    clear HB C0 HF0 hwn
    obtain ⟨i, k1, ts, O, old, fr, lst, qA1, qn1, qc1, qA2, qn2, qc2, qdl, qjr, qsq, qA7, qn7, qc7, hi, rfl, rfl, rfl, rfl, hV, tv, hAt, hfr⟩ := hrel
    obtain ⟨w2, rfl⟩ : ∃ w2, w2 = wr := ⟨_, rfl⟩
    have HT := Lib.hid hV
    clear hV
    by_cases hi1 : i < m
    · obtain ⟨x, hx⟩ : ∃ q, xs[i]? = some q := ⟨_, List.getElem?_eq_getElem (by rw [HX.out.1]; exact hi1)⟩
      obtain ⟨hx1, hx2⟩ := HX.out.2.1 x (List.mem_of_getElem? hx)
      obtain ⟨kk, hkk⟩ : ∃ a : Nat, (a : Int) = x % 900 := ⟨(x % 900).toNat, by omega⟩
      have HRX : Hid ((wrap64 x).tmod 900 = (kk : Int)) := Lib.hid (by rw [wrap_u16 hx1 hx2, Int.tmod_eq_emod_of_nonneg (by omega)]; omega)
      have hkk9 : kk < 900 := by omega
      have LK_ := Lib.hid (fun W => long_calls kk W (by omega))
      have NK := Lib.hid (fun W => need_calls kk W (by omega))
      obtain ⟨xb, xo, rfl, y0⟩ := HX.out.at_ HT.out.below hx
      have hi2 : (i : Int) < (m : Int) := by omega
      have hi4 : (0 : Int) ≤ (i : Int) := by omega
      have hw1 : IntKind.i64.wrap ((i : Int) + 1) = (i : Int) + 1 := by rw [wrap_small _ (by omega) (by omega)]
      clear hx hx1 hx2 hkk
      go_upto_region 10 with (fail)
      rw [HRX.out]
      clear y0 HRX
      by_cases hf : needC kk + (1 + (pagesOf (ts ++ O)).length) ≤ n
      · obtain ⟨k2, l2, pk, _, _, hc1⟩ := law_put (A := ts ++ O) (O := []) (B := []) (old := []) (no := 0) (t := longL kk) (by simpa using tv) hn1 hn2 (.inl ⟨rfl, rfl, rfl⟩) (by rw [longL_len]; omega) (by rw [longL_len, List.append_nil]; omega)
        have tv2 : TV (shL n) k2 ((ts ++ O) ++ [(l2, longL kk)] ++ []) := pk.tv
        have hl2 := pk.len
        rw [longL_len] at hl2
        obtain ⟨p1, hp1⟩ : ∃ p, p = l2.getD 0 0 := ⟨_, rfl⟩
        have C1 := Lib.hid hc1
        rw [← hp1] at C1
        have HF1 := Lib.hid (fun (W : World) (v : Value) (h : IsVault W v k2) => tv2.form hn1 hn2 h)
        have HP1 := Lib.hid hp1
        have hle : ((needC kk : Nat) : Int) ≤ (fr : Int) := by omega
        clear hc1 hp1
        have HTA := Lib.hid ((HT.out.more (below_one w2 (.cells #[.slice none 0 0, .slice none 0 0, .bool false, .int .i64 0, .int .i64 0, .int .i64 0, .int .i64 0, .slice none 0 0] 32))).more (Below.refl _ _).drew)
        have HZA : Hid ((w2.alloc (.cells #[.slice none 0 0, .slice none 0 0, .bool false, .int .i64 0, .int .i64 0, .int .i64 0, .int .i64 0, .slice none 0 0] 32)).drew.heap[w2.heap.size]? = some (.cells #[.slice none 0 0, .slice none 0 0, .bool false, .int .i64 0, .int .i64 0, .int .i64 0, .int .i64 0, .slice none 0 0] 32 (0, 0))) := Lib.hid (heap_alloc_new w2 _)
        have HGZA := Lib.hid HT.out.lt
        have HT0 := Lib.hid (HT.out.more (Below.refl _ _).drew)
        obtain ⟨⟨d0, d1, d2, d3, d4, d5, d6, d7⟩, df⟩ := box8 HTA.out.a
        clear HT
        go_cut [14, 15, 16] from 49 to 56 (fun s14 s15 s16 wx => ∃ (g' : Nat) (rA1 : Option Addr) (rn1 rc1 : Nat) (rA2 : Option Addr) (rn2 rc2 : Nat) (rdl rjr rsq : Int) (rA7 : Option Addr) (rn7 rc7 : Nat), s14 = .pointer (some ⟨g', 0, none⟩) ∧ s15 = .int .i64 ((p1 : Nat) : Int) ∧ s16 = .int .i64 0 ∧ VV w wx g' #[.slice rA1 rn1 rc1, .slice rA2 rn2 rc2, .bool false, .int .i64 rdl, .int .i64 (n : Nat), .int .i64 rjr, .int .i64 rsq, .slice rA7 rn7 rc7] k2 ∧ VV w wx g #[.slice qA1 qn1 qc1, .slice qA2 qn2 qc2, .bool false, .int .i64 qdl, .int .i64 (n : Nat), .int .i64 qjr, .int .i64 qsq, .slice qA7 qn7 qc7] k1)
        case first =>
          have HT := HT0
          clear HT0
          obtain ⟨⟨i0, i1, i2, i3, i4, i5, i6, i7⟩, kf⟩ := box8 HT.out.a; obtain ⟨⟨a0, a1, a2, a3, a4, a5, a6, a7⟩, af⟩ := box8 (HT.out.more (below_one _ (.cells #[.slice none 0 0, .slice none 0 0, .bool false, .int .i64 0, .int .i64 0, .int .i64 0, .int .i64 0, .slice none 0 0] 32))).a; obtain ⟨⟨z0, z1, z2, z3, z4, z5, z6, z7⟩, zf⟩ := box8 HT.out.zero; (try (have yz := box8 HZ.out; obtain ⟨⟨y0, y1, y2, y3, y4, y5, y6, y7⟩, yf⟩ := yz))
          go_region_with (first
            | (go_at_call 10; (with_reducible refine (LK_.out _).mono ?_); rintro e wa ⟨rfl, hBa⟩; first
              | ((with_reducible replace HT := Lib.hid (HT.out.more hBa)); (try (with_reducible replace HZ := Lib.hid (box_kept _ HZ.out hBa))); clear i0 i1 i2 i3 i4 i5 i6 i7 kf a0 a1 a2 a3 a4 a5 a6 a7 af z0 z1 z2 z3 z4 z5 z6 z7 zf; (try clear y0 y1 y2 y3 y4 y5 y6 y7 yf); obtain ⟨⟨i0, i1, i2, i3, i4, i5, i6, i7⟩, kf⟩ := box8 HT.out.a; obtain ⟨⟨a0, a1, a2, a3, a4, a5, a6, a7⟩, af⟩ := box8 (HT.out.more (below_one _ (.cells #[.slice none 0 0, .slice none 0 0, .bool false, .int .i64 0, .int .i64 0, .int .i64 0, .int .i64 0, .slice none 0 0] 32))).a; obtain ⟨⟨z0, z1, z2, z3, z4, z5, z6, z7⟩, zf⟩ := box8 HT.out.zero; (try (have yz := box8 HZ.out; obtain ⟨⟨y0, y1, y2, y3, y4, y5, y6, y7⟩, yf⟩ := yz)); clear hBa)
              | ((with_reducible have HZ := Lib.hid (box_kept _ HZA.out hBa)); have HGZ := HGZA; (with_reducible replace HT := Lib.hid (HTA.out.more hBa)); clear i0 i1 i2 i3 i4 i5 i6 i7 kf a0 a1 a2 a3 a4 a5 a6 a7 af z0 z1 z2 z3 z4 z5 z6 z7 zf; (try clear y0 y1 y2 y3 y4 y5 y6 y7 yf); obtain ⟨⟨i0, i1, i2, i3, i4, i5, i6, i7⟩, kf⟩ := box8 HT.out.a; obtain ⟨⟨a0, a1, a2, a3, a4, a5, a6, a7⟩, af⟩ := box8 (HT.out.more (below_one _ (.cells #[.slice none 0 0, .slice none 0 0, .bool false, .int .i64 0, .int .i64 0, .int .i64 0, .int .i64 0, .slice none 0 0] 32))).a; obtain ⟨⟨z0, z1, z2, z3, z4, z5, z6, z7⟩, zf⟩ := box8 HT.out.zero; (try (have yz := box8 HZ.out; obtain ⟨⟨y0, y1, y2, y3, y4, y5, y6, y7⟩, yf⟩ := yz)); clear hBa)
              | ((with_reducible have HZ := Lib.hid (box_kept _ HT.out.zero hBa)); have HGZ := Lib.hid HT.out.lt; (with_reducible replace HT := Lib.hid ((HT.out.more (below_one _ _)).more hBa)); clear i0 i1 i2 i3 i4 i5 i6 i7 kf a0 a1 a2 a3 a4 a5 a6 a7 af z0 z1 z2 z3 z4 z5 z6 z7 zf; (try clear y0 y1 y2 y3 y4 y5 y6 y7 yf); obtain ⟨⟨i0, i1, i2, i3, i4, i5, i6, i7⟩, kf⟩ := box8 HT.out.a; obtain ⟨⟨a0, a1, a2, a3, a4, a5, a6, a7⟩, af⟩ := box8 (HT.out.more (below_one _ (.cells #[.slice none 0 0, .slice none 0 0, .bool false, .int .i64 0, .int .i64 0, .int .i64 0, .int .i64 0, .slice none 0 0] 32))).a; obtain ⟨⟨z0, z1, z2, z3, z4, z5, z6, z7⟩, zf⟩ := box8 HT.out.zero; (try (have yz := box8 HZ.out; obtain ⟨⟨y0, y1, y2, y3, y4, y5, y6, y7⟩, yf⟩ := yz)); clear hBa))
            | (go_at_call 11; (with_reducible refine (C1.out _ _ HT.out.v).mono ?_); rintro e wa ⟨v', rfl, hv', hBa⟩; obtain ⟨rA1, rn1, rc1, rA2, rn2, rc2, rdl, rjr, rsq, rA7, rn7, rc7, rfl⟩ := HF1.out _ _ hv'; have HV' := Lib.hid hv'; clear hv'; (with_reducible replace HT := Lib.hid (HT.out.more hBa)); (try (with_reducible replace HZ := Lib.hid (box_kept _ HZ.out hBa))); clear i0 i1 i2 i3 i4 i5 i6 i7 kf a0 a1 a2 a3 a4 a5 a6 a7 af z0 z1 z2 z3 z4 z5 z6 z7 zf; (try clear y0 y1 y2 y3 y4 y5 y6 y7 yf); obtain ⟨⟨i0, i1, i2, i3, i4, i5, i6, i7⟩, kf⟩ := box8 HT.out.a; obtain ⟨⟨a0, a1, a2, a3, a4, a5, a6, a7⟩, af⟩ := box8 (HT.out.more (below_one _ (.cells #[.slice none 0 0, .slice none 0 0, .bool false, .int .i64 0, .int .i64 0, .int .i64 0, .int .i64 0, .slice none 0 0] 32))).a; obtain ⟨⟨z0, z1, z2, z3, z4, z5, z6, z7⟩, zf⟩ := box8 HT.out.zero; (try (have yz := box8 HZ.out; obtain ⟨⟨y0, y1, y2, y3, y4, y5, y6, y7⟩, yf⟩ := yz)); clear hBa)
            | (go_at_call 11; (with_reducible refine (C1.out _ _ (HT.out.more (below_one _ _)).v).mono ?_); rintro e wa ⟨v', rfl, hv', hBa⟩; obtain ⟨rA1, rn1, rc1, rA2, rn2, rc2, rdl, rjr, rsq, rA7, rn7, rc7, rfl⟩ := HF1.out _ _ hv'; have HV' := Lib.hid hv'; clear hv'; (with_reducible have HZ := Lib.hid (box_kept _ HT.out.zero hBa)); have HGZ := Lib.hid HT.out.lt; (with_reducible replace HT := Lib.hid ((HT.out.more (below_one _ _)).more hBa)); clear i0 i1 i2 i3 i4 i5 i6 i7 kf a0 a1 a2 a3 a4 a5 a6 a7 af z0 z1 z2 z3 z4 z5 z6 z7 zf; (try clear y0 y1 y2 y3 y4 y5 y6 y7 yf); obtain ⟨⟨i0, i1, i2, i3, i4, i5, i6, i7⟩, kf⟩ := box8 HT.out.a; obtain ⟨⟨a0, a1, a2, a3, a4, a5, a6, a7⟩, af⟩ := box8 (HT.out.more (below_one _ (.cells #[.slice none 0 0, .slice none 0 0, .bool false, .int .i64 0, .int .i64 0, .int .i64 0, .int .i64 0, .slice none 0 0] 32))).a; obtain ⟨⟨z0, z1, z2, z3, z4, z5, z6, z7⟩, zf⟩ := box8 HT.out.zero; (try (have yz := box8 HZ.out; obtain ⟨⟨y0, y1, y2, y3, y4, y5, y6, y7⟩, yf⟩ := yz)); clear hBa)
            | (go_at_call 11; (with_reducible refine (C1.out _ _ HTA.out.v).mono ?_); rintro e wa ⟨v', rfl, hv', hBa⟩; obtain ⟨rA1, rn1, rc1, rA2, rn2, rc2, rdl, rjr, rsq, rA7, rn7, rc7, rfl⟩ := HF1.out _ _ hv'; have HV' := Lib.hid hv'; clear hv'; (with_reducible have HZ := Lib.hid (box_kept _ HZA.out hBa)); have HGZ := HGZA; (with_reducible replace HT := Lib.hid (HTA.out.more hBa)); clear i0 i1 i2 i3 i4 i5 i6 i7 kf a0 a1 a2 a3 a4 a5 a6 a7 af z0 z1 z2 z3 z4 z5 z6 z7 zf; (try clear y0 y1 y2 y3 y4 y5 y6 y7 yf); obtain ⟨⟨i0, i1, i2, i3, i4, i5, i6, i7⟩, kf⟩ := box8 HT.out.a; obtain ⟨⟨a0, a1, a2, a3, a4, a5, a6, a7⟩, af⟩ := box8 (HT.out.more (below_one _ (.cells #[.slice none 0 0, .slice none 0 0, .bool false, .int .i64 0, .int .i64 0, .int .i64 0, .int .i64 0, .slice none 0 0] 32))).a; obtain ⟨⟨z0, z1, z2, z3, z4, z5, z6, z7⟩, zf⟩ := box8 HT.out.zero; (try (have yz := box8 HZ.out; obtain ⟨⟨y0, y1, y2, y3, y4, y5, y6, y7⟩, yf⟩ := yz)); clear hBa))
          all_goals
            first
              | (have hz0 := HZ.out
                 obtain ⟨X, hX, hVN, hVO, hIN⟩ := HT.out.fresh hz0 HGZ HV'.out
                 rw [hX]
                 go_wp2_with fail
                 go_meet
                 case rel => exact ⟨_, rA1, rn1, rc1, rA2, rn2, rc2, rdl, rjr, rsq, rA7, rn7, rc7, rfl, rfl, rfl, hVN, hVO⟩)
              | (go_wp2_with fail
                 go_meet
                 case rel => exact ⟨_, rA1, rn1, rc1, rA2, rn2, rc2, rdl, rjr, rsq, rA7, rn7, rc7, rfl, rfl, rfl, VV.new HV'.out HT.out.below, HT.out.more (below_one _ _)⟩)
        case rest =>
          obtain ⟨g', rA1, rn1, rc1, rA2, rn2, rc2, rdl, rjr, rsq, rA7, rn7, rc7, rfl, rfl, rfl, hVN, hVO⟩ := hcut
          obtain ⟨X, hX, hVX, _⟩ := hVO.put hVN.v
          obtain ⟨⟨i0, i1, i2, i3, i4, i5, i6, i7⟩, kf⟩ := box8 hVN.a
          obtain ⟨⟨j0, j1, j2, j3, j4, j5, j6, j7⟩, jf⟩ := box8 hVO.a
          have HXX := Lib.hid hX
          have HT := Lib.hid hVX
          clear hX hVX hVN hVO HTA HZA HGZA HT0
          (try clear d0 d1 d2 d3 d4 d5 d6 d7 df)
          go_upto_region 12 with (fail)
          rw [HXX.out]
          clear HXX i0 i1 i2 i3 i4 i5 i6 i7 kf j0 j1 j2 j3 j4 j5 j6 j7 jf
          go_wp2_with fail
          (with_reducible refine (NK.out _).mono ?_)
          rintro e wa ⟨rfl, rfl⟩
          have hsub : IntKind.i64.wrap ((fr : Int) - ((needC kk : Nat) : Int)) = ((fr - needC kk : Nat) : Int) := by rw [wrap_small _ (by omega) (by omega)]; omega
          go_wp2_with fail
          (with_reducible refine (NK.out _).mono ?_)
          rintro e wa ⟨rfl, rfl⟩
          go_wp2_with fail
          (with_reducible refine (NK.out _).mono ?_)
          rintro e wa ⟨rfl, rfl⟩
          go_wp2_with fail
          exact ⟨⟨i + 1, k2, ts ++ O, [(l2, longL kk)], l2, fr - needC kk, p1, rA1, rn1, rc1, rA2, rn2, rc2, rdl, rjr, rsq, rA7, rn7, rc7, by omega, by go_num, rfl, rfl, by rw [hl2], HT.out, tv2, .inr ⟨longL kk, rfl, by rw [HP1.out]⟩, by rw [pages_one, hl2]; omega⟩, by simp [intOf]; omega⟩
      · have C1 := Lib.hid (law_put_no (A := ts ++ O) (O := []) (B := []) (old := []) (no := 0) (t := longL kk) (by simpa using tv) hn1 hn2 (.inl ⟨rfl, rfl, rfl⟩) (by rw [longL_len]; omega) (by rw [longL_len, List.append_nil]; omega))
        have HF1 := Lib.hid (fun (W : World) (v : Value) (h : IsVault W v k1) => tv.form hn1 hn2 h)
        have hle : ¬ ((needC kk : Nat) : Int) ≤ (fr : Int) := by omega
        have HTA := Lib.hid ((HT.out.more (below_one w2 (.cells #[.slice none 0 0, .slice none 0 0, .bool false, .int .i64 0, .int .i64 0, .int .i64 0, .int .i64 0, .slice none 0 0] 32))).more (Below.refl _ _).drew)
        have HZA : Hid ((w2.alloc (.cells #[.slice none 0 0, .slice none 0 0, .bool false, .int .i64 0, .int .i64 0, .int .i64 0, .int .i64 0, .slice none 0 0] 32)).drew.heap[w2.heap.size]? = some (.cells #[.slice none 0 0, .slice none 0 0, .bool false, .int .i64 0, .int .i64 0, .int .i64 0, .int .i64 0, .slice none 0 0] 32 (0, 0))) := Lib.hid (heap_alloc_new w2 _)
        have HGZA := Lib.hid HT.out.lt
        have HT0 := Lib.hid (HT.out.more (Below.refl _ _).drew)
        obtain ⟨⟨d0, d1, d2, d3, d4, d5, d6, d7⟩, df⟩ := box8 HTA.out.a
        clear HT
        go_cut [14, 15, 16] from 49 to 56 (fun s14 s15 s16 wx => ∃ (g' : Nat) (rA1 : Option Addr) (rn1 rc1 : Nat) (rA2 : Option Addr) (rn2 rc2 : Nat) (rdl rjr rsq : Int) (rA7 : Option Addr) (rn7 rc7 : Nat), s14 = .pointer (some ⟨g', 0, none⟩) ∧ s15 = .int .i64 0 ∧ s16 = .int .i64 7 ∧ VV w wx g' #[.slice rA1 rn1 rc1, .slice rA2 rn2 rc2, .bool false, .int .i64 rdl, .int .i64 (n : Nat), .int .i64 rjr, .int .i64 rsq, .slice rA7 rn7 rc7] k1 ∧ VV w wx g #[.slice qA1 qn1 qc1, .slice qA2 qn2 qc2, .bool false, .int .i64 qdl, .int .i64 (n : Nat), .int .i64 qjr, .int .i64 qsq, .slice qA7 qn7 qc7] k1)
        case first =>
          have HT := HT0
          clear HT0
          obtain ⟨⟨i0, i1, i2, i3, i4, i5, i6, i7⟩, kf⟩ := box8 HT.out.a; obtain ⟨⟨a0, a1, a2, a3, a4, a5, a6, a7⟩, af⟩ := box8 (HT.out.more (below_one _ (.cells #[.slice none 0 0, .slice none 0 0, .bool false, .int .i64 0, .int .i64 0, .int .i64 0, .int .i64 0, .slice none 0 0] 32))).a; obtain ⟨⟨z0, z1, z2, z3, z4, z5, z6, z7⟩, zf⟩ := box8 HT.out.zero; (try (have yz := box8 HZ.out; obtain ⟨⟨y0, y1, y2, y3, y4, y5, y6, y7⟩, yf⟩ := yz))
          go_region_with (first
            | (go_at_call 10; (with_reducible refine (LK_.out _).mono ?_); rintro e wa ⟨rfl, hBa⟩; first
              | ((with_reducible replace HT := Lib.hid (HT.out.more hBa)); (try (with_reducible replace HZ := Lib.hid (box_kept _ HZ.out hBa))); clear i0 i1 i2 i3 i4 i5 i6 i7 kf a0 a1 a2 a3 a4 a5 a6 a7 af z0 z1 z2 z3 z4 z5 z6 z7 zf; (try clear y0 y1 y2 y3 y4 y5 y6 y7 yf); obtain ⟨⟨i0, i1, i2, i3, i4, i5, i6, i7⟩, kf⟩ := box8 HT.out.a; obtain ⟨⟨a0, a1, a2, a3, a4, a5, a6, a7⟩, af⟩ := box8 (HT.out.more (below_one _ (.cells #[.slice none 0 0, .slice none 0 0, .bool false, .int .i64 0, .int .i64 0, .int .i64 0, .int .i64 0, .slice none 0 0] 32))).a; obtain ⟨⟨z0, z1, z2, z3, z4, z5, z6, z7⟩, zf⟩ := box8 HT.out.zero; (try (have yz := box8 HZ.out; obtain ⟨⟨y0, y1, y2, y3, y4, y5, y6, y7⟩, yf⟩ := yz)); clear hBa)
              | ((with_reducible have HZ := Lib.hid (box_kept _ HZA.out hBa)); have HGZ := HGZA; (with_reducible replace HT := Lib.hid (HTA.out.more hBa)); clear i0 i1 i2 i3 i4 i5 i6 i7 kf a0 a1 a2 a3 a4 a5 a6 a7 af z0 z1 z2 z3 z4 z5 z6 z7 zf; (try clear y0 y1 y2 y3 y4 y5 y6 y7 yf); obtain ⟨⟨i0, i1, i2, i3, i4, i5, i6, i7⟩, kf⟩ := box8 HT.out.a; obtain ⟨⟨a0, a1, a2, a3, a4, a5, a6, a7⟩, af⟩ := box8 (HT.out.more (below_one _ (.cells #[.slice none 0 0, .slice none 0 0, .bool false, .int .i64 0, .int .i64 0, .int .i64 0, .int .i64 0, .slice none 0 0] 32))).a; obtain ⟨⟨z0, z1, z2, z3, z4, z5, z6, z7⟩, zf⟩ := box8 HT.out.zero; (try (have yz := box8 HZ.out; obtain ⟨⟨y0, y1, y2, y3, y4, y5, y6, y7⟩, yf⟩ := yz)); clear hBa)
              | ((with_reducible have HZ := Lib.hid (box_kept _ HT.out.zero hBa)); have HGZ := Lib.hid HT.out.lt; (with_reducible replace HT := Lib.hid ((HT.out.more (below_one _ _)).more hBa)); clear i0 i1 i2 i3 i4 i5 i6 i7 kf a0 a1 a2 a3 a4 a5 a6 a7 af z0 z1 z2 z3 z4 z5 z6 z7 zf; (try clear y0 y1 y2 y3 y4 y5 y6 y7 yf); obtain ⟨⟨i0, i1, i2, i3, i4, i5, i6, i7⟩, kf⟩ := box8 HT.out.a; obtain ⟨⟨a0, a1, a2, a3, a4, a5, a6, a7⟩, af⟩ := box8 (HT.out.more (below_one _ (.cells #[.slice none 0 0, .slice none 0 0, .bool false, .int .i64 0, .int .i64 0, .int .i64 0, .int .i64 0, .slice none 0 0] 32))).a; obtain ⟨⟨z0, z1, z2, z3, z4, z5, z6, z7⟩, zf⟩ := box8 HT.out.zero; (try (have yz := box8 HZ.out; obtain ⟨⟨y0, y1, y2, y3, y4, y5, y6, y7⟩, yf⟩ := yz)); clear hBa))
            | (go_at_call 11; (with_reducible refine (C1.out _ _ HT.out.v).mono ?_); rintro e wa ⟨v', rfl, hv', hBa⟩; obtain ⟨rA1, rn1, rc1, rA2, rn2, rc2, rdl, rjr, rsq, rA7, rn7, rc7, rfl⟩ := HF1.out _ _ hv'; have HV' := Lib.hid hv'; clear hv'; (with_reducible replace HT := Lib.hid (HT.out.more hBa)); (try (with_reducible replace HZ := Lib.hid (box_kept _ HZ.out hBa))); clear i0 i1 i2 i3 i4 i5 i6 i7 kf a0 a1 a2 a3 a4 a5 a6 a7 af z0 z1 z2 z3 z4 z5 z6 z7 zf; (try clear y0 y1 y2 y3 y4 y5 y6 y7 yf); obtain ⟨⟨i0, i1, i2, i3, i4, i5, i6, i7⟩, kf⟩ := box8 HT.out.a; obtain ⟨⟨a0, a1, a2, a3, a4, a5, a6, a7⟩, af⟩ := box8 (HT.out.more (below_one _ (.cells #[.slice none 0 0, .slice none 0 0, .bool false, .int .i64 0, .int .i64 0, .int .i64 0, .int .i64 0, .slice none 0 0] 32))).a; obtain ⟨⟨z0, z1, z2, z3, z4, z5, z6, z7⟩, zf⟩ := box8 HT.out.zero; (try (have yz := box8 HZ.out; obtain ⟨⟨y0, y1, y2, y3, y4, y5, y6, y7⟩, yf⟩ := yz)); clear hBa)
            | (go_at_call 11; (with_reducible refine (C1.out _ _ (HT.out.more (below_one _ _)).v).mono ?_); rintro e wa ⟨v', rfl, hv', hBa⟩; obtain ⟨rA1, rn1, rc1, rA2, rn2, rc2, rdl, rjr, rsq, rA7, rn7, rc7, rfl⟩ := HF1.out _ _ hv'; have HV' := Lib.hid hv'; clear hv'; (with_reducible have HZ := Lib.hid (box_kept _ HT.out.zero hBa)); have HGZ := Lib.hid HT.out.lt; (with_reducible replace HT := Lib.hid ((HT.out.more (below_one _ _)).more hBa)); clear i0 i1 i2 i3 i4 i5 i6 i7 kf a0 a1 a2 a3 a4 a5 a6 a7 af z0 z1 z2 z3 z4 z5 z6 z7 zf; (try clear y0 y1 y2 y3 y4 y5 y6 y7 yf); obtain ⟨⟨i0, i1, i2, i3, i4, i5, i6, i7⟩, kf⟩ := box8 HT.out.a; obtain ⟨⟨a0, a1, a2, a3, a4, a5, a6, a7⟩, af⟩ := box8 (HT.out.more (below_one _ (.cells #[.slice none 0 0, .slice none 0 0, .bool false, .int .i64 0, .int .i64 0, .int .i64 0, .int .i64 0, .slice none 0 0] 32))).a; obtain ⟨⟨z0, z1, z2, z3, z4, z5, z6, z7⟩, zf⟩ := box8 HT.out.zero; (try (have yz := box8 HZ.out; obtain ⟨⟨y0, y1, y2, y3, y4, y5, y6, y7⟩, yf⟩ := yz)); clear hBa)
            | (go_at_call 11; (with_reducible refine (C1.out _ _ HTA.out.v).mono ?_); rintro e wa ⟨v', rfl, hv', hBa⟩; obtain ⟨rA1, rn1, rc1, rA2, rn2, rc2, rdl, rjr, rsq, rA7, rn7, rc7, rfl⟩ := HF1.out _ _ hv'; have HV' := Lib.hid hv'; clear hv'; (with_reducible have HZ := Lib.hid (box_kept _ HZA.out hBa)); have HGZ := HGZA; (with_reducible replace HT := Lib.hid (HTA.out.more hBa)); clear i0 i1 i2 i3 i4 i5 i6 i7 kf a0 a1 a2 a3 a4 a5 a6 a7 af z0 z1 z2 z3 z4 z5 z6 z7 zf; (try clear y0 y1 y2 y3 y4 y5 y6 y7 yf); obtain ⟨⟨i0, i1, i2, i3, i4, i5, i6, i7⟩, kf⟩ := box8 HT.out.a; obtain ⟨⟨a0, a1, a2, a3, a4, a5, a6, a7⟩, af⟩ := box8 (HT.out.more (below_one _ (.cells #[.slice none 0 0, .slice none 0 0, .bool false, .int .i64 0, .int .i64 0, .int .i64 0, .int .i64 0, .slice none 0 0] 32))).a; obtain ⟨⟨z0, z1, z2, z3, z4, z5, z6, z7⟩, zf⟩ := box8 HT.out.zero; (try (have yz := box8 HZ.out; obtain ⟨⟨y0, y1, y2, y3, y4, y5, y6, y7⟩, yf⟩ := yz)); clear hBa))
          all_goals
            first
              | (have hz0 := HZ.out
                 obtain ⟨X, hX, hVN, hVO, hIN⟩ := HT.out.fresh hz0 HGZ HV'.out
                 rw [hX]
                 go_wp2_with fail
                 go_meet
                 case rel => exact ⟨_, rA1, rn1, rc1, rA2, rn2, rc2, rdl, rjr, rsq, rA7, rn7, rc7, rfl, rfl, rfl, hVN, hVO⟩)
              | (go_wp2_with fail
                 go_meet
                 case rel => exact ⟨_, rA1, rn1, rc1, rA2, rn2, rc2, rdl, rjr, rsq, rA7, rn7, rc7, rfl, rfl, rfl, VV.new HV'.out HT.out.below, HT.out.more (below_one _ _)⟩)
        case rest =>
          obtain ⟨g', rA1, rn1, rc1, rA2, rn2, rc2, rdl, rjr, rsq, rA7, rn7, rc7, rfl, rfl, rfl, hVN, hVO⟩ := hcut
          obtain ⟨X, hX, hVX, _⟩ := hVO.put hVN.v
          obtain ⟨⟨i0, i1, i2, i3, i4, i5, i6, i7⟩, kf⟩ := box8 hVN.a
          obtain ⟨⟨j0, j1, j2, j3, j4, j5, j6, j7⟩, jf⟩ := box8 hVO.a
          have HXX := Lib.hid hX
          have HT := Lib.hid hVX
          clear hX hVX hVN hVO HTA HZA HGZA HT0
          (try clear d0 d1 d2 d3 d4 d5 d6 d7 df)
          go_upto_region 12 with (fail)
          rw [HXX.out]
          clear HXX i0 i1 i2 i3 i4 i5 i6 i7 kf j0 j1 j2 j3 j4 j5 j6 j7 jf
          go_wp2_with fail
          (with_reducible refine (NK.out _).mono ?_)
          rintro e wa ⟨rfl, rfl⟩
          go_wp2_with fail
          exact ⟨⟨i + 1, k1, ts, O, old, fr, lst, rA1, rn1, rc1, rA2, rn2, rc2, rdl, rjr, rsq, rA7, rn7, rc7, by omega, by go_num, rfl, rfl, rfl, HT.out, tv, hAt, hfr⟩, by simp [intOf]; omega⟩
    · obtain rfl : i = m := by omega
      have hol := hAt.len ts
      have LZ_ := Lib.hid (fun W => long_calls z W (by omega))
      have NZ := Lib.hid (fun W => need_calls z W (by omega))
      have hsm : IntKind.i64.wrap ((fr : Int) + ((old.length : Nat) : Int)) = (fr : Int) + ((old.length : Nat) : Int) := by rw [wrap_small _ (by omega) (by omega)]
      go_upto_region 18 with (fail)
      rw [HRZ.out]
      clear HRZ
      by_cases hf : needC z ≤ fr + old.length
      · obtain ⟨k2, l2, pk, _, _, hc1⟩ := law_put (A := ts) (O := O) (B := []) (old := old) (no := (lst : Int)) (t := longL z) tv hn1 hn2 hAt (by rw [longL_len]; omega) (by rw [longL_len, List.append_nil]; omega)
        have tv2 : TV (shL n) k2 (ts ++ [(l2, longL z)] ++ []) := pk.tv
        obtain ⟨p1, hp1⟩ : ∃ p, p = l2.getD 0 0 := ⟨_, rfl⟩
        have C1 := Lib.hid hc1
        rw [← hp1] at C1
        have HF1 := Lib.hid (fun (W : World) (v : Value) (h : IsVault W v k2) => tv2.form hn1 hn2 h)
        have hle : ((needC z : Nat) : Int) ≤ (fr : Int) + ((old.length : Nat) : Int) := by omega
        clear hc1 hp1
        have HTA := Lib.hid ((HT.out.more (below_one w2 (.cells #[.slice none 0 0, .slice none 0 0, .bool false, .int .i64 0, .int .i64 0, .int .i64 0, .int .i64 0, .slice none 0 0] 32))).more (Below.refl _ _).drew)
        have HZA : Hid ((w2.alloc (.cells #[.slice none 0 0, .slice none 0 0, .bool false, .int .i64 0, .int .i64 0, .int .i64 0, .int .i64 0, .slice none 0 0] 32)).drew.heap[w2.heap.size]? = some (.cells #[.slice none 0 0, .slice none 0 0, .bool false, .int .i64 0, .int .i64 0, .int .i64 0, .int .i64 0, .slice none 0 0] 32 (0, 0))) := Lib.hid (heap_alloc_new w2 _)
        have HGZA := Lib.hid HT.out.lt
        have HT0 := Lib.hid (HT.out.more (Below.refl _ _).drew)
        obtain ⟨⟨d0, d1, d2, d3, d4, d5, d6, d7⟩, df⟩ := box8 HTA.out.a
        clear HT
        go_cut [18, 19, 20] from 77 to 85 (fun s14 s15 s16 wx => ∃ (g' : Nat) (rA1 : Option Addr) (rn1 rc1 : Nat) (rA2 : Option Addr) (rn2 rc2 : Nat) (rdl rjr rsq : Int) (rA7 : Option Addr) (rn7 rc7 : Nat), s14 = .pointer (some ⟨g', 0, none⟩) ∧ s15 = .int .i64 ((p1 : Nat) : Int) ∧ s16 = .int .i64 0 ∧ VV w wx g' #[.slice rA1 rn1 rc1, .slice rA2 rn2 rc2, .bool false, .int .i64 rdl, .int .i64 (n : Nat), .int .i64 rjr, .int .i64 rsq, .slice rA7 rn7 rc7] k2 ∧ VV w wx g #[.slice qA1 qn1 qc1, .slice qA2 qn2 qc2, .bool false, .int .i64 qdl, .int .i64 (n : Nat), .int .i64 qjr, .int .i64 qsq, .slice qA7 qn7 qc7] k1)
        case first =>
          have HT := HT0
          clear HT0
          obtain ⟨⟨i0, i1, i2, i3, i4, i5, i6, i7⟩, kf⟩ := box8 HT.out.a; obtain ⟨⟨a0, a1, a2, a3, a4, a5, a6, a7⟩, af⟩ := box8 (HT.out.more (below_one _ (.cells #[.slice none 0 0, .slice none 0 0, .bool false, .int .i64 0, .int .i64 0, .int .i64 0, .int .i64 0, .slice none 0 0] 32))).a; obtain ⟨⟨z0, z1, z2, z3, z4, z5, z6, z7⟩, zf⟩ := box8 HT.out.zero; (try (have yz := box8 HZ.out; obtain ⟨⟨y0, y1, y2, y3, y4, y5, y6, y7⟩, yf⟩ := yz))
          go_region_with (first
            | (go_at_call 10; (with_reducible refine (LZ_.out _).mono ?_); rintro e wa ⟨rfl, hBa⟩; first
              | ((with_reducible replace HT := Lib.hid (HT.out.more hBa)); (try (with_reducible replace HZ := Lib.hid (box_kept _ HZ.out hBa))); clear i0 i1 i2 i3 i4 i5 i6 i7 kf a0 a1 a2 a3 a4 a5 a6 a7 af z0 z1 z2 z3 z4 z5 z6 z7 zf; (try clear y0 y1 y2 y3 y4 y5 y6 y7 yf); obtain ⟨⟨i0, i1, i2, i3, i4, i5, i6, i7⟩, kf⟩ := box8 HT.out.a; obtain ⟨⟨a0, a1, a2, a3, a4, a5, a6, a7⟩, af⟩ := box8 (HT.out.more (below_one _ (.cells #[.slice none 0 0, .slice none 0 0, .bool false, .int .i64 0, .int .i64 0, .int .i64 0, .int .i64 0, .slice none 0 0] 32))).a; obtain ⟨⟨z0, z1, z2, z3, z4, z5, z6, z7⟩, zf⟩ := box8 HT.out.zero; (try (have yz := box8 HZ.out; obtain ⟨⟨y0, y1, y2, y3, y4, y5, y6, y7⟩, yf⟩ := yz)); clear hBa)
              | ((with_reducible have HZ := Lib.hid (box_kept _ HZA.out hBa)); have HGZ := HGZA; (with_reducible replace HT := Lib.hid (HTA.out.more hBa)); clear i0 i1 i2 i3 i4 i5 i6 i7 kf a0 a1 a2 a3 a4 a5 a6 a7 af z0 z1 z2 z3 z4 z5 z6 z7 zf; (try clear y0 y1 y2 y3 y4 y5 y6 y7 yf); obtain ⟨⟨i0, i1, i2, i3, i4, i5, i6, i7⟩, kf⟩ := box8 HT.out.a; obtain ⟨⟨a0, a1, a2, a3, a4, a5, a6, a7⟩, af⟩ := box8 (HT.out.more (below_one _ (.cells #[.slice none 0 0, .slice none 0 0, .bool false, .int .i64 0, .int .i64 0, .int .i64 0, .int .i64 0, .slice none 0 0] 32))).a; obtain ⟨⟨z0, z1, z2, z3, z4, z5, z6, z7⟩, zf⟩ := box8 HT.out.zero; (try (have yz := box8 HZ.out; obtain ⟨⟨y0, y1, y2, y3, y4, y5, y6, y7⟩, yf⟩ := yz)); clear hBa)
              | ((with_reducible have HZ := Lib.hid (box_kept _ HT.out.zero hBa)); have HGZ := Lib.hid HT.out.lt; (with_reducible replace HT := Lib.hid ((HT.out.more (below_one _ _)).more hBa)); clear i0 i1 i2 i3 i4 i5 i6 i7 kf a0 a1 a2 a3 a4 a5 a6 a7 af z0 z1 z2 z3 z4 z5 z6 z7 zf; (try clear y0 y1 y2 y3 y4 y5 y6 y7 yf); obtain ⟨⟨i0, i1, i2, i3, i4, i5, i6, i7⟩, kf⟩ := box8 HT.out.a; obtain ⟨⟨a0, a1, a2, a3, a4, a5, a6, a7⟩, af⟩ := box8 (HT.out.more (below_one _ (.cells #[.slice none 0 0, .slice none 0 0, .bool false, .int .i64 0, .int .i64 0, .int .i64 0, .int .i64 0, .slice none 0 0] 32))).a; obtain ⟨⟨z0, z1, z2, z3, z4, z5, z6, z7⟩, zf⟩ := box8 HT.out.zero; (try (have yz := box8 HZ.out; obtain ⟨⟨y0, y1, y2, y3, y4, y5, y6, y7⟩, yf⟩ := yz)); clear hBa))
            | (go_at_call 11; (with_reducible refine (C1.out _ _ HT.out.v).mono ?_); rintro e wa ⟨v', rfl, hv', hBa⟩; obtain ⟨rA1, rn1, rc1, rA2, rn2, rc2, rdl, rjr, rsq, rA7, rn7, rc7, rfl⟩ := HF1.out _ _ hv'; have HV' := Lib.hid hv'; clear hv'; (with_reducible replace HT := Lib.hid (HT.out.more hBa)); (try (with_reducible replace HZ := Lib.hid (box_kept _ HZ.out hBa))); clear i0 i1 i2 i3 i4 i5 i6 i7 kf a0 a1 a2 a3 a4 a5 a6 a7 af z0 z1 z2 z3 z4 z5 z6 z7 zf; (try clear y0 y1 y2 y3 y4 y5 y6 y7 yf); obtain ⟨⟨i0, i1, i2, i3, i4, i5, i6, i7⟩, kf⟩ := box8 HT.out.a; obtain ⟨⟨a0, a1, a2, a3, a4, a5, a6, a7⟩, af⟩ := box8 (HT.out.more (below_one _ (.cells #[.slice none 0 0, .slice none 0 0, .bool false, .int .i64 0, .int .i64 0, .int .i64 0, .int .i64 0, .slice none 0 0] 32))).a; obtain ⟨⟨z0, z1, z2, z3, z4, z5, z6, z7⟩, zf⟩ := box8 HT.out.zero; (try (have yz := box8 HZ.out; obtain ⟨⟨y0, y1, y2, y3, y4, y5, y6, y7⟩, yf⟩ := yz)); clear hBa)
            | (go_at_call 11; (with_reducible refine (C1.out _ _ (HT.out.more (below_one _ _)).v).mono ?_); rintro e wa ⟨v', rfl, hv', hBa⟩; obtain ⟨rA1, rn1, rc1, rA2, rn2, rc2, rdl, rjr, rsq, rA7, rn7, rc7, rfl⟩ := HF1.out _ _ hv'; have HV' := Lib.hid hv'; clear hv'; (with_reducible have HZ := Lib.hid (box_kept _ HT.out.zero hBa)); have HGZ := Lib.hid HT.out.lt; (with_reducible replace HT := Lib.hid ((HT.out.more (below_one _ _)).more hBa)); clear i0 i1 i2 i3 i4 i5 i6 i7 kf a0 a1 a2 a3 a4 a5 a6 a7 af z0 z1 z2 z3 z4 z5 z6 z7 zf; (try clear y0 y1 y2 y3 y4 y5 y6 y7 yf); obtain ⟨⟨i0, i1, i2, i3, i4, i5, i6, i7⟩, kf⟩ := box8 HT.out.a; obtain ⟨⟨a0, a1, a2, a3, a4, a5, a6, a7⟩, af⟩ := box8 (HT.out.more (below_one _ (.cells #[.slice none 0 0, .slice none 0 0, .bool false, .int .i64 0, .int .i64 0, .int .i64 0, .int .i64 0, .slice none 0 0] 32))).a; obtain ⟨⟨z0, z1, z2, z3, z4, z5, z6, z7⟩, zf⟩ := box8 HT.out.zero; (try (have yz := box8 HZ.out; obtain ⟨⟨y0, y1, y2, y3, y4, y5, y6, y7⟩, yf⟩ := yz)); clear hBa)
            | (go_at_call 11; (with_reducible refine (C1.out _ _ HTA.out.v).mono ?_); rintro e wa ⟨v', rfl, hv', hBa⟩; obtain ⟨rA1, rn1, rc1, rA2, rn2, rc2, rdl, rjr, rsq, rA7, rn7, rc7, rfl⟩ := HF1.out _ _ hv'; have HV' := Lib.hid hv'; clear hv'; (with_reducible have HZ := Lib.hid (box_kept _ HZA.out hBa)); have HGZ := HGZA; (with_reducible replace HT := Lib.hid (HTA.out.more hBa)); clear i0 i1 i2 i3 i4 i5 i6 i7 kf a0 a1 a2 a3 a4 a5 a6 a7 af z0 z1 z2 z3 z4 z5 z6 z7 zf; (try clear y0 y1 y2 y3 y4 y5 y6 y7 yf); obtain ⟨⟨i0, i1, i2, i3, i4, i5, i6, i7⟩, kf⟩ := box8 HT.out.a; obtain ⟨⟨a0, a1, a2, a3, a4, a5, a6, a7⟩, af⟩ := box8 (HT.out.more (below_one _ (.cells #[.slice none 0 0, .slice none 0 0, .bool false, .int .i64 0, .int .i64 0, .int .i64 0, .int .i64 0, .slice none 0 0] 32))).a; obtain ⟨⟨z0, z1, z2, z3, z4, z5, z6, z7⟩, zf⟩ := box8 HT.out.zero; (try (have yz := box8 HZ.out; obtain ⟨⟨y0, y1, y2, y3, y4, y5, y6, y7⟩, yf⟩ := yz)); clear hBa))
          all_goals
            first
              | (have hz0 := HZ.out
                 obtain ⟨X, hX, hVN, hVO, hIN⟩ := HT.out.fresh hz0 HGZ HV'.out
                 rw [hX]
                 go_wp2_with fail
                 go_meet
                 case rel => exact ⟨_, rA1, rn1, rc1, rA2, rn2, rc2, rdl, rjr, rsq, rA7, rn7, rc7, rfl, rfl, rfl, hVN, hVO⟩)
              | (go_wp2_with fail
                 go_meet
                 case rel => exact ⟨_, rA1, rn1, rc1, rA2, rn2, rc2, rdl, rjr, rsq, rA7, rn7, rc7, rfl, rfl, rfl, VV.new HV'.out HT.out.below, HT.out.more (below_one _ _)⟩)
        case rest =>
          obtain ⟨g', rA1, rn1, rc1, rA2, rn2, rc2, rdl, rjr, rsq, rA7, rn7, rc7, rfl, rfl, rfl, hVN, hVO⟩ := hcut
          have HT := Lib.hid hVO
          clear hVN hVO HTA HZA HGZA HT0
          (try clear d0 d1 d2 d3 d4 d5 d6 d7 df)
          go_wp2_with fail
          (with_reducible refine (AW.out _).mono ?_)
          rintro e wz ⟨rfl, hbz⟩
          have HT := Lib.hid (HT.out.more hbz)
          clear hbz
          go_wp2_with fail
          (with_reducible refine (NZ.out _).mono ?_)
          rintro e wa ⟨rfl, rfl⟩
          go_wp2_with fail
          go_ret
          exact ⟨rfl, HT.out.below⟩
      · have C1 := Lib.hid (law_put_no (A := ts) (O := O) (B := []) (old := old) (no := (lst : Int)) (t := longL z) tv hn1 hn2 hAt (by rw [longL_len]; omega) (by rw [longL_len, List.append_nil]; omega))
        have HF1 := Lib.hid (fun (W : World) (v : Value) (h : IsVault W v k1) => tv.form hn1 hn2 h)
        have hle : ¬ ((needC z : Nat) : Int) ≤ (fr : Int) + ((old.length : Nat) : Int) := by omega
        have HTA := Lib.hid ((HT.out.more (below_one w2 (.cells #[.slice none 0 0, .slice none 0 0, .bool false, .int .i64 0, .int .i64 0, .int .i64 0, .int .i64 0, .slice none 0 0] 32))).more (Below.refl _ _).drew)
        have HZA : Hid ((w2.alloc (.cells #[.slice none 0 0, .slice none 0 0, .bool false, .int .i64 0, .int .i64 0, .int .i64 0, .int .i64 0, .slice none 0 0] 32)).drew.heap[w2.heap.size]? = some (.cells #[.slice none 0 0, .slice none 0 0, .bool false, .int .i64 0, .int .i64 0, .int .i64 0, .int .i64 0, .slice none 0 0] 32 (0, 0))) := Lib.hid (heap_alloc_new w2 _)
        have HGZA := Lib.hid HT.out.lt
        have HT0 := Lib.hid (HT.out.more (Below.refl _ _).drew)
        obtain ⟨⟨d0, d1, d2, d3, d4, d5, d6, d7⟩, df⟩ := box8 HTA.out.a
        clear HT
        go_cut [18, 19, 20] from 77 to 85 (fun s14 s15 s16 wx => ∃ (g' : Nat) (rA1 : Option Addr) (rn1 rc1 : Nat) (rA2 : Option Addr) (rn2 rc2 : Nat) (rdl rjr rsq : Int) (rA7 : Option Addr) (rn7 rc7 : Nat), s14 = .pointer (some ⟨g', 0, none⟩) ∧ s15 = .int .i64 0 ∧ s16 = .int .i64 7 ∧ VV w wx g' #[.slice rA1 rn1 rc1, .slice rA2 rn2 rc2, .bool false, .int .i64 rdl, .int .i64 (n : Nat), .int .i64 rjr, .int .i64 rsq, .slice rA7 rn7 rc7] k1 ∧ VV w wx g #[.slice qA1 qn1 qc1, .slice qA2 qn2 qc2, .bool false, .int .i64 qdl, .int .i64 (n : Nat), .int .i64 qjr, .int .i64 qsq, .slice qA7 qn7 qc7] k1)
        case first =>
          have HT := HT0
          clear HT0
          obtain ⟨⟨i0, i1, i2, i3, i4, i5, i6, i7⟩, kf⟩ := box8 HT.out.a; obtain ⟨⟨a0, a1, a2, a3, a4, a5, a6, a7⟩, af⟩ := box8 (HT.out.more (below_one _ (.cells #[.slice none 0 0, .slice none 0 0, .bool false, .int .i64 0, .int .i64 0, .int .i64 0, .int .i64 0, .slice none 0 0] 32))).a; obtain ⟨⟨z0, z1, z2, z3, z4, z5, z6, z7⟩, zf⟩ := box8 HT.out.zero; (try (have yz := box8 HZ.out; obtain ⟨⟨y0, y1, y2, y3, y4, y5, y6, y7⟩, yf⟩ := yz))
          go_region_with (first
            | (go_at_call 10; (with_reducible refine (LZ_.out _).mono ?_); rintro e wa ⟨rfl, hBa⟩; first
              | ((with_reducible replace HT := Lib.hid (HT.out.more hBa)); (try (with_reducible replace HZ := Lib.hid (box_kept _ HZ.out hBa))); clear i0 i1 i2 i3 i4 i5 i6 i7 kf a0 a1 a2 a3 a4 a5 a6 a7 af z0 z1 z2 z3 z4 z5 z6 z7 zf; (try clear y0 y1 y2 y3 y4 y5 y6 y7 yf); obtain ⟨⟨i0, i1, i2, i3, i4, i5, i6, i7⟩, kf⟩ := box8 HT.out.a; obtain ⟨⟨a0, a1, a2, a3, a4, a5, a6, a7⟩, af⟩ := box8 (HT.out.more (below_one _ (.cells #[.slice none 0 0, .slice none 0 0, .bool false, .int .i64 0, .int .i64 0, .int .i64 0, .int .i64 0, .slice none 0 0] 32))).a; obtain ⟨⟨z0, z1, z2, z3, z4, z5, z6, z7⟩, zf⟩ := box8 HT.out.zero; (try (have yz := box8 HZ.out; obtain ⟨⟨y0, y1, y2, y3, y4, y5, y6, y7⟩, yf⟩ := yz)); clear hBa)
              | ((with_reducible have HZ := Lib.hid (box_kept _ HZA.out hBa)); have HGZ := HGZA; (with_reducible replace HT := Lib.hid (HTA.out.more hBa)); clear i0 i1 i2 i3 i4 i5 i6 i7 kf a0 a1 a2 a3 a4 a5 a6 a7 af z0 z1 z2 z3 z4 z5 z6 z7 zf; (try clear y0 y1 y2 y3 y4 y5 y6 y7 yf); obtain ⟨⟨i0, i1, i2, i3, i4, i5, i6, i7⟩, kf⟩ := box8 HT.out.a; obtain ⟨⟨a0, a1, a2, a3, a4, a5, a6, a7⟩, af⟩ := box8 (HT.out.more (below_one _ (.cells #[.slice none 0 0, .slice none 0 0, .bool false, .int .i64 0, .int .i64 0, .int .i64 0, .int .i64 0, .slice none 0 0] 32))).a; obtain ⟨⟨z0, z1, z2, z3, z4, z5, z6, z7⟩, zf⟩ := box8 HT.out.zero; (try (have yz := box8 HZ.out; obtain ⟨⟨y0, y1, y2, y3, y4, y5, y6, y7⟩, yf⟩ := yz)); clear hBa)
              | ((with_reducible have HZ := Lib.hid (box_kept _ HT.out.zero hBa)); have HGZ := Lib.hid HT.out.lt; (with_reducible replace HT := Lib.hid ((HT.out.more (below_one _ _)).more hBa)); clear i0 i1 i2 i3 i4 i5 i6 i7 kf a0 a1 a2 a3 a4 a5 a6 a7 af z0 z1 z2 z3 z4 z5 z6 z7 zf; (try clear y0 y1 y2 y3 y4 y5 y6 y7 yf); obtain ⟨⟨i0, i1, i2, i3, i4, i5, i6, i7⟩, kf⟩ := box8 HT.out.a; obtain ⟨⟨a0, a1, a2, a3, a4, a5, a6, a7⟩, af⟩ := box8 (HT.out.more (below_one _ (.cells #[.slice none 0 0, .slice none 0 0, .bool false, .int .i64 0, .int .i64 0, .int .i64 0, .int .i64 0, .slice none 0 0] 32))).a; obtain ⟨⟨z0, z1, z2, z3, z4, z5, z6, z7⟩, zf⟩ := box8 HT.out.zero; (try (have yz := box8 HZ.out; obtain ⟨⟨y0, y1, y2, y3, y4, y5, y6, y7⟩, yf⟩ := yz)); clear hBa))
            | (go_at_call 11; (with_reducible refine (C1.out _ _ HT.out.v).mono ?_); rintro e wa ⟨v', rfl, hv', hBa⟩; obtain ⟨rA1, rn1, rc1, rA2, rn2, rc2, rdl, rjr, rsq, rA7, rn7, rc7, rfl⟩ := HF1.out _ _ hv'; have HV' := Lib.hid hv'; clear hv'; (with_reducible replace HT := Lib.hid (HT.out.more hBa)); (try (with_reducible replace HZ := Lib.hid (box_kept _ HZ.out hBa))); clear i0 i1 i2 i3 i4 i5 i6 i7 kf a0 a1 a2 a3 a4 a5 a6 a7 af z0 z1 z2 z3 z4 z5 z6 z7 zf; (try clear y0 y1 y2 y3 y4 y5 y6 y7 yf); obtain ⟨⟨i0, i1, i2, i3, i4, i5, i6, i7⟩, kf⟩ := box8 HT.out.a; obtain ⟨⟨a0, a1, a2, a3, a4, a5, a6, a7⟩, af⟩ := box8 (HT.out.more (below_one _ (.cells #[.slice none 0 0, .slice none 0 0, .bool false, .int .i64 0, .int .i64 0, .int .i64 0, .int .i64 0, .slice none 0 0] 32))).a; obtain ⟨⟨z0, z1, z2, z3, z4, z5, z6, z7⟩, zf⟩ := box8 HT.out.zero; (try (have yz := box8 HZ.out; obtain ⟨⟨y0, y1, y2, y3, y4, y5, y6, y7⟩, yf⟩ := yz)); clear hBa)
            | (go_at_call 11; (with_reducible refine (C1.out _ _ (HT.out.more (below_one _ _)).v).mono ?_); rintro e wa ⟨v', rfl, hv', hBa⟩; obtain ⟨rA1, rn1, rc1, rA2, rn2, rc2, rdl, rjr, rsq, rA7, rn7, rc7, rfl⟩ := HF1.out _ _ hv'; have HV' := Lib.hid hv'; clear hv'; (with_reducible have HZ := Lib.hid (box_kept _ HT.out.zero hBa)); have HGZ := Lib.hid HT.out.lt; (with_reducible replace HT := Lib.hid ((HT.out.more (below_one _ _)).more hBa)); clear i0 i1 i2 i3 i4 i5 i6 i7 kf a0 a1 a2 a3 a4 a5 a6 a7 af z0 z1 z2 z3 z4 z5 z6 z7 zf; (try clear y0 y1 y2 y3 y4 y5 y6 y7 yf); obtain ⟨⟨i0, i1, i2, i3, i4, i5, i6, i7⟩, kf⟩ := box8 HT.out.a; obtain ⟨⟨a0, a1, a2, a3, a4, a5, a6, a7⟩, af⟩ := box8 (HT.out.more (below_one _ (.cells #[.slice none 0 0, .slice none 0 0, .bool false, .int .i64 0, .int .i64 0, .int .i64 0, .int .i64 0, .slice none 0 0] 32))).a; obtain ⟨⟨z0, z1, z2, z3, z4, z5, z6, z7⟩, zf⟩ := box8 HT.out.zero; (try (have yz := box8 HZ.out; obtain ⟨⟨y0, y1, y2, y3, y4, y5, y6, y7⟩, yf⟩ := yz)); clear hBa)
            | (go_at_call 11; (with_reducible refine (C1.out _ _ HTA.out.v).mono ?_); rintro e wa ⟨v', rfl, hv', hBa⟩; obtain ⟨rA1, rn1, rc1, rA2, rn2, rc2, rdl, rjr, rsq, rA7, rn7, rc7, rfl⟩ := HF1.out _ _ hv'; have HV' := Lib.hid hv'; clear hv'; (with_reducible have HZ := Lib.hid (box_kept _ HZA.out hBa)); have HGZ := HGZA; (with_reducible replace HT := Lib.hid (HTA.out.more hBa)); clear i0 i1 i2 i3 i4 i5 i6 i7 kf a0 a1 a2 a3 a4 a5 a6 a7 af z0 z1 z2 z3 z4 z5 z6 z7 zf; (try clear y0 y1 y2 y3 y4 y5 y6 y7 yf); obtain ⟨⟨i0, i1, i2, i3, i4, i5, i6, i7⟩, kf⟩ := box8 HT.out.a; obtain ⟨⟨a0, a1, a2, a3, a4, a5, a6, a7⟩, af⟩ := box8 (HT.out.more (below_one _ (.cells #[.slice none 0 0, .slice none 0 0, .bool false, .int .i64 0, .int .i64 0, .int .i64 0, .int .i64 0, .slice none 0 0] 32))).a; obtain ⟨⟨z0, z1, z2, z3, z4, z5, z6, z7⟩, zf⟩ := box8 HT.out.zero; (try (have yz := box8 HZ.out; obtain ⟨⟨y0, y1, y2, y3, y4, y5, y6, y7⟩, yf⟩ := yz)); clear hBa))
          all_goals
            first
              | (have hz0 := HZ.out
                 obtain ⟨X, hX, hVN, hVO, hIN⟩ := HT.out.fresh hz0 HGZ HV'.out
                 rw [hX]
                 go_wp2_with fail
                 go_meet
                 case rel => exact ⟨_, rA1, rn1, rc1, rA2, rn2, rc2, rdl, rjr, rsq, rA7, rn7, rc7, rfl, rfl, rfl, hVN, hVO⟩)
              | (go_wp2_with fail
                 go_meet
                 case rel => exact ⟨_, rA1, rn1, rc1, rA2, rn2, rc2, rdl, rjr, rsq, rA7, rn7, rc7, rfl, rfl, rfl, VV.new HV'.out HT.out.below, HT.out.more (below_one _ _)⟩)
        case rest =>
          obtain ⟨g', rA1, rn1, rc1, rA2, rn2, rc2, rdl, rjr, rsq, rA7, rn7, rc7, rfl, rfl, rfl, hVN, hVO⟩ := hcut
          have HT := Lib.hid hVO
          clear hVN hVO HTA HZA HGZA HT0
          (try clear d0 d1 d2 d3 d4 d5 d6 d7 df)
          go_wp2_with fail
          (with_reducible refine (AW.out _).mono ?_)
          rintro e wz ⟨rfl, hbz⟩
          have HT := Lib.hid (HT.out.more hbz)
          clear hbz
          go_wp2_with fail
          (with_reducible refine (NZ.out _).mono ?_)
          rintro e wa ⟨rfl, rfl⟩
          go_wp2_with fail
          go_ret
          exact ⟨by show Ending.returned (Value.bool (!decide (((needC z : Nat) : Int) ≤ (fr : Int) + ((old.length : Nat) : Int)))) = _; rw [decide_eq_false (by omega)]; rfl, HT.out.below⟩
end Go.Proofs.YtgeiemccjionpaaGreat.Chn
