/- Contracts and plain mathematics that the statement's proof wants: no statement is proved here, nothing is assumed. -/
import Derived.Test.YtgeiemccjionpaaGreatMg38
import Derived.Test.YtgeiemccjionpaaGreatMg39
import Derived.Test.YtgeiemccjionpaaGreatMg40
/- HRPutB -/
namespace Go.Proofs.YtgeiemccjionpaaGreat.Chn
open Go.RowKit Go.Sort
open Dsk Vlt
open Bit (Sps)

set_option maxRecDepth 100000 in
set_option maxHeartbeats 32000000 in
theorem rputB_fit (v : Value) {x : Sh} {k : VK} (no : Int) (old : List Nat) (t : List UInt8) (w : World) (hx : rightS x = true) (hs : Still x k) (hv : IsVault w v k) (h0 : no ≠ 0) (t0 : List UInt8) (hw : walkZ (CV k) (PN x) (PN x) [] [] no = (old, t0, 0)) (hlen : needC t.length < old.length) (ht : t.length ≤ 100000) (hf : fitC (CV k) (PN x) old (needC t.length)) :
    Calls Tryz.prog 12 #[v, .int .i64 no, .string (strB t)] w fun e w' => ∃ v', e = .returned (.tuple #[v', .int .i64 (((allC (CV k) (PN x) old (needC t.length)).getD 0 0 : Nat) : Int), .int .i64 0]) ∧ IsVault w' v' (putV k (PN x) old t) ∧ Below w.heap.size w w' := by
  obtain ⟨A1, n1, c1, A2, n2, c2, dl, jr, sq, A7, n7, c7, rfl⟩ := hs.form8 hx hv
  have hx16 := (right_nat hx).2.2
  have ho : Old (CV k) (PN x) no old := .inr ⟨h0, t0, hw⟩
  have hd0 : (no == (0 : Int)) = false := by simpa using h0
  have C1 := Lib.hid (fun W (hW : Below w.heap.size w W) => rwalk_calls _ no W hx hs (hv.below hW) _ hw)
  obtain ⟨ho1, ho2⟩ := ho.ok
  have hm0 := CV_len hs 0
  have hnd : 1 ≤ needC t.length ∧ needC t.length ≤ 1000 := ⟨need_pos _, by unfold needC; omega⟩
  have C2 := Lib.hid (fun W (hW : Below w.heap.size w W) => rread_zero _ W hx hs (hv.below hW))
  have C3 := Lib.hid (fun W => rneed_calls t.length W (by omega))
  have CM := Lib.hid (fun W v (h : Sps W v (onesI [0])) => crmark_calls (CV k 0) true v (onesI [0]) W (by omega) h (by decide) (IR.ones (l := [0]) (by intro a ha; simp at ha; omega)))
  have eM : Bit.markL (CV k 0) true (onesI [0]) = m0C (CV k) := rfl
  rw [eM] at CM
  have hm1 : (m1C (CV k) old (needC t.length)).length = 208 := by rw [m1_len]; exact hm0
  have hdl : ((natI old).drop (needC t.length)).length ≤ 1000 := by rw [List.length_drop, natI_len]; omega
  have hdi : IR ((natI old).drop (needC t.length)) := by rw [← natI_drop]; exact IR.nat fun p hp => by have := ho1 p (List.mem_of_mem_drop hp); omega
  have CS := Lib.hid (fun W v (h : IsInts W v ((natI old).drop (needC t.length))) => spans_calls v ((natI old).drop (needC t.length)) W h hdl)
  have CN := Lib.hid (fun W v (h : Sps W v (onesI ((natI old).drop (needC t.length)))) => crmark_calls (m0C (CV k)) false v (onesI ((natI old).drop (needC t.length))) W (by unfold m0C; rw [Bit.markL_len]; omega) h (by rw [ones_len]; exact hdl) hdi.ones)
  have eN : Bit.markL (m0C (CV k)) false (onesI ((natI old).drop (needC t.length))) = m1C (CV k) old (needC t.length) := by
    have := m1_is (C := CV k) (old := old) (need := needC t.length)
    rw [show min old.length (needC t.length) = needC t.length by omega] at this
    exact this
  rw [eN] at CN
  have hKm : min (old).length (needC t.length) = needC t.length := by omega
  have C5 := Lib.hid (fun W => Bit.rsome_calls (m1C (CV k) old (needC t.length)) ((PN x : Nat) : Int) ((needC t.length - needC t.length : Nat) : Int) W (by omega) (by omega))
  have hsB : Bit.someB (m1C (CV k) old (needC t.length)) ((PN x : Nat) : Int) ((needC t.length - needC t.length : Nat) : Int) = decide (fitC (CV k) (PN x) old (needC t.length)) := by
    unfold Bit.someB Bit.capN
    rw [Bool.eq_iff_iff, decide_eq_true_iff, decide_eq_true_iff, Int.toNat_natCast, show (min ((PN x : Nat) : Int) 512).toNat = PN x by omega]
    unfold fitC
    rw [kept_len, hKm]
  have hsV : fitC (CV k) (PN x) old (needC t.length) → Bit.someV (m1C (CV k) old (needC t.length)) ((PN x : Nat) : Int) ((needC t.length - needC t.length : Nat) : Int) = moreC (CV k) (PN x) old (needC t.length) := fun h => by
    unfold Bit.someV moreC Bit.capN
    rw [hsB, if_pos (decide_eq_true h), kept_len, hKm, Int.toNat_natCast, show (min ((PN x : Nat) : Int) 512).toNat = PN x by omega]
  rw [hsB, decide_eq_true hf] at C5
  rw [hsV hf] at C5
  have hmr := Bit.runs_is (m1C (CV k) old (needC t.length)) (needC t.length - ((old).take (needC t.length)).length) (PN x)
  have hmr1 : ∀ y ∈ moreC (CV k) (PN x) old (needC t.length), 0 ≤ y.1 ∧ y.1 ≤ 600 ∧ 0 ≤ y.2 ∧ y.2 ≤ 600 := fun y hy => by have := hmr.all y hy; omega
  have hml : (moreC (CV k) (PN x) old (needC t.length)).length ≤ 600 := by have := Bit.runsN_len (m1C (CV k) old (needC t.length)) (needC t.length - ((old).take (needC t.length)).length) (PN x); unfold moreC; omega
  have C6 := Lib.hid (fun W v (h : Sps W v (moreC (CV k) (PN x) old (needC t.length))) => crmark_calls (m1C (CV k) old (needC t.length)) true v (moreC (CV k) (PN x) old (needC t.length)) W (by omega) h (by omega) (fun y hy => by have := hmr1 y hy; omega))
  rw [show Bit.markL (m1C (CV k) old (needC t.length)) true (moreC (CV k) (PN x) old (needC t.length)) = m2C (CV k) (PN x) old (needC t.length) from rfl] at C6
  have hall : (natI old).take (needC t.length) ++ flatI (moreC (CV k) (PN x) old (needC t.length)) = natI (allC (CV k) (PN x) old (needC t.length)) := by
    rw [flat_natI fun y hy => (hmr1 y hy).1]
    unfold allC
    rw [natI_append, natI_take]
  have hal := all_len hf
  have hlt := all_lt (C := CV k) (needC t.length) ho1
  have HST := Lib.hid (fun i (hi : i ≤ needC t.length) => (wrV_is hx hs hlt t i (by omega)).1)
  have C7 := Lib.hid (fun i (hi : i ≤ needC t.length) W vv (p : Nat) (hp : p < PN x) (hV : IsVault W vv (wrV k (allC (CV k) (PN x) old (needC t.length)) t i)) => rwrite_at vv p (partD (allC (CV k) (PN x) old (needC t.length)) t i) W hx (HST.out i hi) hV hp (partD_len _ t i))
  have HF7 := Lib.hid (fun i (hi : i ≤ needC t.length) (w : World) (v : Value) (h : IsVault w v (wrV k (allC (CV k) (PN x) old (needC t.length)) t i)) => (HST.out i hi).form8 hx h)
  have hml2 : (m2C (CV k) (PN x) old (needC t.length)).length ≤ 208 := by unfold m2C; rw [Bit.markL_len, m1_len]; omega
  have C8 := Lib.hid (fun W vv (h : IsVault W vv (wrV k (allC (CV k) (PN x) old (needC t.length)) t (needC t.length))) => rwrite_zero vv (m2C (CV k) (PN x) old (needC t.length)) W hx (HST.out _ (Nat.le_refl _)) h hml2)
  have HE8 : Hid ((writeV (wrV k (allC (CV k) (PN x) old (needC t.length)) t (needC t.length)) 0 (m2C (CV k) (PN x) old (needC t.length))).1 = putV k (PN x) old t) := Lib.hid rfl
  have HF8 := Lib.hid (fun (w : World) (v : Value) (h : IsVault w v (putV k (PN x) old t)) => (((HST.out _ (Nat.le_refl _)).write hx (k := 0) (data := m2C (CV k) (PN x) old (needC t.length)) (by omega) hml2).2.1).form8 hx h)
  obtain ⟨pg, hpg⟩ : ∃ q, (allC (CV k) (PN x) old (needC t.length))[0]? = some q := ⟨_, List.getElem?_eq_getElem (by omega)⟩
  rw [getD_at hpg]
  have HPG := Lib.hid (natI_at hpg)
  have HMR := Lib.hid hmr1
  have HML := Lib.hid hml
  have HALL := Lib.hid hall
  have HAL := Lib.hid hal
  have HLT := Lib.hid hlt
  obtain ⟨AL, hAL⟩ : ∃ l, l = allC (CV k) (PN x) old (needC t.length) := ⟨_, rfl⟩
  obtain ⟨M, hM⟩ : ∃ l, l = moreC (CV k) (PN x) old (needC t.length) := ⟨_, rfl⟩
  obtain ⟨s3, hs3⟩ : ∃ s, s = strB (m2C (CV k) (PN x) old (needC t.length)) := ⟨_, rfl⟩
  rw [← hAL] at C7 HF7 C8 HE8 HPG HALL HAL HLT
  rw [← hM] at C5 C6 HMR HML HALL
  rw [← hs3] at C6 C8
  clear hal hlt hpg hmr hmr1 hml hall hml2 HST
  have HV := Lib.hid hv
  obtain ⟨n, hn⟩ : ∃ n, n = PN x := ⟨_, rfl⟩
  obtain ⟨s0, hs0⟩ : ∃ s, s = strB (CV k 0) := ⟨_, rfl⟩
  obtain ⟨s1, hs1⟩ : ∃ s, s = strB (m0C (CV k)) := ⟨_, rfl⟩
  obtain ⟨s2, hs2⟩ : ∃ s, s = strB (m1C (CV k) old (needC t.length)) := ⟨_, rfl⟩
  rw [← hs0] at C2 CM
  rw [← hs1] at CM CN
  rw [← hs2] at CN C5 C6
  obtain ⟨nd, hndd⟩ : ∃ s, s = needC t.length := ⟨_, rfl⟩
  rw [← hn] at C1 C2 C5 HV C7 HF7 C8 HE8 HF8 HLT ⊢
  rw [← hndd] at C3 C5 hnd CS CN hlen C7 HF7 C8 HE8 HAL
  rw [← hndd] at HALL
  obtain ⟨hnd1, hnd2⟩ := hnd
  have hn2 : n ≤ 512 := by rw [hn]; omega
  have ht2 : (strB t).size = t.length := strB_size t
  obtain ⟨Y, hY, hYb⟩ : ∃ Y, Y = ((w.alloc (.cells #[.slice A1 n1 c1, .slice A2 n2 c2, .bool false, .int .i64 dl, .int .i64 (n : Nat), .int .i64 jr, .int .i64 sq, .slice A7 n7 c7] 32)).alloc (.cells #[.slice none 0 0, .slice none 0 0, .bool false, .int .i64 0, .int .i64 0, .int .i64 0, .int .i64 0, .slice none 0 0] 32)).alloc (.cells #[.slice A1 n1 c1, .slice A2 n2 c2, .bool false, .int .i64 dl, .int .i64 (n : Nat), .int .i64 jr, .int .i64 sq, .slice A7 n7 c7] 32) ∧ RB w Y #[.slice A1 n1 c1, .slice A2 n2 c2, .bool false, .int .i64 dl, .int .i64 (n : Nat), .int .i64 jr, .int .i64 sq, .slice A7 n7 c7] #[.slice A1 n1 c1, .slice A2 n2 c2, .bool false, .int .i64 dl, .int .i64 (n : Nat), .int .i64 jr, .int .i64 sq, .slice A7 n7 c7] #[.slice none 0 0, .slice none 0 0, .bool false, .int .i64 0, .int .i64 0, .int .i64 0, .int .i64 0, .slice none 0 0] := ⟨_, rfl, RB.new w _⟩
  have i0' : (((w.alloc (.cells #[.slice A1 n1 c1, .slice A2 n2 c2, .bool false, .int .i64 dl, .int .i64 (n : Nat), .int .i64 jr, .int .i64 sq, .slice A7 n7 c7] 32)).alloc (.cells #[.slice none 0 0, .slice none 0 0, .bool false, .int .i64 0, .int .i64 0, .int .i64 0, .int .i64 0, .slice none 0 0] 32))).heap[w.heap.size]? = some (.cells #[.slice A1 n1 c1, .slice A2 n2 c2, .bool false, .int .i64 dl, .int .i64 (n : Nat), .int .i64 jr, .int .i64 sq, .slice A7 n7 c7] 32 (0, 0)) := (FB.new w _).a
  obtain ⟨⟨i0, i1, i2, i3, i4, i5, i6, i7⟩, _⟩ := box8 i0'
  have HY := Lib.hid hY
  have HB := Lib.hid hYb
  clear hs0 hs2 hn hndd hY hYb hv hx hs hx16 ho1 ho2 hm0 hf hsB hsV hKm hm1 eN eM ho i0' hs1 hdl hdi hw h0 hAL hM hs3
  go_enter Tryz.func12, Tryz.ntmps12
  go_upto_region 2 with (fail)
  rw [← HY.out]
  clear HY i0 i1 i2 i3 i4 i5 i6 i7
  obtain ⟨⟨i0, i1, i2, i3, i4, i5, i6, i7⟩, _⟩ := box8 HB.out.a
  go_wp2_with fail
  (with_reducible refine (C1.out _ HB.out.below).mono ?_)
  rintro e w1 ⟨vo, rfl, hvo, hb1⟩
  obtain ⟨OA, on, oc, rfl, hon, hoc⟩ := hvo.open_
  rw [natI_len] at hon
  have HO := Lib.hid hvo
  have HON := Lib.hid hon
  have HB1 := Lib.hid (HB.out.more hb1)
  have HK1 := Lib.hid hb1
  clear i0 i1 i2 i3 i4 i5 i6 i7 hb1 hvo
  obtain ⟨⟨i0, i1, i2, i3, i4, i5, i6, i7⟩, _⟩ := box8 HB1.out.a
  clear hon hoc HB
  go_wp2_with fail
  (with_reducible refine (C2.out _ HB1.out.below).mono ?_)
  rintro e w2 ⟨rfl, hb2⟩
  have HB2 := Lib.hid (HB1.out.more hb2)
  have HO := Lib.hid (HO.out.below hb2)
  clear hb2 i0 i1 i2 i3 i4 i5 i6 i7
  go_wp2_with fail
  (with_reducible refine (CM.out _ _ (one_sps w2)).mono ?_)
  rintro e w3 ⟨rfl, hb3⟩
  have hb3 := Dsk.below_trans' (below_one w2 (.cells #[.int .i64 0, .int .i64 1] 79)) hb3
  have HB3 := Lib.hid (HB2.out.more hb3)
  have HO := Lib.hid (HO.out.below hb3)
  clear hb3
  go_wp2_with fail
  (with_reducible refine (C3.out _).mono ?_)
  rintro e w4 ⟨rfl, rfl⟩
  have hg : ((nd : Int) < (on : Int)) := by have := HON.out; omega
  have hg2 : nd < on := by have := HON.out; omega
  rw [show (((nd - nd : Nat)) : Int) = 0 by omega] at C5
  obtain ⟨FA, fc, hfr, hfi⟩ := slice_fromI HO.out (by rw [natI_len]; exact HON.out) (k := nd) (by omega)
  obtain ⟨TA, tc, htr, hti⟩ := slice_toI HO.out (by rw [natI_len]; exact HON.out) (k := nd) (by omega)
  have HFI := Lib.hid hfi
  have HTI := Lib.hid hti
  clear hfi hti
  go_wp2_with fail
  (with_reducible refine (CS.out _ _ HFI.out).mono ?_)
  rintro e w5 ⟨vs5, rfl, hsp, hb5⟩
  have HB3 := Lib.hid (HB3.out.more hb5)
  have HTI := Lib.hid (HTI.out.below hb5)
  have HSP := Lib.hid hsp
  clear hb5 hsp
  go_wp2_with fail
  (with_reducible refine (CN.out _ _ HSP.out).mono ?_)
  rintro e w3 ⟨rfl, hb5⟩
  have HB3 := Lib.hid (HB3.out.more hb5)
  have HTI := Lib.hid (HTI.out.below hb5)
  clear hb5
  obtain ⟨⟨i0, i1, i2, i3, i4, i5, i6, i7⟩, _⟩ := box8 HB3.out.a
  go_wp2_with fail
  (with_reducible refine (C5.out _).mono ?_)
  rintro e w6 ⟨vm, rfl, hvm, hb6⟩
  have hvm2 := hvm.sps
  obtain ⟨MA, mc, hMA⟩ := hvm2.form
  have HB6 := Lib.hid (HB3.out.more hb6)
  have HKP : Hid (IsInts w6 (.slice TA nd tc) ((natI old).take nd)) := Lib.hid (HTI.out.below hb6)
  obtain ⟨mn, hmn⟩ : ∃ m, m = M.length := ⟨_, rfl⟩
  rw [← hmn] at hMA
  subst hMA
  have HMN := Lib.hid hmn
  have HMS := Lib.hid hvm2
  clear hmn hvm2 hvm hb6 i0 i1 i2 i3 i4 i5 i6 i7 HB3 C2 C3 CM C5
  go_wp2_with fail
  (with_reducible refine (C6.out _ _ HMS.out).mono ?_)
  rintro e w7 ⟨rfl, hb7⟩
  have HB7 := Lib.hid (HB6.out.more hb7)
  have HKP := Lib.hid (HKP.out.below hb7)
  have HMS := Lib.hid (HMS.out.below hb7)
  clear hb7 HB6 C6
  obtain ⟨base, hbase⟩ : ∃ b, b = (natI old).take nd := ⟨_, rfl⟩
  rw [← hbase] at HKP HALL
  have hbl : base.length ≤ 1000 := by rw [hbase, List.length_take]; omega
  have HBL := Lib.hid hbl
  clear hbase hbl
  go_wp2_with (at_builtin; refine wpList_app_run (by rfl) (.tmp 86) (.tmp 87) (by rfl) w7.heap.size _ _ [] base (by rfl) (by rfl) (empty_own w7 _ (Nat.le_refl _)) (HKP.out.below (below_one _ _)) (by have := HBL.out; simp; omega) (by simp) ?_; intro v' w8 hown' hbl')
  rw [List.nil_append] at hown'
  obtain ⟨Z0, z0, hZ⟩ := hown'.form
  obtain ⟨b0, hb0⟩ : ∃ m, m = base.length := ⟨_, rfl⟩
  rw [← hb0] at hZ
  subst hZ
  have HO8 := Lib.hid hown'
  have HK8 := Lib.hid (hbl' w7 (below_one w7 (.cells #[] 3)))
  have HBB0 := Lib.hid hb0
  clear hown' hbl' hb0
  have hmn6 : mn ≤ 600 := by rw [HMN.out]; exact HML.out
  go_wp2_with fail
  go_loopw [10, 19] (fun s10 s19 wr => ∃ (i m' : Nat) (Z : Option Addr) (z : Nat), i ≤ mn ∧ s19 = .int .i64 i ∧ s10 = .slice Z m' z ∧ m' = (base ++ flatI (M.take i)).length ∧ OwnI w7.heap.size wr (.slice Z m' z) (base ++ flatI (M.take i)) ∧ Below w7.heap.size w7 wr) (fun _ u _ => mn - (intOf u).toNat)
  case atStart => exact ⟨0, b0, _, _, Nat.zero_le _, rfl, rfl, by rw [HBB0.out]; simp [flatI], by simpa [flatI] using HO8.out, HK8.out⟩
  case round =>
    clear HO8 HK8
    obtain ⟨i, m', Z, z, hi, rfl, rfl, hm', how, hbr⟩ := hrel
    obtain ⟨w9, rfl⟩ : ∃ w9, w9 = wr := ⟨_, rfl⟩
    have HBR := Lib.hid hbr
    have HO := Lib.hid how
    have HM := Lib.hid hm'
    clear how hm' hbr
    by_cases hlt : i < mn
    · obtain ⟨y, hy⟩ : ∃ y, M[i]? = some y := ⟨_, List.getElem?_eq_getElem (by have := HMN.out; omega)⟩
      obtain ⟨b, off, rfl, hbl, hcell⟩ := HMS.out.at_.2.2 (by omega)
      obtain ⟨q1, q2, q3, q4⟩ := HMR.out y (List.mem_of_getElem? hy)
      obtain ⟨K, hK⟩ : ∃ K, K = y.2.toNat := ⟨_, rfl⟩
      have hK1 : y.2 = (K : Int) := by omega
      obtain ⟨s, hs⟩ : ∃ s, s = y.1 := ⟨_, rfl⟩
      have hcc := hcell i y hy
      rw [hK1, ← hs] at hcc
      have HC0 : Hid (∀ W, Below w7.heap.size w7 W → W.cell? ⟨b, off + i * 2, none⟩ = some (.int .i64 s)) := Lib.hid (fun W hW => (hW.cell (p := ⟨b, off + i * 2, none⟩) hbl).trans hcc.1)
      have HC1 : Hid (∀ W, Below w7.heap.size w7 W → W.cell? ⟨b, off + i * 2 + 1, none⟩ = some (.int .i64 (K : Int))) := Lib.hid (fun W hW => (hW.cell (p := ⟨b, off + i * 2 + 1, none⟩) hbl).trans hcc.2)
      have HNX := Lib.hid (flat_next hy)
      rw [← hK, ← hs] at HNX
      rw [← hs] at q1 q2
      have hK2 : K ≤ 600 := by omega
      have HF2 : Hid (∀ k, k ≤ K → (base ++ (flatI (M.take i) ++ runK s k)).length ≤ 500000) := Lib.hid (fun k hk => by
        have h1 := flat_big (r := M.take i) fun y hy => (HMR.out y (List.mem_of_mem_take hy)).2.2.2
        rw [List.length_take] at h1
        have h2 : min i M.length * 600 ≤ 600 * 600 := Nat.mul_le_mul_right _ (by have := HMN.out; omega)
        have h3 := HBL.out
        rw [List.length_append, List.length_append, runK_len]
        omega)
      have hi1 : (0 : Int) ≤ (i : Int) := by omega
      have hi2 : (i : Int) < (mn : Int) := by omega
      clear hcell hcc hy hK hK1 hs q3 q4 hbl
      go_wp2_with fail
      go_loopw [10, 20] (fun s10 s20 wr => ∃ (k m' : Nat) (Z : Option Addr) (z : Nat), k ≤ K ∧ s20 = .int .i64 k ∧ s10 = .slice Z m' z ∧ m' = (base ++ (flatI (M.take i) ++ runK s k)).length ∧ OwnI w7.heap.size wr (.slice Z m' z) (base ++ (flatI (M.take i) ++ runK s k)) ∧ Below w7.heap.size w7 wr) (fun _ u _ => K - (intOf u).toNat)
      case atStart => exact ⟨0, m', _, _, Nat.zero_le _, rfl, rfl, by rw [HM.out]; simp [runK], by simpa [runK] using HO.out, HBR.out⟩
      case round =>
        clear HM HO HBR
        obtain ⟨k, m', Z, z, hk, rfl, rfl, hm', how, hbr⟩ := hrel
        obtain ⟨w5, rfl⟩ : ∃ w5, w5 = wr := ⟨_, rfl⟩
        have HBR := Lib.hid hbr
        have HOW := Lib.hid how
        have HM' := Lib.hid hm'
        have e0 := HC0.out _ hbr
        have e1 := HC1.out _ hbr
        clear how hm' hbr
        by_cases hlk : k < K
        · have hlk2 : (k : Int) < (K : Int) := by omega
          have hsk : IntKind.i64.wrap (s + (k : Int)) = s + (k : Int) := by rw [wrap_small _ (by omega) (by omega)]
          have hm2 := HF2.out k hk
          have hBs : w7.heap.size ≤ (w5.alloc (.cells #[.int .i64 (s + (k : Int))] 3)).heap.size := by have := HBR.out.size; simp; omega
          go_wp2_with (at_builtin; refine wpList_push (by rfl) (.tmp 104) (.tmp 112) (by rfl) w7.heap.size _ (base ++ (flatI (M.take i) ++ runK s k)) (s + (k : Int)) w5.heap.size (by rfl) (by rfl) (by exact HOW.out.below (below_one _ _)) (by exact heap_alloc_new w5 _) hm2 hBs ?_; intro Z' z' w6' hown' hbl' hkeep' hsz' hat'; obtain ⟨M2, hM2⟩ : ∃ M2, M2 = (base ++ (flatI (M.take i) ++ runK s k)).length + 1 := ⟨_, rfl⟩; rw [← hM2] at hown' hat' ⊢; replace hM2 := Lib.hid hM2)
          have HO6 : Hid (OwnI w7.heap.size w6' (.slice Z' M2 z') (base ++ (flatI (M.take i) ++ runK s (k + 1)))) := Lib.hid (by rw [runK_next, ← List.append_assoc, ← List.append_assoc]; rw [← List.append_assoc] at hown'; exact hown')
          have HB6' : Hid (Below w7.heap.size w7 w6') := Lib.hid (hbl' w7 (HBR.out.alloc HBR.out.size _))
          have HL6 : Hid (M2 = (base ++ (flatI (M.take i) ++ runK s (k + 1))).length) := Lib.hid (by rw [hM2.out, runK_next]; simp; omega)
          clear hown' hbl' hkeep' hsz' hat' hm2 hBs hM2 e0 e1
          go_wp2_with fail
          exact ⟨⟨k + 1, M2, Z', z', by omega, by go_num, rfl, HL6.out, HO6.out, HB6'.out⟩, by simp [intOf]; omega⟩
        · obtain rfl : k = K := by omega
          go_wp2_with fail
          exact ⟨⟨i + 1, m', Z, z, by omega, by go_num, rfl, by rw [HNX.out]; exact HM'.out, by rw [HNX.out]; exact HOW.out, HBR.out⟩, by simp [intOf]; omega⟩
    · obtain rfl : i = mn := by omega
      have hT : M.take i = M := by rw [HMN.out]; exact List.take_length
      have HP0 : Hid (IsInts w9 (.slice Z m' z) (natI AL)) := Lib.hid (by have := HO.out.isInts; rw [hT, HALL.out] at this; exact this)
      have hmd : m' = nd := by rw [HM.out, hT, HALL.out, natI_len, HAL.out]
      subst hmd
      have HB9 := Lib.hid (HB7.out.more HBR.out)
      have HV9 := Lib.hid (HV.out.below HB9.out.below)
      clear hT HO HM HBR HB7 HMS HKP HMR HML HALL HBL HBB0
      go_wp2_with fail
      go_loopw [2, 21] (fun s2 s21 wr => ∃ (i : Nat) (PA : Option Addr) (pc : Nat) (qA1 : Option Addr) (qn1 qc1 : Nat) (qA2 : Option Addr) (qn2 qc2 : Nat) (qdl qjr qsq : Int) (qA7 : Option Addr) (qn7 qc7 : Nat), i ≤ m' ∧ s21 = .int .i64 i ∧ s2 = .string (strB (t.drop (204 * i))) ∧ RB w wr #[.slice qA1 qn1 qc1, .slice qA2 qn2 qc2, .bool false, .int .i64 qdl, .int .i64 (n : Nat), .int .i64 qjr, .int .i64 qsq, .slice qA7 qn7 qc7] #[.slice A1 n1 c1, .slice A2 n2 c2, .bool false, .int .i64 dl, .int .i64 (n : Nat), .int .i64 jr, .int .i64 sq, .slice A7 n7 c7] #[.slice none 0 0, .slice none 0 0, .bool false, .int .i64 0, .int .i64 0, .int .i64 0, .int .i64 0, .slice none 0 0] ∧ IsVault wr (.agg #[.slice qA1 qn1 qc1, .slice qA2 qn2 qc2, .bool false, .int .i64 qdl, .int .i64 (n : Nat), .int .i64 qjr, .int .i64 qsq, .slice qA7 qn7 qc7]) (wrV k AL t i) ∧ IsInts wr (.slice PA m' pc) (natI AL) ∧ .slice PA m' pc = Value.slice Z m' z) (fun _ u _ => m' - (intOf u).toNat)
      case atStart => exact ⟨0, Z, z, A1, n1, c1, A2, n2, c2, dl, jr, sq, A7, n7, c7, Nat.zero_le _, rfl, by simp, HB9.out, HV9.out, HP0.out, rfl⟩
      case round =>
        clear HB9 HV9 HP0
        obtain ⟨i, PA, pc, qA1, qn1, qc1, qA2, qn2, qc2, qdl, qjr, qsq, qA7, qn7, qc7, hi, rfl, rfl, hRB, hVV, hPI, hPe⟩ := hrel
        injection hPe with hPe1 hPe2 hPe3
        subst hPe1 hPe3
        obtain ⟨w2, rfl⟩ : ∃ w2, w2 = wr := ⟨_, rfl⟩
        have HRB := Lib.hid hRB
        have HVV := Lib.hid hVV
        have HPI := Lib.hid hPI
        obtain ⟨⟨i0, i1, i2, i3, i4, i5, i6, i7⟩, _⟩ := box8 hRB.a
        by_cases hlt : i < m'
        · obtain ⟨p, hp⟩ : ∃ q, AL[i]? = some q := ⟨_, List.getElem?_eq_getElem (by rw [HAL.out]; exact hlt)⟩
          obtain ⟨PA2, pn2, pc2, hpe, hpn2, hpc2, hprd⟩ := hPI.open_
          injection hpe with hpe1 hpe2 hpe3
          subst hpe1 hpe2 hpe3
          obtain ⟨pb, po, rfl, y0⟩ := int_at hprd (Below.refl _ _) (natI_at hp) (by omega)
          have HPL : Hid (∀ W, Below w2.heap.size w2 W → W.cell? ⟨pb, po + i, none⟩ = some (.int .i64 (p : Nat))) := Lib.hid (fun W hW => by
            obtain ⟨b3, off3, eb, y3⟩ := int_at hprd hW (natI_at hp) (by omega)
            injection eb with eb
            injection eb with eb1 eb2
            subst eb1 eb2
            exact y3)
          have hi1 : (0 : Int) ≤ (i : Int) := by omega
          have hi2 : (i : Int) < (m' : Int) := by omega
          have hw1 : IntKind.i64.wrap ((i : Int) + 1) = (i : Int) + 1 := by rw [wrap_small _ (by omega) (by omega)]
          have C7 := Lib.hid (fun W (hW : Below w2.heap.size w2 W) => C7.out i (by omega) W _ p (HLT.out p (List.mem_of_getElem? hp)) (HVV.out.below hW))
          have HE7 : Hid ((writeV (wrV k AL t i) ((p : Nat) : Int) (partD AL t i)).1 = wrV k AL t (i + 1)) := Lib.hid (by
            show _ = (writeV (wrV k AL t i) (AL.getD i 0 : Nat) (partD AL t i)).1
            rw [getD_at hp])
          have HF7 := Lib.hid (fun W v (h : IsVault W v (writeV (wrV k AL t i) ((p : Nat) : Int) (partD AL t i)).1) => HF7.out (i + 1) (by omega) W v (by rw [← HE7.out]; exact h))
          have hmin := chunk_min t i
          have hcut := chunk_cut t i
          have hrest := chunk_rest t i
          have hkk : (chunk t i).length ≤ (strB (t.drop (204 * i))).size := by rw [strB_size]; unfold chunk; rw [List.length_take]; omega
          have hs3z : (strB (chunk t i)).size ≤ 204 := by rw [strB_size]; exact chunk_len t i
          obtain ⟨uS, huS⟩ : ∃ s, s = strB (t.drop (204 * i)) := ⟨_, rfl⟩
          obtain ⟨uN, huN⟩ : ∃ s, s = strB (t.drop (204 * (i + 1))) := ⟨_, rfl⟩
          obtain ⟨kk, hkke⟩ : ∃ q, q = (chunk t i).length := ⟨_, rfl⟩
          obtain ⟨S3, hS3⟩ : ∃ s, s = strB (chunk t i) := ⟨_, rfl⟩
          obtain ⟨SP, hSP⟩ : ∃ s, s = strB (partD AL t i) := ⟨_, rfl⟩
          rw [← huS]
          rw [← huS, ← hkke] at hmin hcut hrest hkk
          rw [← hS3] at hcut hs3z
          rw [← huN] at hrest
          rw [← hSP] at C7
          have HUN := Lib.hid huN
          have HKK := Lib.hid hkke
          have HS3 := Lib.hid hS3
          have HSP := Lib.hid hSP
          clear hpn2 hpc2 hRB hVV hPI huS huN hkke hS3 hSP
          by_cases hnx0 : i + 1 < m'
          · obtain ⟨nx, hnx⟩ : ∃ q, AL[i + 1]? = some q := ⟨_, List.getElem?_eq_getElem (by rw [HAL.out]; omega)⟩
            have hnl : nx < 65536 := by have := HLT.out nx (List.mem_of_getElem? hnx); omega
            have hne := (getD_at hnx).symm
            obtain ⟨b2, off2, eb, y1⟩ := int_at hprd (Below.refl _ _) (natI_at hnx) (by omega)
            injection eb with eb
            injection eb with eb1 eb2
            subst eb1 eb2
            have hgi : (i : Int) + 1 < (m' : Int) := by omega
            have htn : ((i : Int) + 1).toNat = i + 1 := by omega
            have hj1 : strB (Wire.twoL ((nx : Nat) : Int)) ++ strB (Wire.twoL ((kk : Nat) : Int)) = strB (Wire.twoL ((nx : Nat) : Int) ++ Wire.twoL ((kk : Nat) : Int)) := strB_append _ _
            have hj2 : strB (Wire.twoL ((nx : Nat) : Int) ++ Wire.twoL ((kk : Nat) : Int)) ++ S3 = SP := by rw [HKK.out, HS3.out, HSP.out]; exact part_join AL t i nx hne hnl
            have C1 := Lib.hid (fun W => Wire.rtwo_calls ((nx : Nat) : Int) W)
            have C2 := Lib.hid (fun W => Wire.rtwo_calls ((kk : Nat) : Int) W)
            have hz1 : (strB (Wire.twoL ((nx : Nat) : Int))).size = 2 := by rw [strB_size]; rfl
            have hz2 : (strB (Wire.twoL ((kk : Nat) : Int))).size = 2 := by rw [strB_size]; rfl
            have hz3 : (strB (Wire.twoL ((nx : Nat) : Int) ++ Wire.twoL ((kk : Nat) : Int))).size = 4 := by rw [strB_size]; rfl
            obtain ⟨S1, hS1⟩ : ∃ s, s = strB (Wire.twoL ((nx : Nat) : Int)) := ⟨_, rfl⟩
            obtain ⟨S2, hS2⟩ : ∃ s, s = strB (Wire.twoL ((kk : Nat) : Int)) := ⟨_, rfl⟩
            obtain ⟨S12, hS12⟩ : ∃ s, s = strB (Wire.twoL ((nx : Nat) : Int) ++ Wire.twoL ((kk : Nat) : Int)) := ⟨_, rfl⟩
            rw [← hS1, ← hS2, ← hS12] at hj1
            rw [← hS12] at hj2 hz3
            rw [← hS1] at C1 hz1
            rw [← hS2] at C2 hz2
            have hza : ¬ 9223372036854775807 < S1.size + S2.size := by omega
            have hzb : ¬ 9223372036854775807 < S12.size + S3.size := by omega
            clear hne hnl hS1 hS2 hS12
            go_wp2_with fail
            (with_reducible refine (rmost_calls _).mono ?_)
            rintro e wz ⟨rfl, rfl⟩
            go_wp2_with fail
            clear i0 i1 i2 i3 i4 i5 i6 i7 y0 y1
            refine rput_reg34 HRB HPI hp hlt C1 C2 C7 HF7 hj1 hj2 hza hzb hcut hkk ?_
            intro X rA1 rn1 rc1 rA2 rn2 rc2 rdl rjr rsq rA7 rn7 rc7 y132 y133 y134 y135 y136 y137 y138 y139 y140 y141 y142 y143 y144 y145 y146 y147 y148 y149 hRX hVX hPX
            have HRX := Lib.hid hRX
            have HVX := Lib.hid hVX
            have HPX := Lib.hid hPX
            clear hRX hVX hPX
            go_wp2_with fail
            exact ⟨⟨i + 1, some ⟨pb, po, none⟩, _, rA1, rn1, rc1, rA2, rn2, rc2, rdl, rjr, rsq, rA7, rn7, rc7, by omega, by go_num, by rw [HUN.out], HRX.out, by rw [← HE7.out]; exact HVX.out, HPX.out, rfl⟩, by simp [intOf]; omega⟩
          · have hgi : ¬ (i : Int) + 1 < (m' : Int) := by omega
            have hnl : 0 < 65536 := by omega
            have hne : 0 = AL.getD (i + 1) 0 := by rw [List.getD_eq_getElem?_getD, List.getElem?_eq_none (by rw [HAL.out]; omega)]; rfl
            have hj1 : strB (Wire.twoL (0 : Int)) ++ strB (Wire.twoL ((kk : Nat) : Int)) = strB (Wire.twoL (0 : Int) ++ Wire.twoL ((kk : Nat) : Int)) := strB_append _ _
            have hj2 : strB (Wire.twoL (0 : Int) ++ Wire.twoL ((kk : Nat) : Int)) ++ S3 = SP := by rw [HKK.out, HS3.out, HSP.out]; exact part_join AL t i 0 hne hnl
            have C1 := Lib.hid (fun W => Wire.rtwo_calls (0 : Int) W)
            have C2 := Lib.hid (fun W => Wire.rtwo_calls ((kk : Nat) : Int) W)
            have hz1 : (strB (Wire.twoL (0 : Int))).size = 2 := by rw [strB_size]; rfl
            have hz2 : (strB (Wire.twoL ((kk : Nat) : Int))).size = 2 := by rw [strB_size]; rfl
            have hz3 : (strB (Wire.twoL (0 : Int) ++ Wire.twoL ((kk : Nat) : Int))).size = 4 := by rw [strB_size]; rfl
            obtain ⟨S1, hS1⟩ : ∃ s, s = strB (Wire.twoL (0 : Int)) := ⟨_, rfl⟩
            obtain ⟨S2, hS2⟩ : ∃ s, s = strB (Wire.twoL ((kk : Nat) : Int)) := ⟨_, rfl⟩
            obtain ⟨S12, hS12⟩ : ∃ s, s = strB (Wire.twoL (0 : Int) ++ Wire.twoL ((kk : Nat) : Int)) := ⟨_, rfl⟩
            rw [← hS1, ← hS2, ← hS12] at hj1
            rw [← hS12] at hj2 hz3
            rw [← hS1] at C1 hz1
            rw [← hS2] at C2 hz2
            have hza : ¬ 9223372036854775807 < S1.size + S2.size := by omega
            have hzb : ¬ 9223372036854775807 < S12.size + S3.size := by omega
            clear hne hnl hS1 hS2 hS12
            go_wp2_with fail
            (with_reducible refine (rmost_calls _).mono ?_)
            rintro e wz ⟨rfl, rfl⟩
            go_wp2_with fail
            clear i0 i1 i2 i3 i4 i5 i6 i7 y0 
            refine rput_reg34 HRB HPI hp hlt C1 C2 C7 HF7 hj1 hj2 hza hzb hcut hkk ?_
            intro X rA1 rn1 rc1 rA2 rn2 rc2 rdl rjr rsq rA7 rn7 rc7 y132 y133 y134 y135 y136 y137 y138 y139 y140 y141 y142 y143 y144 y145 y146 y147 y148 y149 hRX hVX hPX
            have HRX := Lib.hid hRX
            have HVX := Lib.hid hVX
            have HPX := Lib.hid hPX
            clear hRX hVX hPX
            go_wp2_with fail
            exact ⟨⟨i + 1, some ⟨pb, po, none⟩, _, rA1, rn1, rc1, rA2, rn2, rc2, rdl, rjr, rsq, rA7, rn7, rc7, by omega, by go_num, by rw [HUN.out], HRX.out, by rw [← HE7.out]; exact HVX.out, HPX.out, rfl⟩, by simp [intOf]; omega⟩
        · obtain rfl : i = m' := by omega
          clear hRB hVV hPI
          go_wp2_with fail
          (with_reducible refine (C8.out _ _ HVV.out).mono ?_)
          rintro e w10 ⟨v10, rfl, hv10, hb10⟩
          rw [HE8.out] at hv10
          obtain ⟨rA1, rn1, rc1, rA2, rn2, rc2, rdl, rjr, rsq, rA7, rn7, rc7, rfl⟩ := HF8.out _ _ hv10
          have hRA := HRB.out.more hb10
          obtain ⟨X, hX, hbX, hkX, hBX⟩ := box_store8 hRA.a (.slice rA1 rn1 rc1) (.slice rA2 rn2 rc2) (.bool false) (.int .i64 rdl) (.int .i64 (n : Nat)) (.int .i64 rjr) (.int .i64 rsq) (.slice rA7 rn7 rc7)
          have HXX := Lib.hid hX
          have HGX := Lib.hid hbX
          have HZX : Hid (X.heap[w.heap.size + 1]? = some (.cells #[.slice none 0 0, .slice none 0 0, .bool false, .int .i64 0, .int .i64 0, .int .i64 0, .int .i64 0, .slice none 0 0] 32 (0, 0))) := Lib.hid ((hkX _ (by omega)).trans hRA.z)
          have HVX := Lib.hid (hv10.other hRA.a hkX)
          have HBX := Lib.hid (hBX _ _ hRA.below (Nat.le_refl _))
          have HPX : Hid (IsInts X (.slice PA i pc) (natI AL)) := Lib.hid (SL.other (HPI.out.below hb10) hRA.a (by decide) hkX)
          clear i0 i1 i2 i3 i4 i5 i6 i7
          obtain ⟨⟨k0, k1, k2, k3, k4, k5, k6, k7⟩, kf⟩ := box8 hRA.a
          clear hX hbX hkX hBX hv10 hb10 hRA
          go_upto_region 39 with (fail)
          rw [HXX.out]
          clear k0 k1 k2 k3 k4 k5 k6 k7 kf
          go_wp2_with fail
          obtain ⟨X2, hX2, hbX2, hkX2, hBX2⟩ := box_store8 HZX.out (.slice rA1 rn1 rc1) (.slice rA2 rn2 rc2) (.bool false) (.int .i64 rdl) (.int .i64 (n : Nat)) (.int .i64 rjr) (.int .i64 rsq) (.slice rA7 rn7 rc7)
          have HFIN : Hid (IsVault X2 (.agg #[.slice rA1 rn1 rc1, .slice rA2 rn2 rc2, .bool false, .int .i64 rdl, .int .i64 (n : Nat), .int .i64 rjr, .int .i64 rsq, .slice rA7 rn7 rc7]) (putV k n old t) ∧ Below w.heap.size w X2) := Lib.hid ⟨HVX.out.other HZX.out hkX2, hBX2 _ _ HBX.out (by omega)⟩
          have HX2 := Lib.hid (box8 hbX2)
          have HXX2 := Lib.hid hX2
          obtain ⟨⟨j0, j1, j2, j3, j4, j5, j6, j7⟩, _⟩ := box8 HGX.out
          obtain ⟨⟨z0, z1, z2, z3, z4, z5, z6, z7⟩, zf⟩ := box8 HZX.out
          have hpos : 0 < i := by
            have h1 := (List.getElem?_eq_some_iff.1 HPG.out).1
            rw [natI_len] at h1
            have h2 := HAL.out
            omega
          obtain ⟨PA2, pn2, pc2, hpe, hpn2, hpc2, hprd⟩ := HPX.out.open_
          injection hpe with hpe1 hpe2 hpe3
          subst hpe1 hpe2 hpe3
          obtain ⟨pb, po, rfl, y0⟩ := int_at hprd (Below.refl _ _) HPG.out (by have := HAL.out; omega)
          rw [Nat.add_zero] at y0
          have hpb : pb ≠ w.heap.size + 1 := fun e => by
            obtain ⟨b', o', cur, fr, eq, hbb, _⟩ := hprd.2 hpos
            injection eq with eq
            injection eq with eq1 eq2
            subst eq1
            rw [e, HZX.out] at hbb
            cases hbb
          have y1 : X2.cell? ⟨pb, po, none⟩ = some (.int .i64 (pg : Nat)) := by
            rw [← y0]
            unfold World.cell?
            rw [hkX2 _ hpb]
          have HY1 := Lib.hid y1
          clear y1 hX2 hbX2 hkX2 hBX2 hpn2 hpc2 hprd
          go_region
          rw [HXX2.out]
          clear j0 j1 j2 j3 j4 j5 j6 j7 z0 z1 z2 z3 z4 z5 z6 z7 zf y0
          obtain ⟨⟨z0, z1, z2, z3, z4, z5, z6, z7⟩, _⟩ := HX2.out
          go_wp2_with fail
          exact bodyPost_ret (v := .tuple #[.agg #[.slice rA1 rn1 rc1, .slice rA2 rn2 rc2, .bool false, .int .i64 rdl, .int .i64 (n : Nat), .int .i64 rjr, .int .i64 rsq, .slice rA7 rn7 rc7], .int .i64 (pg : Nat), .int .i64 0]) (by simp [results, Tryz.results12, go_sem, z0, z1, z2, z3, z4, z5, z6, z7]) rfl ⟨_, rfl, HFIN.out.1.below (Below.refl _ _).drew, HFIN.out.2.drew⟩
end Go.Proofs.YtgeiemccjionpaaGreat.Chn

/- HRPut -/
namespace Go.Proofs.YtgeiemccjionpaaGreat.Chn
open Go.RowKit Go.Sort
open Dsk Vlt

theorem rput_fit (v : Value) {x : Sh} {k : VK} (no : Int) (old : List Nat) (t : List UInt8) (w : World) (hx : rightS x = true) (hs : Still x k) (hv : IsVault w v k) (ho : Old (CV k) (PN x) no old) (ht : t.length ≤ 100000) (hf : fitC (CV k) (PN x) old (needC t.length)) :
    Calls Tryz.prog 12 #[v, .int .i64 no, .string (strB t)] w fun e w' => ∃ v', e = .returned (.tuple #[v', .int .i64 (((allC (CV k) (PN x) old (needC t.length)).getD 0 0 : Nat) : Int), .int .i64 0]) ∧ IsVault w' v' (putV k (PN x) old t) ∧ Below w.heap.size w w' := by
  rcases ho with ⟨h0, ho0⟩ | ⟨h0, t0, hw⟩
  · subst ho0
    exact rput0_fit v no [] t w hx hs hv h0 rfl ht hf
  · by_cases hl : old.length ≤ needC t.length
    · exact rputA_fit v no old t w hx hs hv h0 t0 hw hl ht hf
    · exact rputB_fit v no old t w hx hs hv h0 t0 hw (by omega) ht hf
theorem rput_no (v : Value) {x : Sh} {k : VK} (no : Int) (old : List Nat) (t : List UInt8) (w : World) (hx : rightS x = true) (hs : Still x k) (hv : IsVault w v k) (ho : Old (CV k) (PN x) no old) (ht : t.length ≤ 100000) (hf : ¬ fitC (CV k) (PN x) old (needC t.length)) :
    Calls Tryz.prog 12 #[v, .int .i64 no, .string (strB t)] w fun e w' => ∃ v', e = .returned (.tuple #[v', .int .i64 0, .int .i64 7]) ∧ IsVault w' v' k ∧ Below w.heap.size w w' := by
  rcases ho with ⟨h0, ho0⟩ | ⟨h0, t0, hw⟩
  · subst ho0
    exact rput0_no v no [] t w hx hs hv h0 rfl ht hf
  · by_cases hl : old.length ≤ needC t.length
    · exact rputA_no v no old t w hx hs hv h0 t0 hw hl ht hf
    · exact rputB_no v no old t w hx hs hv h0 t0 hw (by omega) ht hf
end Go.Proofs.YtgeiemccjionpaaGreat.Chn
