/- Contracts and plain mathematics that the statement's proof wants: no statement is proved here, nothing is assumed. -/
import Derived.Test.YtgeiemccjionpaaGreatMg27
import Derived.Test.YtgeiemccjionpaaGreatMg31
/- HRoom -/
namespace Go.Proofs.YtgeiemccjionpaaGreat.Chn
open Go.RowKit Go.Sort
open Dsk Vlt
open Bit (Sps runsN freeN)

/-- Two slices of numbers joined. -/
theorem cat2_calls (g : Nat) (v1 v2 : Value) (l1 l2 : List Int) (w : World) (hb : w.heap[g]? = some (.cells #[v1, v2] 36 (0, 0))) (h1 : IsInts w v1 l1) (h2 : IsInts w v2 l2) (hn : 1 ≤ (l1 ++ l2).length) (hm : (l1 ++ l2).length ≤ 10000) :
    Calls Tryz.prog 64 #[.slice (some ⟨g, 0, none⟩) 2 2] w fun e w' => ∃ v', e = .returned v' ∧ OwnI w.heap.size w' v' (l1 ++ l2) ∧ Below w.heap.size w w' := by
  have e : [l1, l2].flatten = l1 ++ l2 := by simp
  have := concat_calls g [v1, v2] [l1, l2] 2 2 w (Array.getElem?_eq_some_iff.1 hb).1 rfl rfl (by omega) (fun i v hv => by
    rw [cell_of_row w g _ _ _ _ hb, ← hv]
    exact List.getElem?_toArray.symm ▸ rfl) (fun i v l hv hl => by
    match i, hv, hl with
    | 0, hv, hl => simp at hv hl; subst hv hl; exact h1
    | 1, hv, hl => simp at hv hl; subst hv hl; exact h2) (by rw [e]; exact hn) (by rw [e]; exact hm)
  rw [e] at this
  exact this

/-- What lies in room's last region. -/
structure RM (w W : World) (vo vm : Value) (lo : List Int) (r : List (Int × Int)) : Prop where
  old : IsInts W vo lo
  sp : Sps W vm r
  below : Below w.heap.size w W
theorem RM.more {w W W' : World} {vo vm : Value} {lo : List Int} {r : List (Int × Int)} (h : RM w W vo vm lo r) (k : Below W.heap.size W W') : RM w W' vo vm lo r := ⟨h.old.below k, h.sp.below k, Dsk.below_trans' h.below k⟩

instance fitD (C : Nat → List UInt8) (n : Nat) (old : List Nat) (need : Nat) : Decidable (fitC C n old need) := by unfold fitC; infer_instance
/-- What room answers. -/
theorem m1_is {C : Nat → List UInt8} {old : List Nat} {need : Nat} : Bit.markL (m0C C) false (onesI ((natI old).drop (min old.length need))) = m1C C old need := by
  unfold m1C
  by_cases h : need < old.length
  · rw [if_pos h, show min old.length need = need by omega, ← natI_drop, ones_nat]
  · rw [if_neg h, show min old.length need = old.length by omega, ← natI_drop, List.drop_length]
    rfl
theorem kept_len {old : List Nat} {need : Nat} : need - (old.take need).length = need - min old.length need := by rw [List.length_take]; omega

set_option maxRecDepth 100000 in
set_option maxHeartbeats 8000000 in
theorem room_calls (C : Nat → List UInt8) (n : Nat) (old : List Nat) (need : Nat) (vo : Value) (w : World) (hC : (C 0).length = 208) (hn : n ≤ 512) (ho : IsInts w vo (natI old)) (hol : old.length ≤ 512) (hor : ∀ p ∈ old, p ≤ 1000000) (hnd : 1 ≤ need ∧ need ≤ 1000) :
    Calls Tryz.prog 36 #[.string (strB (C 0)), .int .i64 (n : Nat), vo, .int .i64 (need : Nat)] w fun e w' =>
      (fitC C n old need → ∃ vp, e = .returned (.tuple #[.string (strB (m2C C n old need)), vp, .bool true]) ∧ IsInts w' vp (natI (allC C n old need))) ∧
      (¬ fitC C n old need → e = .returned (.tuple #[.string ⟨#[]⟩, .slice none 0 0, .bool false])) ∧ Below w.heap.size w w' := by
  obtain ⟨P, pn, pc, rfl, hpn, hpc⟩ := ho.open_
  rw [natI_len] at hpn
  obtain ⟨K, hK⟩ : ∃ K, K = min pn need := ⟨_, rfl⟩
  have hKi : min (pn : Int) (need : Int) = (K : Nat) := by omega
  have hK1 : K ≤ need := by omega
  have hKo : K = min old.length need := by omega
  obtain ⟨FA, fc, hfr, hfi⟩ := slice_fromI ho (by rw [natI_len]; exact hpn) (k := K) (by omega)
  obtain ⟨TA, tc, htr, hti⟩ := slice_toI ho (by rw [natI_len]; exact hpn) (k := K) (by omega)
  have hfl : ((natI old).drop K).length ≤ 1000 := by rw [List.length_drop, natI_len]; omega
  have hfi2 : IR ((natI old).drop K) := by rw [← natI_drop]; exact IR.nat fun p hp => hor p (List.mem_of_mem_drop hp)
  have C1 := Lib.hid (fun W v (h : IsInts W v [0]) => runs_calls v [0] W h (by decide))
  have C2 := Lib.hid (fun W v (h : Sps W v (onesI [0])) => cmark_calls (C 0) true v (onesI [0]) W (by omega) h (by decide) (IR.ones (l := [0]) (by intro a ha; simp at ha; omega)))
  have C3 := Lib.hid (fun W (hW : Below w.heap.size w W) => runs_calls _ ((natI old).drop K) W (hfi.below hW) hfl)
  have C4 := Lib.hid (fun W v (h : Sps W v (onesI ((natI old).drop K))) => cmark_calls (m0C C) false v (onesI ((natI old).drop K)) W (by unfold m0C; rw [Bit.markL_len]; omega) h (by rw [ones_len]; exact hfl) hfi2.ones)
  have C5 := Lib.hid (fun W => Bit.some_calls (m1C C old need) (n : Nat) ((need - K : Nat) : Int) W (by rw [m1_len]; omega) (by omega))
  have hsB : Bit.someB (m1C C old need) (n : Nat) ((need - K : Nat) : Int) = decide (fitC C n old need) := by
    unfold Bit.someB Bit.capN
    rw [Bool.eq_iff_iff, decide_eq_true_iff, decide_eq_true_iff, Int.toNat_natCast, show (min ((n : Nat) : Int) 512).toNat = n by omega]
    unfold fitC
    rw [kept_len, hKo]
  have hsV : fitC C n old need → Bit.someV (m1C C old need) (n : Nat) ((need - K : Nat) : Int) = moreC C n old need := fun h => by
    unfold Bit.someV moreC Bit.capN
    rw [hsB, if_pos (decide_eq_true h), kept_len, hKo, Int.toNat_natCast, show (min ((n : Nat) : Int) 512).toNat = n by omega]
  rw [hsB] at C5
  have hmr := Bit.runs_is (m1C C old need) (need - (old.take need).length) n
  have hmr1 : ∀ x ∈ moreC C n old need, 0 ≤ x.1 ∧ x.1 ≤ 600 ∧ 0 ≤ x.2 ∧ x.2 ≤ 600 := fun x hx => by have := hmr.all x hx; omega
  have hml : (moreC C n old need).length ≤ 600 := by have := Bit.runsN_len (m1C C old need) (need - (old.take need).length) n; unfold moreC; omega
  have hall : (natI old).take K ++ natI (flat (moreC C n old need)) = natI (allC C n old need) := by
    unfold allC
    rw [natI_append, natI_take, hKo]
    congr 1
    rw [List.take_eq_take_iff, natI_len]
    omega
  have hlen : fitC C n old need → (natI (allC C n old need)).length = need := fun h => by
    rw [← hall, List.length_append, List.length_take, natI_len, natI_len]
    have := (some_is (m1C C old need) (need - (old.take need).length) n).2.1
    unfold fitC at h
    unfold moreC
    rw [this, kept_len] at *
    omega
  have C6 := Lib.hid (fun W v (h : Sps W v (moreC C n old need)) => cmark_calls (m1C C old need) true v (moreC C n old need) W (by rw [m1_len]; omega) h (by omega) (fun x hx => by have := hmr1 x hx; omega))
  have C7 := Lib.hid (fun W v (h : Sps W v (moreC C n old need)) => each_calls v (moreC C n old need) W h hml hmr1)
  have C8 := Lib.hid (fun (hf : fitC C n old need) W g v1 v2 hb (h1 : IsInts W v1 ((natI old).take K)) (h2 : IsInts W v2 (natI (flat (moreC C n old need)))) => cat2_calls g v1 v2 _ _ W hb h1 h2 (by rw [hall, hlen hf]; omega) (by rw [hall, hlen hf]; omega))
  have e1 : Bit.markL (C 0) true (onesI [0]) = m0C C := rfl
  have e2 := m1_is (C := C) (old := old) (need := need)
  rw [← hKo] at e2
  rw [e1] at C2
  rw [e2] at C4
  rw [show Bit.markL (m1C C old need) true (moreC C n old need) = m2C C n old need from rfl] at C6
  rw [hall] at C8
  obtain ⟨s0, hs0⟩ : ∃ s, s = strB (C 0) := ⟨_, rfl⟩
  obtain ⟨s1, hs1⟩ : ∃ s, s = strB (m0C C) := ⟨_, rfl⟩
  obtain ⟨s2, hs2⟩ : ∃ s, s = strB (m1C C old need) := ⟨_, rfl⟩
  obtain ⟨s3, hs3⟩ : ∃ s, s = strB (m2C C n old need) := ⟨_, rfl⟩
  rw [← hs0] at C2 ⊢
  rw [← hs1] at C2 C4
  rw [← hs2] at C4 C5 C6
  rw [← hs3] at C6 ⊢
  have HSV := Lib.hid hsV
  have HTI := Lib.hid hti
  have hsub : ((need : Nat) : Int) - ((K : Nat) : Int) = ((need - K : Nat) : Int) := by omega
  clear hpn hpc hs0 hs1 hs2 hs3 e1 e2 hall hmr hmr1 hml hsB hsV hfl hfi2 hfi hti hKo ho hol hor hC hK hlen
  go_enter Tryz.func36, Tryz.ntmps36
  go_upto_region 2 with (fail)
  have hz : ∀ W : World, IsInts (W.alloc (.cells #[.int .i64 0] 3)) (.slice (some ⟨W.heap.size, 0, none⟩) 1 1) [0] := fun W => ⟨_, _, rfl, Nat.le_refl _, rfl, fun _ => ⟨W.heap.size, 0, _, _, rfl, heap_alloc_new W _, fun j u hj => by rw [Nat.zero_add, ← hj]; exact List.getElem?_toArray⟩⟩
  have HZ := Lib.hid hz
  clear hz
  go_wp2_with fail
  (with_reducible refine (C1.out _ _ (HZ.out w)).mono ?_)
  rintro e w1 ⟨v1, rfl, hv1, hb1⟩
  have HB1 := Lib.hid (Dsk.below_trans' (below_one w _) hb1)
  have HV1 := Lib.hid hv1
  clear hv1 hb1
  go_wp2_with fail
  (with_reducible refine (C2.out _ _ HV1.out).mono ?_)
  rintro e w2 ⟨rfl, hb2⟩
  have HB2 := Lib.hid (Dsk.below_trans' HB1.out hb2)
  clear hb2 HB1 HV1
  go_wp2_with fail
  (with_reducible refine (C3.out _ HB2.out).mono ?_)
  rintro e w3 ⟨v3, rfl, hv3, hb3⟩
  have HB3 := Lib.hid (Dsk.below_trans' HB2.out hb3)
  have HV3 := Lib.hid hv3
  clear hv3 hb3 HB2
  go_wp2_with fail
  (with_reducible refine (C4.out _ _ HV3.out).mono ?_)
  rintro e w4 ⟨rfl, hb4⟩
  have HB4 := Lib.hid (Dsk.below_trans' HB3.out hb4)
  clear hb4 HB3 HV3
  go_wp2_with fail
  (with_reducible refine (C5.out _).mono ?_)
  rintro e w5 ⟨vm, rfl, hvm, hb5⟩
  have HB5 := Lib.hid (Dsk.below_trans' HB4.out hb5)
  have hvm2 := hvm.sps
  clear HB4 hb5 hvm
  by_cases hf : fitC C n old need
  · rw [HSV.out hf] at hvm2
    have HT := Lib.hid (RM.mk (HTI.out.below HB5.out) hvm2 HB5.out : RM w w5 _ _ _ _)
    have C8 := Lib.hid (C8.out hf)
    rw [decide_eq_true hf]
    obtain ⟨M1, mn, mc, hM⟩ : ∃ A n c, vm = .slice A n c := by obtain ⟨A, c, e⟩ := hvm2.form; exact ⟨A, _, c, e⟩
    subst hM
    clear hvm2 HB5 C1 C2 C3 C4 C5 hfr HTI HZ HSV
    have HF := Lib.hid hf
    clear hf
    go_wp2_with fail
    have HT := Lib.hid (HT.out.more (Below.refl _ _).drew)
    go_region_with (first
      | (go_at_call 65; (with_reducible refine (C7.out _ _ HT.out.sp).mono ?_); rintro e wa ⟨ve, rfl, hve, hBa⟩; (with_reducible replace HT := Lib.hid (HT.out.more hBa)); obtain ⟨EA, ec, rfl⟩ := hve.form; have HE := Lib.hid hve.isInts; clear hve hBa)
      | (go_at_call 50; (with_reducible refine (C6.out _ _ HT.out.sp).mono ?_); rintro e wa ⟨rfl, hBa⟩; (with_reducible replace HT := Lib.hid (HT.out.more hBa)); (try (with_reducible replace HE := Lib.hid (HE.out.below hBa))); clear hBa)
      | (go_at_call 50; (with_reducible refine (C6.out _ _ (HT.out.more (below_one _ _)).sp).mono ?_); rintro e wa ⟨rfl, hBa⟩; have HG := Lib.hid (box_kept _ (heap_alloc_new _ _) hBa); (with_reducible replace HT := Lib.hid ((HT.out.more (below_one _ _)).more hBa)); (with_reducible replace HE := Lib.hid ((HE.out.below (below_one _ _)).below hBa)); clear hBa)
      | (go_at_call 64; (with_reducible refine (C8.out _ _ _ _ (heap_alloc_new _ _) (HT.out.more (below_one _ _)).old (HE.out.below (below_one _ _))).mono ?_); rintro e wa ⟨vc, rfl, hvc, hBa⟩; (with_reducible replace HT := Lib.hid ((HT.out.more (below_one _ _)).more hBa)); obtain ⟨CA, cc, rfl⟩ := hvc.form; have HC := Lib.hid hvc.isInts; clear hvc hBa)
      | (go_at_call 64; (with_reducible refine (C8.out _ _ _ _ HG.out HT.out.old HE.out).mono ?_); rintro e wa ⟨vc, rfl, hvc, hBa⟩; (with_reducible replace HT := Lib.hid (HT.out.more hBa)); obtain ⟨CA, cc, rfl⟩ := hvc.form; have HC := Lib.hid hvc.isInts; clear hvc hBa))
    all_goals
      go_wp2_with fail
      go_ret3
      exact ⟨fun _ => ⟨_, rfl, HC.out⟩, fun h => absurd HF.out h, HT.out.below⟩
  · have HF := Lib.hid hf
    rw [decide_eq_false hf]
    clear hvm2 hf
    go_wp2_with fail
    go_ret3
    exact ⟨fun h => absurd h HF.out, fun _ => rfl, HB5.out⟩
end Go.Proofs.YtgeiemccjionpaaGreat.Chn
