/- Contracts and plain mathematics that the statement's proof wants: no statement is proved here, nothing is assumed. -/
import Derived.Test.YtgeiemccjionpaaGreatMg33
/- HPutP -/
namespace Go.Proofs.YtgeiemccjionpaaGreat.Chn
open Go.RowKit Go.Sort
open Dsk Vlt

/-- What a Put finds: no text yet, or one that is there. -/
def Old (C : Nat → List UInt8) (n : Nat) (no : Int) (old : List Nat) : Prop := (no = 0 ∧ old = []) ∨ (no ≠ 0 ∧ ∃ t0, walkZ C n n [] [] no = (old, t0, 0))

/-! A walk's pages -/
theorem walkC_ok (C : Nat → List UInt8) (n : Nat) : ∀ (f : Nat) (ps : List Nat) (t : List UInt8) (no : Nat), (∀ p ∈ ps, p < n) → f + ps.length ≤ n →
    (∀ p ∈ (walkC C n f ps t no).1, p < n) ∧ (walkC C n f ps t no).1.length ≤ n := by
  intro f
  induction f with
  | zero =>
    intro ps t no hp hl
    cases no with
    | zero =>
      rw [walk_zero]
      by_cases h : ps = []
      · rw [if_pos h]; simp
      · rw [if_neg h]; exact ⟨hp, by dsimp only; omega⟩
    | succ no => exact ⟨(by intro p h; cases h), Nat.zero_le _⟩
  | succ f ih =>
    intro ps t no hp hl
    cases no with
    | zero =>
      rw [walk_zero]
      by_cases h : ps = []
      · rw [if_pos h]; simp
      · rw [if_neg h]; exact ⟨hp, by dsimp only; omega⟩
    | succ no =>
      show (∀ p ∈ (if n ≤ no + 1 then ([], [], 2) else if 204 < lenB (C (no + 1)) then ([], [], 2) else walkC C n f (ps ++ [no + 1]) (t ++ partB (C (no + 1))) (nextB (C (no + 1))) : List Nat × List UInt8 × Int).1, p < n) ∧ _
      show _ ∧ (if n ≤ no + 1 then ([], [], 2) else if 204 < lenB (C (no + 1)) then ([], [], 2) else walkC C n f (ps ++ [no + 1]) (t ++ partB (C (no + 1))) (nextB (C (no + 1))) : List Nat × List UInt8 × Int).1.length ≤ n
      by_cases h1 : n ≤ no + 1
      · rw [if_pos h1]; simp
      · rw [if_neg h1]
        by_cases h2 : 204 < lenB (C (no + 1))
        · rw [if_pos h2]; simp
        · rw [if_neg h2]
          refine ih _ _ _ (fun p hm => ?_) (by simp; omega)
          rcases List.mem_append.1 hm with hm | hm
          · exact hp p hm
          · rw [List.mem_singleton] at hm; omega
theorem walkZ_ok (C : Nat → List UInt8) (n : Nat) (no : Int) : (∀ p ∈ (walkZ C n n [] [] no).1, p < n) ∧ (walkZ C n n [] [] no).1.length ≤ n := by
  unfold walkZ
  by_cases h : no < 0
  · rw [if_pos h]; simp
  · rw [if_neg h]
    exact walkC_ok C n n [] [] no.toNat (by simp) (by simp)
theorem Old.ok {C : Nat → List UInt8} {n : Nat} {no : Int} {old : List Nat} (h : Old C n no old) : (∀ p ∈ old, p < n) ∧ old.length ≤ n := by
  rcases h with ⟨_, rfl⟩ | ⟨_, t0, h⟩
  · simp
  · have := walkZ_ok C n no
    rw [h] at this
    exact this
theorem all_lt {C : Nat → List UInt8} {n : Nat} {old : List Nat} (need : Nat) (h : ∀ p ∈ old, p < n) : ∀ p ∈ allC C n old need, p < n := by
  intro p hp
  rcases List.mem_append.1 hp with hp | hp
  · exact h p (List.mem_of_mem_take hp)
  · exact (((some_is (m1C C old need) (need - (old.take need).length) n).2.2 p).1 hp).1
theorem all_len {C : Nat → List UInt8} {n : Nat} {old : List Nat} {need : Nat} (h : fitC C n old need) : (allC C n old need).length = need := by
  unfold allC moreC
  rw [List.length_append, (some_is (m1C C old need) (need - (old.take need).length) n).2.1, List.length_take]
  unfold fitC at h
  rw [List.length_take] at h
  omega

set_option maxRecDepth 100000 in
set_option maxHeartbeats 4000000 in
theorem had_calls (v : Value) {x : Sh} {k : VK} (no : Int) (old : List Nat) (w : World) (hx : rightS x = true) (hs : Still x k) (hv : IsVault w v k) (ho : Old (CV k) (PN x) no old) :
    Calls Tryz.prog 34 #[v, .int .i64 no] w fun e w' => ∃ vp, e = .returned (.tuple #[vp, .int .i64 0]) ∧ IsInts w' vp (natI old) ∧ Below w.heap.size w w' := by
  obtain ⟨A1, n1, c1, A2, n2, c2, dl, jr, sq, A7, n7, c7, rfl⟩ := hs.form8 hx hv
  rcases ho with ⟨rfl, rfl⟩ | ⟨h0, t0, hw⟩
  · go_enter Tryz.func34, Tryz.ntmps34
    go_wp2_with fail
    go_ret2
    exact ⟨_, rfl, IsInts.nil _, below_one _ _⟩
  · have hd0 : (no == (0 : Int)) = false := by simpa using h0
    have C1 := Lib.hid (fun W (hW : Below w.heap.size w W) => walk_calls _ no W hx hs (hv.below hW) _ hw)
    obtain ⟨n, hn⟩ : ∃ n, n = PN x := ⟨_, rfl⟩
    rw [← hn] at C1 ⊢
    obtain ⟨Y, hY, hb⟩ : ∃ Y, Y = w.alloc (.cells #[.slice A1 n1 c1, .slice A2 n2 c2, .bool false, .int .i64 dl, .int .i64 (n : Nat), .int .i64 jr, .int .i64 sq, .slice A7 n7 c7] 32) ∧ Below w.heap.size w Y := ⟨_, rfl, below_one _ _⟩
    have i0 : Y.heap[w.heap.size]? = some (.cells #[.slice A1 n1 c1, .slice A2 n2 c2, .bool false, .int .i64 dl, .int .i64 (n : Nat), .int .i64 jr, .int .i64 sq, .slice A7 n7 c7] 32 (0, 0)) := by rw [hY]; exact heap_alloc_new w _
    obtain ⟨⟨i0, i1, i2, i3, i4, i5, i6, i7⟩, _⟩ := box8 i0
    have HY := Lib.hid hY
    have HB := Lib.hid hb
    clear hn hY hb hv hx hs hw
    go_enter Tryz.func34, Tryz.ntmps34
    go_upto_region 1 with (fail)
    rw [← HY.out]
    clear HY
    go_wp2_with fail
    (with_reducible refine (C1.out _ HB.out).mono ?_)
    rintro e w1 ⟨vp, rfl, hi, hb1⟩
    have HI := Lib.hid hi
    have HB1 := Lib.hid (Dsk.below_trans' HB.out hb1)
    clear hi hb1 i0 i1 i2 i3 i4 i5 i6 i7
    go_wp2_with fail
    go_ret2
    exact ⟨_, rfl, HI.out, HB1.out⟩

set_option maxRecDepth 100000 in
set_option maxHeartbeats 16000000 in
theorem put_no (v : Value) {x : Sh} {k : VK} (no : Int) (old : List Nat) (t : List UInt8) (w : World) (hx : rightS x = true) (hs : Still x k) (hv : IsVault w v k) (ho : Old (CV k) (PN x) no old) (ht : t.length ≤ 100000) (hf : ¬ fitC (CV k) (PN x) old (needC t.length)) :
    Calls Tryz.prog 11 #[v, .int .i64 no, .string (strB t)] w fun e w' => ∃ v', e = .returned (.tuple #[v', .int .i64 0, .int .i64 7]) ∧ IsVault w' v' k ∧ Below w.heap.size w w' := by
  obtain ⟨A1, n1, c1, A2, n2, c2, dl, jr, sq, A7, n7, c7, rfl⟩ := hs.form8 hx hv
  have hx16 := (right_nat hx).2.2
  obtain ⟨ho1, ho2⟩ := ho.ok
  have hm0 := CV_len hs 0
  have hnd : 1 ≤ needC t.length ∧ needC t.length ≤ 1000 := ⟨need_pos _, by unfold needC; omega⟩
  have C1 := Lib.hid (fun W (hW : Below w.heap.size w W) => had_calls _ no old W hx hs (hv.below hW) ho)
  have C2 := Lib.hid (fun W (hW : Below w.heap.size w W) => read_zero _ W hx hs (hv.below hW))
  have C3 := Lib.hid (fun W => need_calls t.length W (by omega))
  have C4 := Lib.hid (fun W vo (hvo : IsInts W vo (natI old)) => (room_calls (CV k) (PN x) old (needC t.length) vo W hm0 (by omega) hvo (by omega) (fun p hp => by have := ho1 p hp; omega) hnd).mono fun e w' h => (⟨h.2.1 hf, h.2.2⟩ : e = .returned (.tuple #[.string ⟨#[]⟩, .slice none 0 0, .bool false]) ∧ Below W.heap.size W w'))
  have HV := Lib.hid hv
  obtain ⟨n, hn⟩ : ∃ n, n = PN x := ⟨_, rfl⟩
  obtain ⟨m0, hm⟩ : ∃ s, s = strB (CV k 0) := ⟨_, rfl⟩
  obtain ⟨nd, hndd⟩ : ∃ s, s = needC t.length := ⟨_, rfl⟩
  rw [← hn] at C1 C2 C4 HV ⊢
  rw [← hm] at C2 C4
  rw [← hndd] at C3 C4
  have hsz := strB_size t
  have ht2 : (strB t).size = t.length := hsz
  obtain ⟨Y, hY, hYb⟩ : ∃ Y, Y = (w.alloc (.cells #[.slice A1 n1 c1, .slice A2 n2 c2, .bool false, .int .i64 dl, .int .i64 (n : Nat), .int .i64 jr, .int .i64 sq, .slice A7 n7 c7] 32)).alloc (.cells #[.slice none 0 0, .slice none 0 0, .bool false, .int .i64 0, .int .i64 0, .int .i64 0, .int .i64 0, .slice none 0 0] 32) ∧ FB w Y #[.slice A1 n1 c1, .slice A2 n2 c2, .bool false, .int .i64 dl, .int .i64 (n : Nat), .int .i64 jr, .int .i64 sq, .slice A7 n7 c7] #[.slice none 0 0, .slice none 0 0, .bool false, .int .i64 0, .int .i64 0, .int .i64 0, .int .i64 0, .slice none 0 0] := ⟨_, rfl, FB.new w _⟩
  have HY := Lib.hid hY
  have HB := Lib.hid hYb
  obtain ⟨⟨i0, i1, i2, i3, i4, i5, i6, i7⟩, _⟩ := box8 hYb.a
  clear hsz hn hm hY hYb hv hx hs hx16 ho ho1 ho2 hm0 hnd hf hndd
  go_enter Tryz.func11, Tryz.ntmps11
  go_upto_region 1 with (fail)
  rw [← HY.out]
  clear HY
  go_wp2_with fail
  (with_reducible refine (C1.out _ HB.out.below).mono ?_)
  rintro e w1 ⟨vo, rfl, hvo, hb1⟩
  obtain ⟨OA, on, oc, rfl, hon, hoc⟩ := hvo.open_
  have HO := Lib.hid hvo
  have HB1 := Lib.hid (HB.out.more hb1)
  clear hb1 i0 i1 i2 i3 i4 i5 i6 i7 hon hoc hvo
  obtain ⟨⟨i0, i1, i2, i3, i4, i5, i6, i7⟩, _⟩ := box8 HB1.out.a
  go_wp2_with fail
  (with_reducible refine (C2.out _ HB1.out.below).mono ?_)
  rintro e w2 ⟨rfl, hb2⟩
  have HO2 := Lib.hid (HO.out.below hb2)
  have HB2 := Lib.hid (HB1.out.more hb2)
  clear hb2 i0 i1 i2 i3 i4 i5 i6 i7 HO HB1
  go_wp2_with fail
  have HT := Lib.hid (HB2.out.more (Below.refl _ _).drew)
  have HO := Lib.hid (HO2.out.below (Below.refl _ _).drew)
  obtain ⟨⟨i0, i1, i2, i3, i4, i5, i6, i7⟩, _⟩ := box8 HT.out.a
  go_region_with (first
    | (go_at_call 23; (with_reducible refine (C3.out _).mono ?_); rintro e wa ⟨rfl, rfl⟩)
    | (go_at_call 36; (with_reducible refine (C4.out _ _ HO.out).mono ?_); rintro e wa ⟨rfl, hBa⟩; (with_reducible replace HT := Lib.hid (HT.out.more hBa)); clear hBa; obtain ⟨⟨i0, i1, i2, i3, i4, i5, i6, i7⟩, _⟩ := box8 HT.out.a))
  all_goals
    obtain ⟨X, hX, hbX, hkX, hBX⟩ := box_store8 HT.out.z (.slice A1 n1 c1) (.slice A2 n2 c2) (.bool false) (.int .i64 dl) (.int .i64 (n : Nat)) (.int .i64 jr) (.int .i64 sq) (.slice A7 n7 c7)
    have HXX := Lib.hid hX
    have HX := Lib.hid (box8 hbX)
    have HFIN : Hid (IsVault X (.agg #[.slice A1 n1 c1, .slice A2 n2 c2, .bool false, .int .i64 dl, .int .i64 (n : Nat), .int .i64 jr, .int .i64 sq, .slice A7 n7 c7]) k ∧ Below w.heap.size w X) := Lib.hid ⟨(HV.out.below HT.out.below).other HT.out.z hkX, hBX _ _ HT.out.below (by omega)⟩
    obtain ⟨⟨z0, z1, z2, z3, z4, z5, z6, z7⟩, zf⟩ := box8 HT.out.z
    clear hX hbX hkX hBX
    go_wp2_with fail
    rw [HXX.out]
    clear i0 i1 i2 i3 i4 i5 i6 i7 z0 z1 z2 z3 z4 z5 z6 z7 zf
    obtain ⟨⟨z0, z1, z2, z3, z4, z5, z6, z7⟩, _⟩ := HX.out
    exact bodyPost_ret (v := .tuple #[.agg #[.slice A1 n1 c1, .slice A2 n2 c2, .bool false, .int .i64 dl, .int .i64 (n : Nat), .int .i64 jr, .int .i64 sq, .slice A7 n7 c7], .int .i64 0, .int .i64 7]) (by simp [results, Tryz.results11, go_sem, z0, z1, z2, z3, z4, z5, z6, z7]) rfl ⟨_, rfl, HFIN.out.1, HFIN.out.2⟩

set_option maxRecDepth 100000 in
set_option maxHeartbeats 16000000 in
theorem put_fit (v : Value) {x : Sh} {k : VK} (no : Int) (old : List Nat) (t : List UInt8) (w : World) (hx : rightS x = true) (hs : Still x k) (hv : IsVault w v k) (ho : Old (CV k) (PN x) no old) (ht : t.length ≤ 100000) (hf : fitC (CV k) (PN x) old (needC t.length)) :
    Calls Tryz.prog 11 #[v, .int .i64 no, .string (strB t)] w fun e w' => ∃ v', e = .returned (.tuple #[v', .int .i64 (((allC (CV k) (PN x) old (needC t.length)).getD 0 0 : Nat) : Int), .int .i64 0]) ∧ IsVault w' v' (putV k (PN x) old t) ∧ Below w.heap.size w w' := by
  obtain ⟨A1, n1, c1, A2, n2, c2, dl, jr, sq, A7, n7, c7, rfl⟩ := hs.form8 hx hv
  have hx16 := (right_nat hx).2.2
  obtain ⟨ho1, ho2⟩ := ho.ok
  have hm0 := CV_len hs 0
  have hnd : 1 ≤ needC t.length ∧ needC t.length ≤ 1000 := ⟨need_pos _, by unfold needC; omega⟩
  have C1 := Lib.hid (fun W (hW : Below w.heap.size w W) => had_calls _ no old W hx hs (hv.below hW) ho)
  have C2 := Lib.hid (fun W (hW : Below w.heap.size w W) => read_zero _ W hx hs (hv.below hW))
  have C3 := Lib.hid (fun W => need_calls t.length W (by omega))
  have C4 := Lib.hid (fun W vo (hvo : IsInts W vo (natI old)) => (room_calls (CV k) (PN x) old (needC t.length) vo W hm0 (by omega) hvo (by omega) (fun p hp => by have := ho1 p hp; omega) hnd).mono fun e w' h => (⟨h.1 hf, h.2.2⟩ : (∃ vp, e = .returned (.tuple #[.string (strB (m2C (CV k) (PN x) old (needC t.length))), vp, .bool true]) ∧ IsInts w' vp (natI (allC (CV k) (PN x) old (needC t.length)))) ∧ Below W.heap.size W w'))
  have hal := all_len hf
  have hlt := all_lt (C := CV k) (needC t.length) ho1
  have hst := (wrV_is hx hs hlt t (needC t.length) (by omega)).1
  have C5 := Lib.hid (fun W vp (hW : Below w.heap.size w W) (h : IsInts W vp (natI (allC (CV k) (PN x) old (needC t.length)))) => cwrite_calls _ vp (allC (CV k) (PN x) old (needC t.length)) t W hx hs (hv.below hW) h hlt (by omega) (by omega))
  rw [hal] at C5
  have hml : (m2C (CV k) (PN x) old (needC t.length)).length ≤ 208 := by unfold m2C; rw [Bit.markL_len, m1_len]; omega
  have C6 := Lib.hid (fun W vv (h : IsVault W vv (wrV k (allC (CV k) (PN x) old (needC t.length)) t (needC t.length))) => write_zero vv (m2C (CV k) (PN x) old (needC t.length)) W hx hst h hml)
  have HF5 := Lib.hid (fun (w : World) (v : Value) (h : IsVault w v (wrV k (allC (CV k) (PN x) old (needC t.length)) t (needC t.length))) => hst.form8 hx h)
  have HE : Hid ((writeV (wrV k (allC (CV k) (PN x) old (needC t.length)) t (needC t.length)) 0 (m2C (CV k) (PN x) old (needC t.length))).1 = putV k (PN x) old t) := Lib.hid rfl
  have HF6 := Lib.hid (fun (w : World) (v : Value) (h : IsVault w v (putV k (PN x) old t)) => ((hst.write hx (k := 0) (data := m2C (CV k) (PN x) old (needC t.length)) (by omega) hml).2.1).form8 hx h)
  obtain ⟨pg, hpg⟩ : ∃ q, (allC (CV k) (PN x) old (needC t.length))[0]? = some q := ⟨_, List.getElem?_eq_getElem (by omega)⟩
  rw [getD_at hpg]
  have HPG := Lib.hid (natI_at hpg)
  have HAL : Hid (0 < (natI (allC (CV k) (PN x) old (needC t.length))).length) := Lib.hid (by rw [natI_len]; omega)
  obtain ⟨m2, hm2⟩ : ∃ s, s = strB (m2C (CV k) (PN x) old (needC t.length)) := ⟨_, rfl⟩
  rw [← hm2] at C4 C6
  obtain ⟨AL, hAL⟩ : ∃ l, l = allC (CV k) (PN x) old (needC t.length) := ⟨_, rfl⟩
  rw [← hAL] at C4 C5 C6 HF5 HPG HAL HE
  clear hal hlt hst hml hpg hm2 hAL
  have HV := Lib.hid hv
  obtain ⟨n, hn⟩ : ∃ n, n = PN x := ⟨_, rfl⟩
  obtain ⟨m0, hm⟩ : ∃ s, s = strB (CV k 0) := ⟨_, rfl⟩
  obtain ⟨nd, hndd⟩ : ∃ s, s = needC t.length := ⟨_, rfl⟩
  rw [← hn] at C1 C2 C4 HV C5 C6 HF5 HF6 HE ⊢
  rw [← hm] at C2 C4
  rw [← hndd] at C3 C4 C5 C6 HF5 HE
  have hsz := strB_size t
  have ht2 : (strB t).size = t.length := hsz
  obtain ⟨Y, hY, hYb⟩ : ∃ Y, Y = (w.alloc (.cells #[.slice A1 n1 c1, .slice A2 n2 c2, .bool false, .int .i64 dl, .int .i64 (n : Nat), .int .i64 jr, .int .i64 sq, .slice A7 n7 c7] 32)).alloc (.cells #[.slice none 0 0, .slice none 0 0, .bool false, .int .i64 0, .int .i64 0, .int .i64 0, .int .i64 0, .slice none 0 0] 32) ∧ FB w Y #[.slice A1 n1 c1, .slice A2 n2 c2, .bool false, .int .i64 dl, .int .i64 (n : Nat), .int .i64 jr, .int .i64 sq, .slice A7 n7 c7] #[.slice none 0 0, .slice none 0 0, .bool false, .int .i64 0, .int .i64 0, .int .i64 0, .int .i64 0, .slice none 0 0] := ⟨_, rfl, FB.new w _⟩
  have HY := Lib.hid hY
  have HB := Lib.hid hYb
  obtain ⟨⟨i0, i1, i2, i3, i4, i5, i6, i7⟩, _⟩ := box8 hYb.a
  clear hsz hn hm hY hYb hv hx hs hx16 ho ho1 ho2 hm0 hnd hf hndd
  go_enter Tryz.func11, Tryz.ntmps11
  go_upto_region 1 with (fail)
  rw [← HY.out]
  clear HY
  go_wp2_with fail
  (with_reducible refine (C1.out _ HB.out.below).mono ?_)
  rintro e w1 ⟨vo, rfl, hvo, hb1⟩
  obtain ⟨OA, on, oc, rfl, hon, hoc⟩ := hvo.open_
  have HO := Lib.hid hvo
  have HB1 := Lib.hid (HB.out.more hb1)
  clear hb1 i0 i1 i2 i3 i4 i5 i6 i7 hon hoc hvo
  obtain ⟨⟨i0, i1, i2, i3, i4, i5, i6, i7⟩, _⟩ := box8 HB1.out.a
  go_wp2_with fail
  (with_reducible refine (C2.out _ HB1.out.below).mono ?_)
  rintro e w2 ⟨rfl, hb2⟩
  have HO2 := Lib.hid (HO.out.below hb2)
  have HB2 := Lib.hid (HB1.out.more hb2)
  clear hb2 i0 i1 i2 i3 i4 i5 i6 i7 HO HB1
  go_wp2_with fail
  have HT := Lib.hid (HB2.out.more (Below.refl _ _).drew)
  have HO := Lib.hid (HO2.out.below (Below.refl _ _).drew)
  obtain ⟨⟨i0, i1, i2, i3, i4, i5, i6, i7⟩, _⟩ := box8 HT.out.a
  go_region_with (first
    | (go_at_call 23; (with_reducible refine (C3.out _).mono ?_); rintro e wa ⟨rfl, rfl⟩)
    | (go_at_call 36; (with_reducible refine (C4.out _ _ HO.out).mono ?_); rintro e wa ⟨⟨vp, rfl, hvp⟩, hBa⟩; (with_reducible replace HT := Lib.hid (HT.out.more hBa)); obtain ⟨PA, pn, pc, rfl, hpn, hpc⟩ := hvp.open_; have HP := Lib.hid hvp; have HPN := Lib.hid hpn; clear hvp hBa hpn hpc; obtain ⟨⟨i0, i1, i2, i3, i4, i5, i6, i7⟩, _⟩ := box8 HT.out.a))
  all_goals
    go_wp2_with fail
    (with_reducible refine (C5.out _ _ HT.out.below HP.out).mono ?_)
    rintro e w4 ⟨v4, rfl, hv4, hb4⟩
    obtain ⟨qA1, qn1, qc1, qA2, qn2, qc2, qdl, qjr, qsq, qA7, qn7, qc7, rfl⟩ := HF5.out _ _ hv4
    have HB4 := Lib.hid (HT.out.more hb4)
    have HP4 := Lib.hid (HP.out.below hb4)
    have HV4 := Lib.hid hv4
    clear hb4 hv4 i0 i1 i2 i3 i4 i5 i6 i7
    obtain ⟨g, hg⟩ : ∃ g, g = w4.heap.size := ⟨_, rfl⟩
    obtain ⟨Y5, hY5⟩ : ∃ Y, Y = w4.alloc (.cells #[.slice qA1 qn1 qc1, .slice qA2 qn2 qc2, .bool false, .int .i64 qdl, .int .i64 (n : Nat), .int .i64 qjr, .int .i64 qsq, .slice qA7 qn7 qc7] 32) := ⟨_, rfl⟩
    have hb5 : Below w4.heap.size w4 Y5 := by rw [hY5]; exact below_one _ _
    have hg5 : Y5.heap[g]? = some (.cells #[.slice qA1 qn1 qc1, .slice qA2 qn2 qc2, .bool false, .int .i64 qdl, .int .i64 (n : Nat), .int .i64 qjr, .int .i64 qsq, .slice qA7 qn7 qc7] 32 (0, 0)) := by rw [hY5, hg]; exact heap_alloc_new w4 _
    have HG5 := Lib.hid hg5
    have HB5 := Lib.hid (HB4.out.more hb5)
    have HP5 := Lib.hid (HP4.out.below hb5)
    have HV5 := Lib.hid (HV4.out.below hb5)
    have HGG : Hid (w.heap.size + 1 < g) := Lib.hid (by have := (Array.getElem?_eq_some_iff.1 HB4.out.z).1; omega)
    have HY5 := Lib.hid hY5
    have HG := Lib.hid hg
    obtain ⟨⟨j0, j1, j2, j3, j4, j5, j6, j7⟩, jf⟩ := box8 hg5
    clear hY5 hg hb5 hg5
    go_upto_region 11 with (fail)
    rw [← HY5.out, ← HG.out]
    clear HY5
    go_wp2_with fail
    (with_reducible refine (C6.out _ _ HV5.out).mono ?_)
    rintro e w6 ⟨v6, rfl, hv6, hb6⟩
    rw [HE.out] at hv6
    obtain ⟨rA1, rn1, rc1, rA2, rn2, rc2, rdl, rjr, rsq, rA7, rn7, rc7, rfl⟩ := HF6.out _ _ hv6
    have hg6 := box_kept _ HG5.out hb6
    obtain ⟨X, hX, hbX, hkX, hBX⟩ := box_store8 hg6 (.slice rA1 rn1 rc1) (.slice rA2 rn2 rc2) (.bool false) (.int .i64 rdl) (.int .i64 (n : Nat)) (.int .i64 rjr) (.int .i64 rsq) (.slice rA7 rn7 rc7)
    have HXX := Lib.hid hX
    have HGX := Lib.hid hbX
    have HZX : Hid (X.heap[w.heap.size + 1]? = some (.cells #[.slice none 0 0, .slice none 0 0, .bool false, .int .i64 0, .int .i64 0, .int .i64 0, .int .i64 0, .slice none 0 0] 32 (0, 0))) := Lib.hid ((hkX _ (by have := HGG.out; omega)).trans (HB5.out.more hb6).z)
    have HVX := Lib.hid (hv6.other hg6 hkX)
    have HBX := Lib.hid (hBX _ _ (HB5.out.more hb6).below (by have := HGG.out; omega))
    have HPX : Hid (IsInts X (.slice PA pn pc) (natI AL)) := Lib.hid (SL.other (HP5.out.below hb6) hg6 (by decide) hkX)
    obtain ⟨⟨k0, k1, k2, k3, k4, k5, k6, k7⟩, kf⟩ := box8 hg6
    clear hX hbX hkX hBX hv6 hb6 hg6 j0 j1 j2 j3 j4 j5 j6 j7 jf
    go_upto_region 14 with (fail)
    rw [HXX.out]
    clear k0 k1 k2 k3 k4 k5 k6 k7 kf
    go_wp2_with fail
    obtain ⟨X2, hX2, hbX2, hkX2, hBX2⟩ := box_store8 HZX.out (.slice rA1 rn1 rc1) (.slice rA2 rn2 rc2) (.bool false) (.int .i64 rdl) (.int .i64 (n : Nat)) (.int .i64 rjr) (.int .i64 rsq) (.slice rA7 rn7 rc7)
    have HFIN : Hid (IsVault X2 (.agg #[.slice rA1 rn1 rc1, .slice rA2 rn2 rc2, .bool false, .int .i64 rdl, .int .i64 (n : Nat), .int .i64 rjr, .int .i64 rsq, .slice rA7 rn7 rc7]) (putV k n old t) ∧ Below w.heap.size w X2) := Lib.hid ⟨HVX.out.other HZX.out hkX2, hBX2 _ _ HBX.out (by omega)⟩
    have HX2 := Lib.hid (box8 hbX2)
    have HXX2 := Lib.hid hX2
    obtain ⟨⟨j0, j1, j2, j3, j4, j5, j6, j7⟩, _⟩ := box8 HGX.out
    obtain ⟨⟨z0, z1, z2, z3, z4, z5, z6, z7⟩, zf⟩ := box8 HZX.out
    obtain ⟨PA2, pn2, pc2, hpe, hpn2, hpc2, hprd⟩ := HPX.out.open_
    injection hpe with hpe1 hpe2 hpe3
    subst hpe1 hpe2 hpe3
    obtain ⟨pb, po, rfl, y0⟩ := int_at hprd (Below.refl _ _) HPG.out (by have := HAL.out; omega)
    rw [Nat.add_zero] at y0
    have hpos : 0 < pn := by have := HAL.out; omega
    have hpb : pb ≠ w.heap.size + 1 := fun e => by
      obtain ⟨b', o', cur, fr, eq, hbb, _⟩ := hprd.2 hpos
      injection eq with eq
      injection eq with eq1 eq2
      subst eq1
      rw [e, HZX.out] at hbb
      cases hbb
    have y1 : X2.cell? ⟨pb, po, none⟩ = some (.int .i64 (pg : Nat)) := by
      rw [← y0]
      unfold World.cell?
      rw [hkX2 _ hpb]
    have HY1 := Lib.hid y1
    clear y1 hX2 hbX2 hkX2 hBX2 hpn2 hpc2 hprd
    go_region
    rw [HXX2.out]
    clear j0 j1 j2 j3 j4 j5 j6 j7 z0 z1 z2 z3 z4 z5 z6 z7 zf y0
    obtain ⟨⟨z0, z1, z2, z3, z4, z5, z6, z7⟩, _⟩ := HX2.out
    go_wp2_with fail
    exact bodyPost_ret (v := .tuple #[.agg #[.slice rA1 rn1 rc1, .slice rA2 rn2 rc2, .bool false, .int .i64 rdl, .int .i64 (n : Nat), .int .i64 rjr, .int .i64 rsq, .slice rA7 rn7 rc7], .int .i64 (pg : Nat), .int .i64 0]) (by simp [results, Tryz.results11, go_sem, z0, z1, z2, z3, z4, z5, z6, z7]) rfl ⟨_, rfl, HFIN.out.1.below (Below.refl _ _).drew, HFIN.out.2.drew⟩
end Go.Proofs.YtgeiemccjionpaaGreat.Chn
