/- Contracts and plain mathematics that the statement's proof wants: no statement is proved here, nothing is assumed. -/
import Derived.Test.YtgeiemccjionpaaGreatMg31
import Derived.Test.YtgeiemccjionpaaGreatMg44
import Derived.Test.YtgeiemccjionpaaGreatMg49
/- HFreeN -/
namespace Go.Proofs.YtgeiemccjionpaaGreat.Chn
open Go.RowKit Go.Sort
open Dsk Vlt
open Bit (Sps OwnS SBox spsC own_snoc news2 one2)

theorem NIn.below {w w' : World} {A : Option Addr} {n : Nat} {l : List Int} (h : NIn w A n l) (hb : Below w.heap.size w w') : NIn w' A n l :=
  ⟨h.1, h.2.1, fun hp => by
    obtain ⟨b, off, e, hl, hc⟩ := h.2.2 hp
    exact ⟨b, off, e, by have := hb.size; omega, fun j a hj => (hb.cell (p := ⟨b, _, none⟩) hl).trans (hc j a hj)⟩⟩
theorem NIn.at_ {w w' : World} {A : Option Addr} {n : Nat} {l : List Int} (h : NIn w A n l) (hb : Below w.heap.size w w') {k : Nat} {o : Int} (ho : l[k]? = some o) :
    ∃ b off, A = some ⟨b, off, none⟩ ∧ w'.cell? ⟨b, off + k, none⟩ = some (.int .i64 o) := by
  have hl : 0 < n := by have := (List.getElem?_eq_some_iff.1 ho).1; have := h.1; omega
  obtain ⟨b, off, e, _, hc⟩ := (h.below hb).2.2 hl
  exact ⟨b, off, e, hc k o ho⟩

set_option maxRecDepth 100000 in
set_option maxHeartbeats 4000000 in
theorem runsN_calls (A : Option Addr) (n c : Nat) (l : List Int) (w : World) (hv : NIn w A n l) (hl : l.length ≤ 1000) :
    Calls Tryz.prog 51 #[.slice A n c] w fun e w' => ∃ v', e = .returned v' ∧ Sps w' v' (onesI l) ∧ Below w.heap.size w w' := by
  have hr := hv
  have hn : n = l.length := hv.1.symm
  obtain ⟨i1, hi0, hz0, hz1, hz2⟩ := info_parts Bit.info26
  have hn1 : n ≤ 1000 := by omega
  obtain ⟨Z, hZ, hmk⟩ := make_sps n (by omega) w
  obtain ⟨Y, hY⟩ : ∃ Y, Y = w.alloc (.cells Z 79) := ⟨_, rfl⟩
  have hown : OwnS w.heap.size Y (.slice (some ⟨w.heap.size, 0, none⟩) 0 n) [] := by
    have := World.ownsRow_made (base := w.heap.size) (e := 79) (size := 2) w Z n (by omega) (by unfold maxLen; omega) hZ
    rw [← hY] at this
    exact this
  have HOWN := Lib.hid hown
  have HBEL : Hid (Below w.heap.size w Y) := Lib.hid (by rw [hY]; exact below_one _ _)
  rw [← hY] at hmk
  have HR := Lib.hid hr
  have HN := Lib.hid hn
  clear hr hn hown hY hZ hv hl
  go_enter Tryz.func51, Tryz.ntmps51
  go_wp2_with fail
  clear hmk
  go_loopw [3, 11] (fun s3 s11 wr => ∃ (i : Nat) (Z1 : Option Addr) (z1 : Nat), i ≤ n ∧ s11 = .int .i64 i ∧ s3 = .slice Z1 i z1 ∧ OwnS w.heap.size wr (.slice Z1 i z1) (onesI (l.take i)) ∧ Below w.heap.size w wr) (fun _ u _ => n - (intOf u).toNat)
  case atStart => exact ⟨0, _, _, Nat.zero_le _, rfl, rfl, HOWN.out, HBEL.out⟩
  case round =>
    obtain ⟨i, Z1, z1, hi, rfl, rfl, how, hbr⟩ := hrel
    have HBR := Lib.hid hbr
    have HO := Lib.hid how
    clear how
    by_cases hlt : i < n
    · obtain ⟨o, ho⟩ : ∃ o, l[i]? = some o := ⟨_, List.getElem?_eq_getElem (by have := HN.out; omega)⟩
      obtain ⟨b, off, rfl, x0⟩ := HR.out.at_ hbr ho
      have hi1 : (0 : Int) ≤ (i : Int) := by omega
      have hi2 : (i : Int) < (n : Int) := by omega
      have HNX := Lib.hid (ones_take ho)
      have HLE := Lib.hid (take_len HN.out hi)
      have HOI : Hid (wr.ownsRow w.heap.size 79 2 (.slice Z1 i z1) i (spsC (onesI (l.take i)))) := Lib.hid (by have := HO.out; unfold OwnS at this; rw [HLE.out] at this; exact this)
      have hBs : w.heap.size ≤ wr.heap.size := hbr.size
      clear hbr ho
      go_wp2_with (at_builtin; refine wpList_append_own_at _ (by rfl) (.tmp 15) (.tmp 18) 80 (by rfl) w.heap.size 79 i1 _ 2 16 Tryz.underlying80 hi0 hz0 hz1 hz2 (by rfl) (by omega) _ i (spsC (onesI (l.take i))) (by rfl) (by exact World.ownsRow.alloc HOI.out _) ⟨wr.heap.size, 0, none⟩ 1 1 [.int .i64 o, .int .i64 1] (by rfl) (by rfl) (by exact news2 (o, 1) rfl) (one2 (o, 1)) (Nat.le_trans (show i + 1 ≤ 1000000 by omega) (by decide)) (by omega) (by simp; omega) ?_; intro v' w9 hown' hgrow' hnil' hat')
      have ho2 := own_snoc (l := onesI (l.take i)) (x := (o, 1)) (by rw [HLE.out]; exact hown')
      obtain ⟨A2, c2, hA⟩ := ho2.sps.form
      have hle2 : (onesI (l.take i) ++ [(o, 1)]).length = i + 1 := by rw [List.length_append, HLE.out]; rfl
      rw [hle2] at hA
      have HO2 : Hid (OwnS w.heap.size w9 v' (onesI (l.take (i + 1)))) := Lib.hid (by rw [HNX.out]; exact ho2)
      have HB2 : Hid (Below w.heap.size w w9) := Lib.hid (below_grown (HBR.out.alloc hBs _) hgrow' HO.out.ge (by simp; omega))
      clear ho2 hown' hgrow' hnil' hat' hle2
      subst hA
      go_wp2_with fail
      exact ⟨⟨i + 1, A2, c2, by omega, by go_num, rfl, HO2.out, HB2.out⟩, by simp [intOf]; omega⟩
    · obtain rfl : i = n := by omega
      have HT : Hid (l.take i = l) := Lib.hid (by rw [HN.out]; exact List.take_length)
      clear hbr
      go_wp2_with fail
      go_ret
      exact ⟨_, rfl, by have := HO.out.sps; rw [HT.out] at this; exact this, HBR.out⟩

set_option maxRecDepth 100000 in
set_option maxHeartbeats 4000000 in
theorem spansN_calls (A : Option Addr) (n c : Nat) (l : List Int) (w : World) (hv : NIn w A n l) (hl : l.length ≤ 1000) :
    Calls Tryz.prog 40 #[.slice A n c] w fun e w' => ∃ v', e = .returned v' ∧ Sps w' v' (onesI l) ∧ Below w.heap.size w w' := by
  have hr := hv
  have hn : n = l.length := hv.1.symm
  obtain ⟨i1, hi0, hz0, hz1, hz2⟩ := info_parts Bit.info26
  have hn1 : n ≤ 1000 := by omega
  have HR := Lib.hid hr
  have HN := Lib.hid hn
  clear hr hn hv hl
  go_enter Tryz.func40, Tryz.ntmps40
  go_wp2_with fail
  go_loopw [3, 4] (fun s3 s11 wr => ∃ (i : Nat) (Z1 : Option Addr) (z1 : Nat), i ≤ n ∧ s11 = .int .i64 i ∧ s3 = .slice Z1 i z1 ∧ OwnS w.heap.size wr (.slice Z1 i z1) (onesI (l.take i)) ∧ Below w.heap.size w wr) (fun _ u _ => n - (intOf u).toNat)
  case atStart => exact ⟨0, _, _, Nat.zero_le _, rfl, rfl, OwnS.nil _ _, Below.refl _ _⟩
  case round =>
    obtain ⟨i, Z1, z1, hi, rfl, rfl, how, hbr⟩ := hrel
    have HBR := Lib.hid hbr
    have HO := Lib.hid how
    clear how
    by_cases hlt : i < n
    · obtain ⟨o, ho⟩ : ∃ o, l[i]? = some o := ⟨_, List.getElem?_eq_getElem (by have := HN.out; omega)⟩
      obtain ⟨b, off, rfl, x0⟩ := HR.out.at_ hbr ho
      have hi1 : (0 : Int) ≤ (i : Int) := by omega
      have hi2 : (i : Int) < (n : Int) := by omega
      have HNX := Lib.hid (ones_take ho)
      have HLE := Lib.hid (take_len HN.out hi)
      have HOI : Hid (wr.ownsRow w.heap.size 79 2 (.slice Z1 i z1) i (spsC (onesI (l.take i)))) := Lib.hid (by have := HO.out; unfold OwnS at this; rw [HLE.out] at this; exact this)
      have hBs : w.heap.size ≤ wr.heap.size := hbr.size
      clear hbr ho
      go_wp2_with (at_builtin; refine wpList_append_own_at _ (by rfl) (.tmp 11) (.tmp 17) 80 (by rfl) w.heap.size 79 i1 _ 2 16 Tryz.underlying80 hi0 hz0 hz1 hz2 (by rfl) (by omega) _ i (spsC (onesI (l.take i))) (by rfl) (by exact World.ownsRow.alloc HOI.out _) ⟨wr.heap.size, 0, none⟩ 1 1 [.int .i64 o, .int .i64 1] (by rfl) (by rfl) (by exact news2 (o, 1) rfl) (one2 (o, 1)) (Nat.le_trans (show i + 1 ≤ 1000000 by omega) (by decide)) (by omega) (by simp; omega) ?_; intro v' w9 hown' hgrow' hnil' hat')
      have ho2 := own_snoc (l := onesI (l.take i)) (x := (o, 1)) (by rw [HLE.out]; exact hown')
      obtain ⟨A2, c2, hA⟩ := ho2.sps.form
      have hle2 : (onesI (l.take i) ++ [(o, 1)]).length = i + 1 := by rw [List.length_append, HLE.out]; rfl
      rw [hle2] at hA
      have HO2 : Hid (OwnS w.heap.size w9 v' (onesI (l.take (i + 1)))) := Lib.hid (by rw [HNX.out]; exact ho2)
      have HB2 : Hid (Below w.heap.size w w9) := Lib.hid (below_grown (HBR.out.alloc hBs _) hgrow' HO.out.ge (by simp; omega))
      clear ho2 hown' hgrow' hnil' hat' hle2
      subst hA
      go_wp2_with fail
      exact ⟨⟨i + 1, A2, c2, by omega, by go_num, rfl, HO2.out, HB2.out⟩, by simp [intOf]; omega⟩
    · obtain rfl : i = n := by omega
      have HT : Hid (l.take i = l) := Lib.hid (by rw [HN.out]; exact List.take_length)
      clear hbr
      go_wp2_with fail
      go_ret
      exact ⟨_, rfl, by have := HO.out.sps; rw [HT.out] at this; exact this, HBR.out⟩
set_option maxRecDepth 100000 in
set_option maxHeartbeats 8000000 in
theorem freeN_calls (v : Value) (P : Option Addr) (pn pc : Nat) {x : Sh} {k : VK} (l : List Int) (w : World) (hx : rightS x = true) (hs : Still x k) (hv : IsVault w v k) (hl : NIn w P pn l) (hln : l.length ≤ 1000) (hr : IR l) :
    Calls Tryz.prog 21 #[v, .slice P pn pc] w fun e w' => ∃ v', e = .returned (.tuple #[v', .int .i64 0]) ∧ IsVault w' v' (freeV k l) ∧ Below w.heap.size w w' := by
  obtain ⟨A1, n1, c1, A2, n2, c2, dl, jr, sq, A7, n7, c7, rfl⟩ := hs.form8 hx hv
  have hx16 := (right_nat hx).2.2
  have hpn := hl.1
  have hm0 := CV_len hs 0
  have C0 := Lib.hid (fun W (hW : Below w.heap.size w W) => read_zero _ W hx hs (hv.below hW))
  have C1 := Lib.hid (fun W (hW : Below w.heap.size w W) => runsN_calls P pn pc l W (hl.below hW) hln)
  have C2 := Lib.hid (fun W vr (hr2 : Sps W vr (onesI l)) => cmark_calls (CV k 0) false vr (onesI l) W (by omega) hr2 (by rw [ones_len]; exact hln) hr.ones)
  have C3 := Lib.hid (fun W (hW : Below w.heap.size w W) => write_zero _ (Bit.markL (CV k 0) false (onesI l)) W hx hs (hv.below hW) (by rw [Bit.markL_len]; omega))
  have HF := Lib.hid (fun (w : World) (v : Value) (h : IsVault w v (freeV k l)) => (freeV_is hx hs l).1.form8 hx h)
  obtain ⟨n, hn⟩ : ∃ n, n = PN x := ⟨_, rfl⟩
  obtain ⟨m0, hm⟩ : ∃ m, m = strB (CV k 0) := ⟨_, rfl⟩
  obtain ⟨m1, hm1⟩ : ∃ m, m = strB (Bit.markL (CV k 0) false (onesI l)) := ⟨_, rfl⟩
  have HE : Hid ((writeV k 0 (Bit.markL (CV k 0) false (onesI l))).1 = freeV k l) := Lib.hid rfl
  rw [← hn] at C0 C3 HF ⊢
  rw [← hm] at C0 C2
  rw [← hm1] at C2 C3
  obtain ⟨Y, hY, hYb⟩ : ∃ Y, Y = (w.alloc (.cells #[.slice A1 n1 c1, .slice A2 n2 c2, .bool false, .int .i64 dl, .int .i64 (n : Nat), .int .i64 jr, .int .i64 sq, .slice A7 n7 c7] 32)).alloc (.cells #[.slice none 0 0, .slice none 0 0, .bool false, .int .i64 0, .int .i64 0, .int .i64 0, .int .i64 0, .slice none 0 0] 32) ∧ FB w Y #[.slice A1 n1 c1, .slice A2 n2 c2, .bool false, .int .i64 dl, .int .i64 (n : Nat), .int .i64 jr, .int .i64 sq, .slice A7 n7 c7] #[.slice none 0 0, .slice none 0 0, .bool false, .int .i64 0, .int .i64 0, .int .i64 0, .int .i64 0, .slice none 0 0] := ⟨_, rfl, FB.new w _⟩
  have HY := Lib.hid hY
  have HB := Lib.hid hYb
  obtain ⟨⟨i0, i1, i2, i3, i4, i5, i6, i7⟩, _⟩ := box8 hYb.a
  clear hn hm hm1 hY hYb hv hx hs hl hr hm0 hx16 hpn
  go_enter Tryz.func21, Tryz.ntmps21
  go_upto_region 1 with (fail)
  rw [← HY.out]
  clear HY
  go_wp2_with fail
  (with_reducible refine (C0.out _ HB.out.below).mono ?_)
  rintro e w1 ⟨rfl, hb1⟩
  have HB1 := Lib.hid (HB.out.more hb1)
  clear hb1 i0 i1 i2 i3 i4 i5 i6 i7
  go_wp2_with fail
  have HT := Lib.hid (HB1.out.more (Below.refl _ _).drew)
  obtain ⟨⟨i0, i1, i2, i3, i4, i5, i6, i7⟩, _⟩ := box8 HT.out.a
  obtain ⟨⟨z0, z1, z2, z3, z4, z5, z6, z7⟩, zf⟩ := box8 HT.out.z
  go_region_with (first
    | (go_at_call 51; (with_reducible refine (C1.out _ HT.out.below).mono ?_); rintro e wa ⟨vr, rfl, hsr, hBa⟩; (with_reducible replace HT := Lib.hid (HT.out.more hBa)); obtain ⟨RA, rc, rfl⟩ := hsr.form; have HS := Lib.hid hsr; clear hsr hBa; obtain ⟨⟨i0, i1, i2, i3, i4, i5, i6, i7⟩, _⟩ := box8 HT.out.a; obtain ⟨⟨z0, z1, z2, z3, z4, z5, z6, z7⟩, zf⟩ := box8 HT.out.z)
    | (go_at_call 50; (with_reducible refine (C2.out _ _ HS.out).mono ?_); rintro e wa ⟨rfl, hBa⟩; (with_reducible replace HT := Lib.hid (HT.out.more hBa)); clear hBa; obtain ⟨⟨i0, i1, i2, i3, i4, i5, i6, i7⟩, _⟩ := box8 HT.out.a; obtain ⟨⟨z0, z1, z2, z3, z4, z5, z6, z7⟩, zf⟩ := box8 HT.out.z)
    | (go_at_call 38; (with_reducible refine (C3.out _ HT.out.below).mono ?_); rintro e wa ⟨v', rfl, hv', hBa⟩; (with_reducible replace HT := Lib.hid (HT.out.more hBa)); rw [HE.out] at hv'; obtain ⟨qA1, qn1, qc1, qA2, qn2, qc2, qdl, qjr, qsq, qA7, qn7, qc7, rfl⟩ := HF.out _ _ hv'; have HV := Lib.hid hv'; clear hv' hBa; obtain ⟨⟨i0, i1, i2, i3, i4, i5, i6, i7⟩, _⟩ := box8 HT.out.a; obtain ⟨⟨z0, z1, z2, z3, z4, z5, z6, z7⟩, zf⟩ := box8 HT.out.z))
  all_goals
    obtain ⟨X, hX, hbX, hkX, hBX⟩ := box_store8 HT.out.z (.slice qA1 qn1 qc1) (.slice qA2 qn2 qc2) (.bool false) (.int .i64 qdl) (.int .i64 (n : Nat)) (.int .i64 qjr) (.int .i64 qsq) (.slice qA7 qn7 qc7)
    rw [hX]
    have HX := Lib.hid (box8 hbX)
    have HFIN : Hid (IsVault X (.agg #[.slice qA1 qn1 qc1, .slice qA2 qn2 qc2, .bool false, .int .i64 qdl, .int .i64 (n : Nat), .int .i64 qjr, .int .i64 qsq, .slice qA7 qn7 qc7]) (freeV k l) ∧ Below w.heap.size w X) := Lib.hid ⟨HV.out.other HT.out.z hkX, hBX _ _ HT.out.below (by omega)⟩
    clear hX hbX hkX hBX i0 i1 i2 i3 i4 i5 i6 i7 zf z0 z1 z2 z3 z4 z5 z6 z7
    obtain ⟨⟨z0, z1, z2, z3, z4, z5, z6, z7⟩, _⟩ := HX.out
    go_wp2_with fail
    exact bodyPost_ret (v := .tuple #[.agg #[.slice qA1 qn1 qc1, .slice qA2 qn2 qc2, .bool false, .int .i64 qdl, .int .i64 (n : Nat), .int .i64 qjr, .int .i64 qsq, .slice qA7 qn7 qc7], .int .i64 0]) (by simp [results, Tryz.results21, go_sem, z0, z1, z2, z3, z4, z5, z6, z7]) rfl ⟨_, rfl, HFIN.out.1, HFIN.out.2⟩

set_option maxRecDepth 100000 in
set_option maxHeartbeats 8000000 in
theorem rfreeN_calls (v : Value) (P : Option Addr) (pn pc : Nat) {x : Sh} {k : VK} (l : List Int) (w : World) (hx : rightS x = true) (hs : Still x k) (hv : IsVault w v k) (hl : NIn w P pn l) (hln : l.length ≤ 1000) (hr : IR l) :
    Calls Tryz.prog 22 #[v, .slice P pn pc] w fun e w' => ∃ v', e = .returned (.tuple #[v', .int .i64 0]) ∧ IsVault w' v' (freeV k l) ∧ Below w.heap.size w w' := by
  obtain ⟨A1, n1, c1, A2, n2, c2, dl, jr, sq, A7, n7, c7, rfl⟩ := hs.form8 hx hv
  have hx16 := (right_nat hx).2.2
  have hpn := hl.1
  have hm0 := CV_len hs 0
  have C0 := Lib.hid (fun W (hW : Below w.heap.size w W) => rread_zero _ W hx hs (hv.below hW))
  have C1 := Lib.hid (fun W (hW : Below w.heap.size w W) => spansN_calls P pn pc l W (hl.below hW) hln)
  have C2 := Lib.hid (fun W vr (hr2 : Sps W vr (onesI l)) => crmark_calls (CV k 0) false vr (onesI l) W (by omega) hr2 (by rw [ones_len]; exact hln) hr.ones)
  have C3 := Lib.hid (fun W (hW : Below w.heap.size w W) => rwrite_zero _ (Bit.markL (CV k 0) false (onesI l)) W hx hs (hv.below hW) (by rw [Bit.markL_len]; omega))
  have HF := Lib.hid (fun (w : World) (v : Value) (h : IsVault w v (freeV k l)) => (freeV_is hx hs l).1.form8 hx h)
  obtain ⟨n, hn⟩ : ∃ n, n = PN x := ⟨_, rfl⟩
  obtain ⟨m0, hm⟩ : ∃ m, m = strB (CV k 0) := ⟨_, rfl⟩
  obtain ⟨m1, hm1⟩ : ∃ m, m = strB (Bit.markL (CV k 0) false (onesI l)) := ⟨_, rfl⟩
  have HE : Hid ((writeV k 0 (Bit.markL (CV k 0) false (onesI l))).1 = freeV k l) := Lib.hid rfl
  rw [← hn] at C0 C3 HF ⊢
  rw [← hm] at C0 C2
  rw [← hm1] at C2 C3
  obtain ⟨Y, hY, hYb⟩ : ∃ Y, Y = (w.alloc (.cells #[.slice A1 n1 c1, .slice A2 n2 c2, .bool false, .int .i64 dl, .int .i64 (n : Nat), .int .i64 jr, .int .i64 sq, .slice A7 n7 c7] 32)).alloc (.cells #[.slice none 0 0, .slice none 0 0, .bool false, .int .i64 0, .int .i64 0, .int .i64 0, .int .i64 0, .slice none 0 0] 32) ∧ FB w Y #[.slice A1 n1 c1, .slice A2 n2 c2, .bool false, .int .i64 dl, .int .i64 (n : Nat), .int .i64 jr, .int .i64 sq, .slice A7 n7 c7] #[.slice none 0 0, .slice none 0 0, .bool false, .int .i64 0, .int .i64 0, .int .i64 0, .int .i64 0, .slice none 0 0] := ⟨_, rfl, FB.new w _⟩
  have HY := Lib.hid hY
  have HB := Lib.hid hYb
  obtain ⟨⟨i0, i1, i2, i3, i4, i5, i6, i7⟩, _⟩ := box8 hYb.a
  clear hn hm hm1 hY hYb hv hx hs hl hr hm0 hx16 hpn
  go_enter Tryz.func22, Tryz.ntmps22
  go_upto_region 1 with (fail)
  rw [← HY.out]
  clear HY
  go_wp2_with fail
  (with_reducible refine (C0.out _ HB.out.below).mono ?_)
  rintro e w1 ⟨rfl, hb1⟩
  have HB1 := Lib.hid (HB.out.more hb1)
  clear hb1 i0 i1 i2 i3 i4 i5 i6 i7
  go_wp2_with fail
  have HT := Lib.hid (HB1.out.more (Below.refl _ _).drew)
  obtain ⟨⟨i0, i1, i2, i3, i4, i5, i6, i7⟩, _⟩ := box8 HT.out.a
  obtain ⟨⟨z0, z1, z2, z3, z4, z5, z6, z7⟩, zf⟩ := box8 HT.out.z
  go_region_with (first
    | (go_at_call 40; (with_reducible refine (C1.out _ HT.out.below).mono ?_); rintro e wa ⟨vr, rfl, hsr, hBa⟩; (with_reducible replace HT := Lib.hid (HT.out.more hBa)); obtain ⟨RA, rc, rfl⟩ := hsr.form; have HS := Lib.hid hsr; clear hsr hBa; obtain ⟨⟨i0, i1, i2, i3, i4, i5, i6, i7⟩, _⟩ := box8 HT.out.a; obtain ⟨⟨z0, z1, z2, z3, z4, z5, z6, z7⟩, zf⟩ := box8 HT.out.z)
    | (go_at_call 39; (with_reducible refine (C2.out _ _ HS.out).mono ?_); rintro e wa ⟨rfl, hBa⟩; (with_reducible replace HT := Lib.hid (HT.out.more hBa)); clear hBa; obtain ⟨⟨i0, i1, i2, i3, i4, i5, i6, i7⟩, _⟩ := box8 HT.out.a; obtain ⟨⟨z0, z1, z2, z3, z4, z5, z6, z7⟩, zf⟩ := box8 HT.out.z)
    | (go_at_call 42; (with_reducible refine (C3.out _ HT.out.below).mono ?_); rintro e wa ⟨v', rfl, hv', hBa⟩; (with_reducible replace HT := Lib.hid (HT.out.more hBa)); rw [HE.out] at hv'; obtain ⟨qA1, qn1, qc1, qA2, qn2, qc2, qdl, qjr, qsq, qA7, qn7, qc7, rfl⟩ := HF.out _ _ hv'; have HV := Lib.hid hv'; clear hv' hBa; obtain ⟨⟨i0, i1, i2, i3, i4, i5, i6, i7⟩, _⟩ := box8 HT.out.a; obtain ⟨⟨z0, z1, z2, z3, z4, z5, z6, z7⟩, zf⟩ := box8 HT.out.z))
  all_goals
    obtain ⟨X, hX, hbX, hkX, hBX⟩ := box_store8 HT.out.z (.slice qA1 qn1 qc1) (.slice qA2 qn2 qc2) (.bool false) (.int .i64 qdl) (.int .i64 (n : Nat)) (.int .i64 qjr) (.int .i64 qsq) (.slice qA7 qn7 qc7)
    rw [hX]
    have HX := Lib.hid (box8 hbX)
    have HFIN : Hid (IsVault X (.agg #[.slice qA1 qn1 qc1, .slice qA2 qn2 qc2, .bool false, .int .i64 qdl, .int .i64 (n : Nat), .int .i64 qjr, .int .i64 qsq, .slice qA7 qn7 qc7]) (freeV k l) ∧ Below w.heap.size w X) := Lib.hid ⟨HV.out.other HT.out.z hkX, hBX _ _ HT.out.below (by omega)⟩
    clear hX hbX hkX hBX i0 i1 i2 i3 i4 i5 i6 i7 zf z0 z1 z2 z3 z4 z5 z6 z7
    obtain ⟨⟨z0, z1, z2, z3, z4, z5, z6, z7⟩, _⟩ := HX.out
    go_wp2_with fail
    exact bodyPost_ret (v := .tuple #[.agg #[.slice qA1 qn1 qc1, .slice qA2 qn2 qc2, .bool false, .int .i64 qdl, .int .i64 (n : Nat), .int .i64 qjr, .int .i64 qsq, .slice qA7 qn7 qc7], .int .i64 0]) (by simp [results, Tryz.results22, go_sem, z0, z1, z2, z3, z4, z5, z6, z7]) rfl ⟨_, rfl, HFIN.out.1, HFIN.out.2⟩
end Go.Proofs.YtgeiemccjionpaaGreat.Chn

/- HTells -/
namespace Go.Proofs.YtgeiemccjionpaaGreat.Chn
open Go.RowKit Go.Sort
open Dsk Vlt

set_option maxRecDepth 100000 in
set_option maxHeartbeats 32000000 in
theorem tells_calls (n0 : Int) (AX : Option Addr) (m cap : Nat) (xs : List Int) (w : World) (AW : ∀ w : World, Calls Tryz.prog 8 #[] w fun e w' => e = .returned (.bool true) ∧ Below w.heap.size w w') (hn0 : -9223372036854775808 ≤ n0 ∧ n0 ≤ 9223372036854775807) (hm : m ≤ 9223372036854775807) (hxs : NIn w AX m xs) :
    Calls Tryz.prog 4 #[.int .i64 n0, .slice AX m cap] w fun e w' => e = .returned (.bool true) ∧ Below w.heap.size w w' := by
  by_cases h1 : n0 < 0
  · clear hn0 hxs hm
    go_enter Tryz.func4, Tryz.ntmps4
    go_wp2_with fail
    (with_reducible refine (AW _).mono ?_)
    rintro e wz ⟨rfl, hbz⟩
    go_wp2_with fail
    go_ret
    exact ⟨rfl, hbz⟩
  by_cases h2 : (100000 : Int) < n0
  · clear hn0 hxs hm
    go_enter Tryz.func4, Tryz.ntmps4
    go_wp2_with fail
    (with_reducible refine (AW _).mono ?_)
    rintro e wz ⟨rfl, hbz⟩
    go_wp2_with fail
    go_ret
    exact ⟨rfl, hbz⟩
  obtain ⟨q, rfl⟩ : ∃ q : Nat, n0 = (q : Int) := ⟨n0.toNat, by omega⟩
  have hq : q ≤ 100000 := by omega
  by_cases h3 : 60 < m
  · have h4 : (60 : Int) < (m : Int) := by omega
    clear hn0 hxs hm
    go_enter Tryz.func4, Tryz.ntmps4
    go_wp2_with fail
    (with_reducible refine (AW _).mono ?_)
    rintro e wz ⟨rfl, hbz⟩
    go_wp2_with fail
    go_ret
    exact ⟨rfl, hbz⟩
  have h4 : ¬ (60 : Int) < (m : Int) := by omega
  obtain ⟨n, hn⟩ : ∃ n : Nat, n = 40 := ⟨_, rfl⟩
  have hn1 : 16 ≤ n := by omega
  have hn2 : n ≤ 512 := by omega
  have hxr := shL_right hn1 hn2
  have tv0 := TV.format hxr
  obtain ⟨k0, hk0⟩ : ∃ k, k = formatV (shL n) := ⟨_, rfl⟩
  rw [← hk0] at tv0
  have C0 : Hid (∀ W : World, Calls Tryz.prog 9 #[.int .i64 40, .int .i64 8] W fun e w' => ∃ v', e = .returned (.tuple #[v', .int .i64 0]) ∧ IsVault w' v' k0 ∧ Below W.heap.size W w') := Lib.hid (fun W => by subst hn; rw [hk0]; exact rformat_ok (shL 40) W hxr)
  have HF0 := Lib.hid (fun (W : World) (v : Value) (h : IsVault W v k0) => tv0.form hn1 hn2 h)
  obtain ⟨k1, l1, pk, _, hc⟩ := both_put (A := []) (O := []) (B := []) (old := []) (no := 0) (t := longL 4000) tv0 hn1 hn2 (.inl ⟨rfl, rfl, rfl⟩) (by rw [longL_len]; omega) (by rw [longL_len, hn]; show needC 4000 + (1 + 0) ≤ 40; decide)
  have tv1 := pk.tv
  have HF1 := Lib.hid (fun (W : World) (v : Value) (h : IsVault W v k1) => tv1.form hn1 hn2 h)
  have hst := (freeV_is hxr tv1.still xs).1
  have hxl : xs.length ≤ 1000 := by rw [hxs.1]; omega
  obtain ⟨u1, u2, u3⟩ := hst.lens hxr
  have C2 := Lib.hid (fun (v : Value) (W : World) (hW : Below w.heap.size w W) (hv : IsVault W v k1) => freeN_calls v AX m cap xs W hxr tv1.still hv (hxs.below hW) hxl hxs.2.1)
  have C3 := Lib.hid (fun (v : Value) (W : World) (hW : Below w.heap.size w W) (hv : IsVault W v k1) => rfreeN_calls v AX m cap xs W hxr tv1.still hv (hxs.below hW) hxl hxs.2.1)
  have HF2 := Lib.hid (fun (W : World) (v : Value) (h : IsVault W v (freeV k1 xs)) => by have := hst.form8 hxr h; rw [shL_n] at this; exact this)
  have CS := Lib.hid (fun (v u : Value) (W : World) (hv : IsVault W v (freeV k1 xs)) (hu : IsVault W u (freeV k1 xs)) => same_calls v u (freeV k1 xs) W hv hu u1 u2 u3)
  obtain ⟨k2, hk2⟩ : ∃ k, k = freeV k1 xs := ⟨_, rfl⟩
  rw [← hk2] at C2 C3 HF2 CS
  obtain ⟨S, hS⟩ : ∃ S, S = strB (longL 4000) := ⟨_, rfl⟩
  rw [← hS] at hc
  have C1 := Lib.hid hc
  have LO : Hid (∀ W, Calls Tryz.prog 10 #[.int .i64 4000] W fun e w' => e = .returned (.string S) ∧ Below W.heap.size W w') := Lib.hid (fun W => by rw [hS]; exact long_calls 4000 W (by omega))
  have N1 := Lib.hid (fun W => need_calls q W (by omega))
  have N2 := Lib.hid (fun W => rneed_calls q W (by omega))
  have AW := Lib.hid AW
  clear hn0 hm hxs hk0 hc pk tv1 hst hxl u1 u2 u3 hk2 hS hn hxr tv0 h3
  go_enter Tryz.func4, Tryz.ntmps4
  go_wp2_with fail
  (with_reducible refine (C0.out _).mono ?_)
  rintro e w1 ⟨v1, rfl, hv1, hb1⟩
  obtain ⟨pA1, pn1, pc1, pA2, pn2, pc2, pdl, pjr, psq, pA7, pn7, pc7, rfl⟩ := HF0.out _ _ hv1
  obtain ⟨g, hg⟩ : ∃ g, g = w1.heap.size := ⟨_, rfl⟩
  obtain ⟨Z, hZ⟩ : ∃ Z, Z = w1.alloc (.cells #[.slice pA1 pn1 pc1, .slice pA2 pn2 pc2, .bool false, .int .i64 pdl, .int .i64 (n : Nat), .int .i64 pjr, .int .i64 psq, .slice pA7 pn7 pc7] 32) := ⟨_, rfl⟩
  have HB : Hid (VV w Z g #[.slice pA1 pn1 pc1, .slice pA2 pn2 pc2, .bool false, .int .i64 pdl, .int .i64 (n : Nat), .int .i64 pjr, .int .i64 psq, .slice pA7 pn7 pc7] k0) := Lib.hid (by rw [hZ, hg]; exact VV.new hv1 hb1)
  have HZ := Lib.hid hZ
  have HG := Lib.hid hg
  clear hZ hg hv1 hb1
  go_upto_region 4 with (fail)
  rw [← HZ.out, ← HG.out]
  clear HZ HG
  have HT := Lib.hid (HB.out.more (Below.refl _ _).drew)
  clear HB
  obtain ⟨⟨i0, i1, i2, i3, i4, i5, i6, i7⟩, kf⟩ := box8 HT.out.a
  go_region_with (first
    | (go_at_call 10; (with_reducible refine (LO.out _).mono ?_); rintro e wa ⟨rfl, hBa⟩; (with_reducible replace HT := Lib.hid (HT.out.more hBa)); clear hBa i0 i1 i2 i3 i4 i5 i6 i7 kf; obtain ⟨⟨i0, i1, i2, i3, i4, i5, i6, i7⟩, kf⟩ := box8 HT.out.a)
    | (go_at_call 12; (with_reducible refine (C1.out _ _ HT.out.v).mono ?_); rintro e wa ⟨v', rfl, hv', hBa⟩; (with_reducible replace HT := Lib.hid (HT.out.more hBa)); obtain ⟨qA1, qn1, qc1, qA2, qn2, qc2, qdl, qjr, qsq, qA7, qn7, qc7, rfl⟩ := HF1.out _ _ hv'; have HV' := Lib.hid hv'; clear hv' hBa i0 i1 i2 i3 i4 i5 i6 i7 kf; obtain ⟨⟨i0, i1, i2, i3, i4, i5, i6, i7⟩, kf⟩ := box8 HT.out.a))
  all_goals
    obtain ⟨X, hX, hVX, _⟩ := HT.out.put HV'.out
    rw [hX]
    have HT := Lib.hid hVX
    clear hX hVX HV' i0 i1 i2 i3 i4 i5 i6 i7 kf
    obtain ⟨⟨i0, i1, i2, i3, i4, i5, i6, i7⟩, kf⟩ := box8 HT.out.a
    go_wp2_with fail
    (with_reducible refine (C2.out _ _ HT.out.below HT.out.v).mono ?_)
    rintro e w3 ⟨v', rfl, hv3, hb3⟩
    obtain ⟨rA1, rn1, rc1, rA2, rn2, rc2, rdl, rjr, rsq, rA7, rn7, rc7, rfl⟩ := HF2.out _ _ hv3
    have HT := Lib.hid (HT.out.more hb3)
    clear i0 i1 i2 i3 i4 i5 i6 i7 kf
    obtain ⟨g2, hg2⟩ : ∃ g, g = w3.heap.size := ⟨_, rfl⟩
    obtain ⟨Z2, hZ2⟩ : ∃ Y, Y = w3.alloc (.cells #[.slice rA1 rn1 rc1, .slice rA2 rn2 rc2, .bool false, .int .i64 rdl, .int .i64 (n : Nat), .int .i64 rjr, .int .i64 rsq, .slice rA7 rn7 rc7] 32) := ⟨_, rfl⟩
    have HX : Hid (VV w Z2 g2 #[.slice rA1 rn1 rc1, .slice rA2 rn2 rc2, .bool false, .int .i64 rdl, .int .i64 (n : Nat), .int .i64 rjr, .int .i64 rsq, .slice rA7 rn7 rc7] k2) := Lib.hid (by rw [hZ2, hg2]; exact VV.new hv3 HT.out.below)
    have HT : Hid (VV w Z2 g #[.slice qA1 qn1 qc1, .slice qA2 qn2 qc2, .bool false, .int .i64 qdl, .int .i64 (n : Nat), .int .i64 qjr, .int .i64 qsq, .slice qA7 qn7 qc7] k1) := Lib.hid (by rw [hZ2]; exact HT.out.more (below_one _ _))
    have HZ := Lib.hid hZ2
    have HG := Lib.hid hg2
    clear hZ2 hg2 hv3 hb3
    go_upto_region 6 with (fail)
    rw [← HZ.out, ← HG.out]
    clear HZ HG
    obtain ⟨⟨i0, i1, i2, i3, i4, i5, i6, i7⟩, kf⟩ := box8 HT.out.a
    go_wp2_with fail
    (with_reducible refine (C3.out _ _ HT.out.below HT.out.v).mono ?_)
    rintro e w3 ⟨v', rfl, hv3, hb3⟩
    obtain ⟨sA1, sn1, sc1, sA2, sn2, sc2, sdl, sjr, ssq, sA7, sn7, sc7, rfl⟩ := HF2.out _ _ hv3
    have HT := Lib.hid (HT.out.more hb3)
    clear i0 i1 i2 i3 i4 i5 i6 i7 kf
    obtain ⟨g3, hg2⟩ : ∃ g, g = w3.heap.size := ⟨_, rfl⟩
    obtain ⟨Z3, hZ2⟩ : ∃ Y, Y = w3.alloc (.cells #[.slice sA1 sn1 sc1, .slice sA2 sn2 sc2, .bool false, .int .i64 sdl, .int .i64 (n : Nat), .int .i64 sjr, .int .i64 ssq, .slice sA7 sn7 sc7] 32) := ⟨_, rfl⟩
    have HY : Hid (VV w Z3 g3 #[.slice sA1 sn1 sc1, .slice sA2 sn2 sc2, .bool false, .int .i64 sdl, .int .i64 (n : Nat), .int .i64 sjr, .int .i64 ssq, .slice sA7 sn7 sc7] k2) := Lib.hid (by rw [hZ2, hg2]; exact VV.new hv3 HT.out.below)
    have HT : Hid (VV w Z3 g #[.slice qA1 qn1 qc1, .slice qA2 qn2 qc2, .bool false, .int .i64 qdl, .int .i64 (n : Nat), .int .i64 qjr, .int .i64 qsq, .slice qA7 qn7 qc7] k1) := Lib.hid (by rw [hZ2]; exact HT.out.more (below_one _ _))
    have HX : Hid (VV w Z3 g2 #[.slice rA1 rn1 rc1, .slice rA2 rn2 rc2, .bool false, .int .i64 rdl, .int .i64 (n : Nat), .int .i64 rjr, .int .i64 rsq, .slice rA7 rn7 rc7] k2) := Lib.hid (by rw [hZ2]; exact (HX.out.more hb3).more (below_one _ _))
    have HZ := Lib.hid hZ2
    have HG := Lib.hid hg2
    clear hZ2 hg2 hv3 hb3
    go_upto_region 7 with (fail)
    rw [← HZ.out, ← HG.out]
    clear HZ HG HT
    go_wp2_with fail
    (with_reducible refine (AW.out _).mono ?_)
    rintro e wz ⟨rfl, hbz⟩
    have HX := Lib.hid (HX.out.more hbz)
    have HY := Lib.hid (HY.out.more hbz)
    clear hbz
    obtain ⟨⟨i0, i1, i2, i3, i4, i5, i6, i7⟩, kf⟩ := box8 HX.out.a
    obtain ⟨⟨j0, j1, j2, j3, j4, j5, j6, j7⟩, jf⟩ := box8 HY.out.a
    go_wp2_with fail
    (with_reducible refine (N1.out _).mono ?_)
    rintro e wb ⟨rfl, rfl⟩
    go_wp2_with fail
    (with_reducible refine (N2.out _).mono ?_)
    rintro e wb ⟨rfl, rfl⟩
    go_wp2_with fail
    (with_reducible refine (CS.out _ _ _ HX.out.v HY.out.v).mono ?_)
    rintro e wb ⟨rfl, hbb⟩
    go_wp2_with fail
    go_ret
    exact ⟨rfl, Dsk.below_trans' HX.out.below hbb⟩
end Go.Proofs.YtgeiemccjionpaaGreat.Chn
