/- Contracts and plain mathematics that the statement's proof wants: no statement is proved here, nothing is assumed. -/
import Derived.Test.YtgeiemccjionpaaGreatMg34
/- HDrop -/
namespace Go.Proofs.YtgeiemccjionpaaGreat.Chn
open Go.RowKit Go.Sort
open Dsk Vlt

set_option maxRecDepth 100000 in
set_option maxHeartbeats 8000000 in
theorem drop_ok (v : Value) {x : Sh} {k : VK} (no : Int) (old : List Nat) (t0 : List UInt8) (w : World) (hx : rightS x = true) (hs : Still x k) (hv : IsVault w v k) (hw : walkZ (CV k) (PN x) (PN x) [] [] no = (old, t0, 0)) :
    Calls Tryz.prog 13 #[v, .int .i64 no] w fun e w' => ∃ v', e = .returned (.tuple #[v', .int .i64 0]) ∧ IsVault w' v' (freeV k (natI old)) ∧ Below w.heap.size w w' := by
  obtain ⟨A1, n1, c1, A2, n2, c2, dl, jr, sq, A7, n7, c7, rfl⟩ := hs.form8 hx hv
  have hx16 := (right_nat hx).2.2
  have hok := walkZ_ok (CV k) (PN x) no
  rw [hw] at hok
  have C1 := Lib.hid (fun W (hW : Below w.heap.size w W) => walk_calls _ no W hx hs (hv.below hW) _ hw)
  have C2 := Lib.hid (fun W vp (hW : Below w.heap.size w W) (h : IsInts W vp (natI old)) => free_calls _ vp (natI old) W hx hs (hv.below hW) h (by rw [natI_len]; have := hok.2; dsimp only at this; omega) (IR.nat fun p hp => by have := hok.1 p hp; omega))
  have HF := Lib.hid (fun (w : World) (v : Value) (h : IsVault w v (freeV k (natI old))) => (freeV_is hx hs (natI old)).1.form8 hx h)
  obtain ⟨n, hn⟩ : ∃ n, n = PN x := ⟨_, rfl⟩
  rw [← hn] at C1 C2 HF ⊢
  obtain ⟨Y, hY, hYb⟩ : ∃ Y, Y = (w.alloc (.cells #[.slice A1 n1 c1, .slice A2 n2 c2, .bool false, .int .i64 dl, .int .i64 (n : Nat), .int .i64 jr, .int .i64 sq, .slice A7 n7 c7] 32)).alloc (.cells #[.slice none 0 0, .slice none 0 0, .bool false, .int .i64 0, .int .i64 0, .int .i64 0, .int .i64 0, .slice none 0 0] 32) ∧ FB w Y #[.slice A1 n1 c1, .slice A2 n2 c2, .bool false, .int .i64 dl, .int .i64 (n : Nat), .int .i64 jr, .int .i64 sq, .slice A7 n7 c7] #[.slice none 0 0, .slice none 0 0, .bool false, .int .i64 0, .int .i64 0, .int .i64 0, .int .i64 0, .slice none 0 0] := ⟨_, rfl, FB.new w _⟩
  have HY := Lib.hid hY
  have HB := Lib.hid hYb
  obtain ⟨⟨i0, i1, i2, i3, i4, i5, i6, i7⟩, _⟩ := box8 hYb.a
  clear hn hY hYb hv hx hs hx16 hok hw
  go_enter Tryz.func13, Tryz.ntmps13
  go_upto_region 1 with (fail)
  rw [← HY.out]
  clear HY
  go_wp2_with fail
  (with_reducible refine (C1.out _ HB.out.below).mono ?_)
  rintro e w1 ⟨vo, rfl, hvo, hb1⟩
  have HO := Lib.hid hvo
  have HB1 := Lib.hid (HB.out.more hb1)
  clear hb1 i0 i1 i2 i3 i4 i5 i6 i7 hvo
  obtain ⟨⟨i0, i1, i2, i3, i4, i5, i6, i7⟩, _⟩ := box8 HB1.out.a
  go_wp2_with fail
  (with_reducible refine (C2.out _ _ HB1.out.below HO.out).mono ?_)
  rintro e w2 ⟨v', rfl, hv', hb2⟩
  obtain ⟨qA1, qn1, qc1, qA2, qn2, qc2, qdl, qjr, qsq, qA7, qn7, qc7, rfl⟩ := HF.out _ _ hv'
  have hB2 := HB1.out.more hb2
  obtain ⟨X, hX, hbX, hkX, hBX⟩ := box_store8 hB2.z (.slice qA1 qn1 qc1) (.slice qA2 qn2 qc2) (.bool false) (.int .i64 qdl) (.int .i64 (n : Nat)) (.int .i64 qjr) (.int .i64 qsq) (.slice qA7 qn7 qc7)
  have HXX := Lib.hid hX
  have HX := Lib.hid (box8 hbX)
  have HFIN : Hid (IsVault X (.agg #[.slice qA1 qn1 qc1, .slice qA2 qn2 qc2, .bool false, .int .i64 qdl, .int .i64 (n : Nat), .int .i64 qjr, .int .i64 qsq, .slice qA7 qn7 qc7]) (freeV k (natI old)) ∧ Below w.heap.size w X) := Lib.hid ⟨hv'.other hB2.z hkX, hBX _ _ hB2.below (by omega)⟩
  obtain ⟨⟨z0, z1, z2, z3, z4, z5, z6, z7⟩, zf⟩ := box8 hB2.z
  clear hX hbX hkX hBX hB2 hb2 hv' i0 i1 i2 i3 i4 i5 i6 i7
  go_wp2_with fail
  rw [HXX.out]
  clear z0 z1 z2 z3 z4 z5 z6 z7 zf
  obtain ⟨⟨z0, z1, z2, z3, z4, z5, z6, z7⟩, _⟩ := HX.out
  exact bodyPost_ret (v := .tuple #[.agg #[.slice qA1 qn1 qc1, .slice qA2 qn2 qc2, .bool false, .int .i64 qdl, .int .i64 (n : Nat), .int .i64 qjr, .int .i64 qsq, .slice qA7 qn7 qc7], .int .i64 0]) (by simp [results, Tryz.results13, go_sem, z0, z1, z2, z3, z4, z5, z6, z7]) rfl ⟨_, rfl, HFIN.out.1, HFIN.out.2⟩

set_option maxRecDepth 100000 in
set_option maxHeartbeats 8000000 in
theorem drop_no (v : Value) {x : Sh} {k : VK} (w : World) (hx : rightS x = true) (hs : Still x k) (hv : IsVault w v k) :
    Calls Tryz.prog 13 #[v, .int .i64 0] w fun e w' => ∃ v', e = .returned (.tuple #[v', .int .i64 1]) ∧ IsVault w' v' k ∧ Below w.heap.size w w' := by
  obtain ⟨A1, n1, c1, A2, n2, c2, dl, jr, sq, A7, n7, c7, rfl⟩ := hs.form8 hx hv
  have C1 := Lib.hid (fun W (hW : Below w.heap.size w W) => walk_calls _ 0 W hx hs (hv.below hW) _ rfl)
  rw [walkZ_zero, if_pos rfl] at C1
  have HV := Lib.hid hv
  obtain ⟨n, hn⟩ : ∃ n, n = PN x := ⟨_, rfl⟩
  rw [← hn] at C1 HV ⊢
  obtain ⟨Y, hY, hYb⟩ : ∃ Y, Y = (w.alloc (.cells #[.slice A1 n1 c1, .slice A2 n2 c2, .bool false, .int .i64 dl, .int .i64 (n : Nat), .int .i64 jr, .int .i64 sq, .slice A7 n7 c7] 32)).alloc (.cells #[.slice none 0 0, .slice none 0 0, .bool false, .int .i64 0, .int .i64 0, .int .i64 0, .int .i64 0, .slice none 0 0] 32) ∧ FB w Y #[.slice A1 n1 c1, .slice A2 n2 c2, .bool false, .int .i64 dl, .int .i64 (n : Nat), .int .i64 jr, .int .i64 sq, .slice A7 n7 c7] #[.slice none 0 0, .slice none 0 0, .bool false, .int .i64 0, .int .i64 0, .int .i64 0, .int .i64 0, .slice none 0 0] := ⟨_, rfl, FB.new w _⟩
  have HY := Lib.hid hY
  have HB := Lib.hid hYb
  obtain ⟨⟨i0, i1, i2, i3, i4, i5, i6, i7⟩, _⟩ := box8 hYb.a
  clear hn hY hYb hv hx hs
  go_enter Tryz.func13, Tryz.ntmps13
  go_upto_region 1 with (fail)
  rw [← HY.out]
  clear HY
  go_wp2_with fail
  (with_reducible refine (C1.out _ HB.out.below).mono ?_)
  rintro e w1 ⟨vo, rfl, hvo, hb1⟩
  have hB1 := HB.out.more hb1
  obtain ⟨X, hX, hbX, hkX, hBX⟩ := box_store8 hB1.z (.slice A1 n1 c1) (.slice A2 n2 c2) (.bool false) (.int .i64 dl) (.int .i64 (n : Nat)) (.int .i64 jr) (.int .i64 sq) (.slice A7 n7 c7)
  have HXX := Lib.hid hX
  have HX := Lib.hid (box8 hbX)
  have HFIN : Hid (IsVault X (.agg #[.slice A1 n1 c1, .slice A2 n2 c2, .bool false, .int .i64 dl, .int .i64 (n : Nat), .int .i64 jr, .int .i64 sq, .slice A7 n7 c7]) k ∧ Below w.heap.size w X) := Lib.hid ⟨(HV.out.below hB1.below).other hB1.z hkX, hBX _ _ hB1.below (by omega)⟩
  obtain ⟨⟨z0, z1, z2, z3, z4, z5, z6, z7⟩, zf⟩ := box8 hB1.z
  clear i0 i1 i2 i3 i4 i5 i6 i7
  obtain ⟨⟨i0, i1, i2, i3, i4, i5, i6, i7⟩, _⟩ := box8 hB1.a
  clear hX hbX hkX hBX hB1 hb1 hvo
  go_wp2_with fail
  rw [HXX.out]
  clear z0 z1 z2 z3 z4 z5 z6 z7 zf i0 i1 i2 i3 i4 i5 i6 i7
  obtain ⟨⟨z0, z1, z2, z3, z4, z5, z6, z7⟩, _⟩ := HX.out
  exact bodyPost_ret (v := .tuple #[.agg #[.slice A1 n1 c1, .slice A2 n2 c2, .bool false, .int .i64 dl, .int .i64 (n : Nat), .int .i64 jr, .int .i64 sq, .slice A7 n7 c7], .int .i64 1]) (by simp [results, Tryz.results13, go_sem, z0, z1, z2, z3, z4, z5, z6, z7]) rfl ⟨_, rfl, HFIN.out.1, HFIN.out.2⟩

set_option maxRecDepth 100000 in
set_option maxHeartbeats 8000000 in
theorem rdrop_ok (v : Value) {x : Sh} {k : VK} (no : Int) (old : List Nat) (t0 : List UInt8) (w : World) (hx : rightS x = true) (hs : Still x k) (hv : IsVault w v k) (hw : walkZ (CV k) (PN x) (PN x) [] [] no = (old, t0, 0)) :
    Calls Tryz.prog 14 #[v, .int .i64 no] w fun e w' => ∃ v', e = .returned (.tuple #[v', .int .i64 0]) ∧ IsVault w' v' (freeV k (natI old)) ∧ Below w.heap.size w w' := by
  obtain ⟨A1, n1, c1, A2, n2, c2, dl, jr, sq, A7, n7, c7, rfl⟩ := hs.form8 hx hv
  have hx16 := (right_nat hx).2.2
  have hok := walkZ_ok (CV k) (PN x) no
  rw [hw] at hok
  have C1 := Lib.hid (fun W (hW : Below w.heap.size w W) => rwalk_calls _ no W hx hs (hv.below hW) _ hw)
  have C2 := Lib.hid (fun W vp (hW : Below w.heap.size w W) (h : IsInts W vp (natI old)) => rfree_calls _ vp (natI old) W hx hs (hv.below hW) h (by rw [natI_len]; have := hok.2; dsimp only at this; omega) (IR.nat fun p hp => by have := hok.1 p hp; omega))
  have HF := Lib.hid (fun (w : World) (v : Value) (h : IsVault w v (freeV k (natI old))) => (freeV_is hx hs (natI old)).1.form8 hx h)
  obtain ⟨n, hn⟩ : ∃ n, n = PN x := ⟨_, rfl⟩
  rw [← hn] at C1 C2 HF ⊢
  obtain ⟨Y, hY, hYb⟩ : ∃ Y, Y = (w.alloc (.cells #[.slice A1 n1 c1, .slice A2 n2 c2, .bool false, .int .i64 dl, .int .i64 (n : Nat), .int .i64 jr, .int .i64 sq, .slice A7 n7 c7] 32)).alloc (.cells #[.slice none 0 0, .slice none 0 0, .bool false, .int .i64 0, .int .i64 0, .int .i64 0, .int .i64 0, .slice none 0 0] 32) ∧ FB w Y #[.slice A1 n1 c1, .slice A2 n2 c2, .bool false, .int .i64 dl, .int .i64 (n : Nat), .int .i64 jr, .int .i64 sq, .slice A7 n7 c7] #[.slice none 0 0, .slice none 0 0, .bool false, .int .i64 0, .int .i64 0, .int .i64 0, .int .i64 0, .slice none 0 0] := ⟨_, rfl, FB.new w _⟩
  have HY := Lib.hid hY
  have HB := Lib.hid hYb
  obtain ⟨⟨i0, i1, i2, i3, i4, i5, i6, i7⟩, _⟩ := box8 hYb.a
  clear hn hY hYb hv hx hs hx16 hok hw
  go_enter Tryz.func14, Tryz.ntmps14
  go_upto_region 1 with (fail)
  rw [← HY.out]
  clear HY
  go_wp2_with fail
  (with_reducible refine (C1.out _ HB.out.below).mono ?_)
  rintro e w1 ⟨vo, rfl, hvo, hb1⟩
  have HO := Lib.hid hvo
  have HB1 := Lib.hid (HB.out.more hb1)
  clear hb1 i0 i1 i2 i3 i4 i5 i6 i7 hvo
  obtain ⟨⟨i0, i1, i2, i3, i4, i5, i6, i7⟩, _⟩ := box8 HB1.out.a
  go_wp2_with fail
  (with_reducible refine (C2.out _ _ HB1.out.below HO.out).mono ?_)
  rintro e w2 ⟨v', rfl, hv', hb2⟩
  obtain ⟨qA1, qn1, qc1, qA2, qn2, qc2, qdl, qjr, qsq, qA7, qn7, qc7, rfl⟩ := HF.out _ _ hv'
  have hB2 := HB1.out.more hb2
  obtain ⟨X, hX, hbX, hkX, hBX⟩ := box_store8 hB2.z (.slice qA1 qn1 qc1) (.slice qA2 qn2 qc2) (.bool false) (.int .i64 qdl) (.int .i64 (n : Nat)) (.int .i64 qjr) (.int .i64 qsq) (.slice qA7 qn7 qc7)
  have HXX := Lib.hid hX
  have HX := Lib.hid (box8 hbX)
  have HFIN : Hid (IsVault X (.agg #[.slice qA1 qn1 qc1, .slice qA2 qn2 qc2, .bool false, .int .i64 qdl, .int .i64 (n : Nat), .int .i64 qjr, .int .i64 qsq, .slice qA7 qn7 qc7]) (freeV k (natI old)) ∧ Below w.heap.size w X) := Lib.hid ⟨hv'.other hB2.z hkX, hBX _ _ hB2.below (by omega)⟩
  obtain ⟨⟨z0, z1, z2, z3, z4, z5, z6, z7⟩, zf⟩ := box8 hB2.z
  clear hX hbX hkX hBX hB2 hb2 hv' i0 i1 i2 i3 i4 i5 i6 i7
  go_wp2_with fail
  rw [HXX.out]
  clear z0 z1 z2 z3 z4 z5 z6 z7 zf
  obtain ⟨⟨z0, z1, z2, z3, z4, z5, z6, z7⟩, _⟩ := HX.out
  exact bodyPost_ret (v := .tuple #[.agg #[.slice qA1 qn1 qc1, .slice qA2 qn2 qc2, .bool false, .int .i64 qdl, .int .i64 (n : Nat), .int .i64 qjr, .int .i64 qsq, .slice qA7 qn7 qc7], .int .i64 0]) (by simp [results, Tryz.results14, go_sem, z0, z1, z2, z3, z4, z5, z6, z7]) rfl ⟨_, rfl, HFIN.out.1, HFIN.out.2⟩

set_option maxRecDepth 100000 in
set_option maxHeartbeats 8000000 in
theorem rdrop_no (v : Value) {x : Sh} {k : VK} (w : World) (hx : rightS x = true) (hs : Still x k) (hv : IsVault w v k) :
    Calls Tryz.prog 14 #[v, .int .i64 0] w fun e w' => ∃ v', e = .returned (.tuple #[v', .int .i64 1]) ∧ IsVault w' v' k ∧ Below w.heap.size w w' := by
  obtain ⟨A1, n1, c1, A2, n2, c2, dl, jr, sq, A7, n7, c7, rfl⟩ := hs.form8 hx hv
  have C1 := Lib.hid (fun W (hW : Below w.heap.size w W) => rwalk_calls _ 0 W hx hs (hv.below hW) _ rfl)
  rw [walkZ_zero, if_pos rfl] at C1
  have HV := Lib.hid hv
  obtain ⟨n, hn⟩ : ∃ n, n = PN x := ⟨_, rfl⟩
  rw [← hn] at C1 HV ⊢
  obtain ⟨Y, hY, hYb⟩ : ∃ Y, Y = (w.alloc (.cells #[.slice A1 n1 c1, .slice A2 n2 c2, .bool false, .int .i64 dl, .int .i64 (n : Nat), .int .i64 jr, .int .i64 sq, .slice A7 n7 c7] 32)).alloc (.cells #[.slice none 0 0, .slice none 0 0, .bool false, .int .i64 0, .int .i64 0, .int .i64 0, .int .i64 0, .slice none 0 0] 32) ∧ FB w Y #[.slice A1 n1 c1, .slice A2 n2 c2, .bool false, .int .i64 dl, .int .i64 (n : Nat), .int .i64 jr, .int .i64 sq, .slice A7 n7 c7] #[.slice none 0 0, .slice none 0 0, .bool false, .int .i64 0, .int .i64 0, .int .i64 0, .int .i64 0, .slice none 0 0] := ⟨_, rfl, FB.new w _⟩
  have HY := Lib.hid hY
  have HB := Lib.hid hYb
  obtain ⟨⟨i0, i1, i2, i3, i4, i5, i6, i7⟩, _⟩ := box8 hYb.a
  clear hn hY hYb hv hx hs
  go_enter Tryz.func14, Tryz.ntmps14
  go_upto_region 1 with (fail)
  rw [← HY.out]
  clear HY
  go_wp2_with fail
  (with_reducible refine (C1.out _ HB.out.below).mono ?_)
  rintro e w1 ⟨vo, rfl, hvo, hb1⟩
  have hB1 := HB.out.more hb1
  obtain ⟨X, hX, hbX, hkX, hBX⟩ := box_store8 hB1.z (.slice A1 n1 c1) (.slice A2 n2 c2) (.bool false) (.int .i64 dl) (.int .i64 (n : Nat)) (.int .i64 jr) (.int .i64 sq) (.slice A7 n7 c7)
  have HXX := Lib.hid hX
  have HX := Lib.hid (box8 hbX)
  have HFIN : Hid (IsVault X (.agg #[.slice A1 n1 c1, .slice A2 n2 c2, .bool false, .int .i64 dl, .int .i64 (n : Nat), .int .i64 jr, .int .i64 sq, .slice A7 n7 c7]) k ∧ Below w.heap.size w X) := Lib.hid ⟨(HV.out.below hB1.below).other hB1.z hkX, hBX _ _ hB1.below (by omega)⟩
  obtain ⟨⟨z0, z1, z2, z3, z4, z5, z6, z7⟩, zf⟩ := box8 hB1.z
  clear i0 i1 i2 i3 i4 i5 i6 i7
  obtain ⟨⟨i0, i1, i2, i3, i4, i5, i6, i7⟩, _⟩ := box8 hB1.a
  clear hX hbX hkX hBX hB1 hb1 hvo
  go_wp2_with fail
  rw [HXX.out]
  clear z0 z1 z2 z3 z4 z5 z6 z7 zf i0 i1 i2 i3 i4 i5 i6 i7
  obtain ⟨⟨z0, z1, z2, z3, z4, z5, z6, z7⟩, _⟩ := HX.out
  exact bodyPost_ret (v := .tuple #[.agg #[.slice A1 n1 c1, .slice A2 n2 c2, .bool false, .int .i64 dl, .int .i64 (n : Nat), .int .i64 jr, .int .i64 sq, .slice A7 n7 c7], .int .i64 1]) (by simp [results, Tryz.results14, go_sem, z0, z1, z2, z3, z4, z5, z6, z7]) rfl ⟨_, rfl, HFIN.out.1, HFIN.out.2⟩
end Go.Proofs.YtgeiemccjionpaaGreat.Chn

/- HTexts -/
namespace Go.Proofs.YtgeiemccjionpaaGreat.Chn
open Vlt
open Bit (tk markL runsN freeN)

abbrev TX := List Nat × List UInt8
/-- A vault at rest that has these texts. -/
structure TV (x : Sh) (k : VK) (ts : List TX) : Prop where
  still : Still x k
  inv : Inv (CV k) (PN x) ts
section
variable {x : Sh} {k : VK} {ts A O B : List TX} {old l : List Nat} {t t0 : List UInt8}
theorem Inv.same {C D : Nat → List UInt8} {n : Nat} (h : Inv C n ts) (e : ∀ j, D j = C j) : Inv D n ts := by
  obtain rfl : D = C := funext e
  exact h
theorem tk_zero (m p : Nat) : tk (Ent.zer m) p = false := by
  unfold tk
  have h0 : (Ent.zer m).getD (p / 8) 0 = 0 := by
    unfold Ent.zer
    rw [List.getD_eq_getElem?_getD, List.getElem?_replicate]
    split <;> rfl
  rw [h0]
  simp
theorem TV.format (hx : rightS x = true) : TV x (formatV x) [] := by
  obtain ⟨a, b⟩ := Still.format hx
  obtain ⟨_, _, c, d, _⟩ := right_nat hx
  refine ⟨a, ⟨by omega, d, by rw [b]; exact Ent.zer_len 208, by simp, by simp, by simp, by simp, fun p _ _ => ?_, fun h => absurd rfl h⟩⟩
  rw [b, tk_zero]
  simp
theorem TV.put (hx : rightS x = true) (h : TV x k (A ++ O ++ B)) (hO : (O = [] ∧ old = []) ∨ ∃ t0, O = [(old, t0)]) (hf : fitC (CV k) (PN x) old (needC t.length)) :
    TV x (putV k (PN x) old t) (A ++ [(allC (CV k) (PN x) old (needC t.length), t)] ++ B) ∧ (allC (CV k) (PN x) old (needC t.length)).length = needC t.length ∧ (old ≠ [] → (allC (CV k) (PN x) old (needC t.length)).getD 0 0 = old.getD 0 0) := by
  obtain ⟨a, b⟩ := putV_is hx h.still t h.inv hO hf
  obtain ⟨c, d, e⟩ := put_inv h.inv hO hf
  exact ⟨⟨a, c.same b⟩, d, e⟩
theorem TV.drop (hx : rightS x = true) (h : TV x k (A ++ [(l, t0)] ++ B)) : TV x (freeV k (natI l)) (A ++ B) := by
  obtain ⟨a, b⟩ := freeV_is hx h.still (natI l)
  refine ⟨a, (drop_inv h.inv).same fun j => ?_⟩
  rw [b j, ones_nat]
  rfl
theorem pages_ge : ∀ {ts : List TX} {l : List Nat} {t : List UInt8}, (l, t) ∈ ts → l.length ≤ (pagesOf ts).length
  | a :: ts, l, t, h => by
    have e : pagesOf (a :: ts) = a.1 ++ pagesOf ts := by simp [pagesOf]
    rw [e, List.length_append]
    rcases List.mem_cons.1 h with h | h
    · rw [← h]; dsimp only; omega
    · have := pages_ge h; omega
theorem TV.walk (h : TV x k ts) (hm : (l, t) ∈ ts) : walkZ (CV k) (PN x) (PN x) [] [] ((l.getD 0 0 : Nat) : Int) = (l, t, 0) := by
  have hi := h.inv
  unfold walkZ
  rw [if_neg (by omega), Int.toNat_natCast]
  have hn := hi.inn _ hm
  refine walk_is (hi.ch _ hm) hn (by have := hi.n2; omega) ?_
  have hf := free_is hi (List.ne_nil_of_mem hm)
  have := pages_ge hm
  omega
theorem TV.first (h : TV x k ts) (hm : (l, t) ∈ ts) : ∃ p, l[0]? = some p ∧ 1 ≤ p ∧ p < PN x := by
  have hne := (h.inv.ch _ hm).ne
  obtain ⟨a, r, rfl⟩ : ∃ a r, l = a :: r := by cases l with
    | nil => exact absurd rfl hne
    | cons a r => exact ⟨a, r, rfl⟩
  have := h.inv.inn _ hm a (by simp)
  exact ⟨a, rfl, this.1, this.2⟩
theorem TV.held (h : TV x k ts) (hm : (l, t) ∈ ts) : Old (CV k) (PN x) ((l.getD 0 0 : Nat) : Int) l := by
  obtain ⟨p, hp, h1, _⟩ := h.first hm
  refine .inr ⟨?_, t, h.walk hm⟩
  rw [getD_at hp]
  omega
end
end Go.Proofs.YtgeiemccjionpaaGreat.Chn
