/- Contracts and plain mathematics that the statement's proof wants: no statement is proved here, nothing is assumed. -/
import Derived.Test.YtnbbijpmkhdgpaaGreatMg31
import Derived.Test.YtnbbijpmkhdgpaaGreatMg32
/- LAwake -/
namespace Go.Proofs.YtnbbijpmkhdgpaaGreat.Vlt
open Go.RowKit Go.Sort
open Dsk

/-- A vault in a box of its own. -/
structure VH (b W : World) (g : Nat) (v0 v1 v7 : Value) (k : VK) : Prop where
  box : VBox W g v0 v1 v7 k
  val : IsVault W (.agg #[v0, v1, .bool k.disk.dead, .int .i64 k.disk.left, .int .i64 k.shape.pages, .int .i64 k.shape.journal, .int .i64 k.seq, v7]) k
  below : Below b.heap.size b W
  far : b.heap.size ≤ g
section
variable {b W W' : World} {g : Nat} {v0 v1 v7 u0 u1 u7 : Value} {k k' : VK}
theorem VH.more (h : VH b W g v0 v1 v7 k) (hb : Below W.heap.size W W') : VH b W' g v0 v1 v7 k := ⟨h.box.below hb, h.val.below hb, Dsk.below_trans' h.below hb, h.far⟩
theorem VH.new (hb : Below b.heap.size b W) (hv : IsVault W (.agg #[v0, v1, .bool k.disk.dead, .int .i64 k.disk.left, .int .i64 k.shape.pages, .int .i64 k.shape.journal, .int .i64 k.seq, v7]) k) :
    ∃ Y, W.alloc (.cells #[v0, v1, .bool k.disk.dead, .int .i64 k.disk.left, .int .i64 k.shape.pages, .int .i64 k.shape.journal, .int .i64 k.seq, v7] 33) = Y ∧ VH b Y W.heap.size v0 v1 v7 k ∧ Below W.heap.size W Y :=
  ⟨_, rfl, ⟨VBox.new W v0 v1 v7 k, hv.below (below_one _ _), Dsk.below_trans' hb (below_one _ _), hb.size⟩, below_one _ _⟩
theorem VH.put (h : VH b W g v0 v1 v7 k) (hv : IsVault W (.agg #[u0, u1, .bool k'.disk.dead, .int .i64 k'.disk.left, .int .i64 k'.shape.pages, .int .i64 k'.shape.journal, .int .i64 k'.seq, u7]) k') :
    ∃ X, (((((((W.setCell ⟨g, 0, none⟩ u0).setCell ⟨g, 1, none⟩ u1).setCell ⟨g, 2, none⟩ (.bool k'.disk.dead)).setCell ⟨g, 3, none⟩ (.int .i64 k'.disk.left)).setCell ⟨g, 4, none⟩ (.int .i64 k'.shape.pages)).setCell ⟨g, 5, none⟩ (.int .i64 k'.shape.journal)).setCell ⟨g, 6, none⟩ (.int .i64 k'.seq)).setCell ⟨g, 7, none⟩ u7 = X ∧ VH b X g u0 u1 u7 k' ∧
      (∀ q : Nat, q ≠ g → X.heap[q]? = W.heap[q]?) ∧ (∀ u y, IsVault W u y → IsVault X u y) := by
  obtain ⟨X, hX, hbX, hkX, hBX⟩ := box_store8 h.box u0 u1 (.bool k'.disk.dead) (.int .i64 k'.disk.left) (.int .i64 k'.shape.pages) (.int .i64 k'.shape.journal) (.int .i64 k'.seq) u7
  exact ⟨X, hX, ⟨hbX, hv.other h.box hkX, hBX _ _ h.below h.far, h.far⟩, hkX, fun u y hy => hy.other h.box hkX⟩
end

theorem page_is (s : List UInt8) (_W : World) (_hs : s.length ≤ 208) {_e : Value} (_he : strB s = strB s) : True := trivial
set_option maxRecDepth 100000 in
set_option maxHeartbeats 16000000 in
theorem awake_true (w : World) : Calls Tryz.prog 10 #[] w fun e w' => e = .returned (.bool true) ∧ Below w.heap.size w w' := by
  obtain ⟨k1, k2, k3, k4, e1, e2, e3, e4, e5, e6, e7, e8, e9, e10, e11, o0, o1, o2, o3, o4, op⟩ := awake_facts
  obtain ⟨k0, hk0⟩ : ∃ k, k = formatV shape16 := ⟨_, rfl⟩
  rw [← hk0] at e1 o0
  obtain ⟨D, hD⟩ : ∃ D, D = stD k3.disk 0 := ⟨_, rfl⟩
  rw [← hD] at e5
  have hpd : Pl (NN shape16) 0 D := by rw [hD]; exact stD_pl op 0
  have hn16 : NN shape16 ≤ 2000 := by decide
  have CF := fun W => format_ok shape16 W right16
  rw [← hk0] at CF
  change ∀ W : World, Calls Tryz.prog 11 #[.int .i64 16, .int .i64 8] W _ at CF
  have CB := fun W => format_bad ⟨15, 8⟩ W (by decide)
  change ∀ W : World, Calls Tryz.prog 11 #[.int .i64 15, .int .i64 8] W _ at CB
  have C1 := fun v W (h : IsVault W v k0) => write_calls v k0 3 [97, 98] W h o0.good o0.rise
  rw [e1] at C1
  obtain ⟨n1, i1, q1, q2, q3⟩ := o1.pl
  have C2 := fun v W (h : IsVault W v k1) => commit_calls v k1 W h q1 q2 (by have := o1.dirty; omega) o1.data o1.seq0 o1.seq1
  rw [e2] at C2
  have C3 := fun v W (h : IsVault W v k2) => write_calls v k2 3 [120, 121] W h o2.good o2.rise
  rw [e3] at C3
  have C4 := fun v W (h : IsVault W v k3) => read_calls v k3 3 W h o3.good o3.rise
  rw [e4] at C4
  have C5 := fun v W (h : IsDisk W v k3.disk) => rstart_calls v k3.disk 0 W h (op.ok hn16 (by omega)) op.inn (by omega)
  rw [show (⟨settleF 0 k3.disk.wet k3.disk.sure, [], false, -1⟩ : DK) = D from hD.symm] at C5
  change ∀ v W, IsDisk W v k3.disk → Calls Tryz.prog 23 #[v, .int .u64 0] W _ at C5
  have C6 := fun v W (h : IsDisk W v D) => open_calls v D W h hpd hn16
  rw [e5] at C6
  have C7 := fun v W (h : IsVault W v k4) => read_calls v k4 3 W h o4.good o4.rise
  rw [e8] at C7
  have C8 := fun v W (h : IsVault W v k4) => read_calls v k4 4 W h o4.good o4.rise
  rw [e9] at C8
  have C9 := fun v W (h : IsVault W v k3) => write_calls v k3 16 [] W h o3.good o3.rise
  rw [e10] at C9
  have hpz : Pl 0 0 (⟨[], [], false, -1⟩ : DK) := ⟨⟨rfl, Nat.le_refl _, by dsimp only; omega, by dsimp only; omega⟩, rising_nil, wetIn_nil rfl⟩
  have CZ := fun W => open_calls (.agg #[.slice none 0 0, .slice none 0 0, .bool false, .int .i64 (-1)]) ⟨[], [], false, -1⟩ W ⟨_, _, rfl, SL.nil _ _ _, SL.nil _ _ _⟩ hpz (by omega)
  rw [open_blank] at CZ
  obtain ⟨kz, hkz⟩ : ∃ k, k = (openV ⟨[], [], false, -1⟩).1 := ⟨_, rfl⟩
  obtain ⟨dz, hdz⟩ : ∃ k, k = (openV ⟨[], [], false, -1⟩).2.1 := ⟨_, rfl⟩
  rw [← hkz, ← hdz] at CZ
  have P1 := fun W => page_calls [120, 121] W (by decide)
  have P2 := fun W => page_calls [97, 98] W (by decide)
  have P3 := fun W => page_calls [] W (by decide)
  obtain ⟨g1, hg1⟩ : ∃ g, g = padP [120, 121] := ⟨_, rfl⟩
  obtain ⟨g2, hg2⟩ : ∃ g, g = padP [97, 98] := ⟨_, rfl⟩
  obtain ⟨g3, hg3⟩ : ∃ g, g = padP [] := ⟨_, rfl⟩
  rw [← hg1] at C4 P1
  rw [← hg2] at C7 P2
  rw [← hg3] at C8 P3
  dsimp only at C1 C2 C3 C4 C6 C7 C8 C9
  change ∀ v W, IsVault W v k0 → Calls Tryz.prog 26 #[v, .int .i64 3, .string ⟨#[97, 98]⟩] W _ at C1
  change ∀ v W, IsVault W v k2 → Calls Tryz.prog 26 #[v, .int .i64 3, .string ⟨#[120, 121]⟩] W _ at C3
  change ∀ v W, IsVault W v k3 → Calls Tryz.prog 26 #[v, .int .i64 16, .string ⟨#[]⟩] W _ at C9
  change ∀ W, Calls Tryz.prog 16 #[.string ⟨#[120, 121]⟩] W _ at P1
  change ∀ W, Calls Tryz.prog 16 #[.string ⟨#[97, 98]⟩] W _ at P2
  change ∀ W, Calls Tryz.prog 16 #[.string ⟨#[]⟩] W _ at P3
  have CF := Lib.hid CF
  have CB := Lib.hid CB
  have C1 := Lib.hid C1
  have C2 := Lib.hid C2
  have C3 := Lib.hid C3
  have C4 := Lib.hid C4
  have C5 := Lib.hid C5
  have C6 := Lib.hid C6
  have C7 := Lib.hid C7
  have C8 := Lib.hid C8
  have C9 := Lib.hid C9
  have CZ := Lib.hid CZ
  have P1 := Lib.hid P1
  have P2 := Lib.hid P2
  have P3 := Lib.hid P3
  have HSQ := Lib.hid e6
  have HDY := Lib.hid e7
  have HS3 := Lib.hid e11
  clear q1 q2 q3 e1 e2 e3 e4 e5 e6 e7 e8 e9 e10 e11 o0 o1 o2 o3 o4 op hpd hn16 hpz hk0 hD hkz hdz hg1 hg2 hg3
  go_enter Tryz.func10, Tryz.ntmps10
  go_wp2_with fail
  (with_reducible refine (CF.out _).mono ?_)
  rintro e w1 ⟨u, rfl, hu, hB⟩
  obtain ⟨A1, A2, A3, A4, A5, A6, A7, A8, A9, rfl⟩ := vault_parts hu
  obtain ⟨Y, hY, hV, _⟩ := VH.new hB hu
  have HY := Lib.hid hY
  obtain ⟨G, hG⟩ : ∃ G, G = w1.heap.size := ⟨_, rfl⟩
  rw [← hG] at hV
  have HV := Lib.hid hV
  have HG := Lib.hid hG.symm
  clear hu hB hY hV hG
  go_upto_region 2 with (fail)
  rw [HY.out, HG.out]
  clear HY HG
  obtain ⟨i0, i1, i2, i3, i4, i5, i6, i7⟩ := HV.out.box.at_
  go_wp2_with fail
  (with_reducible refine (C1.out _ _ HV.out.val).mono ?_)
  rintro e wx ⟨u, rfl, hu, hB⟩
  obtain ⟨B1, B2, B3, B4, B5, B6, B7, B8, B9, rfl⟩ := vault_parts hu
  have HW := Lib.hid (HV.out.more hB)
  obtain ⟨X, hX, hn, _, _⟩ := HW.out.put hu
  have HX := Lib.hid hX
  have HN := Lib.hid hn
  clear i0 i1 i2 i3 i4 i5 i6 i7 HV hu hB hX hn
  obtain ⟨i0, i1, i2, i3, i4, i5, i6, i7⟩ := HW.out.box.at_
  have kf := HW.out.box.free
  go_upto_region 3 with (fail)
  rw [HX.out]
  clear i0 i1 i2 i3 i4 i5 i6 i7 kf HX HW
  have HV := Lib.hid HN.out
  clear HN
  obtain ⟨i0, i1, i2, i3, i4, i5, i6, i7⟩ := HV.out.box.at_
  go_wp2_with fail
  (with_reducible refine (C2.out _ _ HV.out.val).mono ?_)
  rintro e wx ⟨u, rfl, hu, hB⟩
  obtain ⟨M1, M2, M3, M4, M5, M6, M7, M8, M9, rfl⟩ := vault_parts hu
  have HW := Lib.hid (HV.out.more hB)
  obtain ⟨X, hX, hn, _, _⟩ := HW.out.put hu
  have HX := Lib.hid hX
  have HN := Lib.hid hn
  clear i0 i1 i2 i3 i4 i5 i6 i7 HV hu hB hX hn
  obtain ⟨i0, i1, i2, i3, i4, i5, i6, i7⟩ := HW.out.box.at_
  have kf := HW.out.box.free
  go_upto_region 4 with (fail)
  rw [HX.out]
  clear i0 i1 i2 i3 i4 i5 i6 i7 kf HX HW
  have HV := Lib.hid HN.out
  clear HN
  obtain ⟨i0, i1, i2, i3, i4, i5, i6, i7⟩ := HV.out.box.at_
  go_wp2_with fail
  (with_reducible refine (C3.out _ _ HV.out.val).mono ?_)
  rintro e wx ⟨u, rfl, hu, hB⟩
  obtain ⟨E1, E2, E3, E4, E5, E6, E7, E8, E9, rfl⟩ := vault_parts hu
  have HW := Lib.hid (HV.out.more hB)
  obtain ⟨X, hX, hn, _, _⟩ := HW.out.put hu
  have HX := Lib.hid hX
  have HN := Lib.hid hn
  clear i0 i1 i2 i3 i4 i5 i6 i7 HV hu hB hX hn
  obtain ⟨i0, i1, i2, i3, i4, i5, i6, i7⟩ := HW.out.box.at_
  have kf := HW.out.box.free
  go_upto_region 5 with (fail)
  rw [HX.out]
  clear i0 i1 i2 i3 i4 i5 i6 i7 kf HX HW
  have HV := Lib.hid HN.out
  clear HN
  obtain ⟨i0, i1, i2, i3, i4, i5, i6, i7⟩ := HV.out.box.at_
  go_wp2_with fail
  (with_reducible refine (C4.out _ _ HV.out.val).mono ?_)
  rintro e wx ⟨rfl, hB⟩
  have HW := Lib.hid (HV.out.more hB)
  clear i0 i1 i2 i3 i4 i5 i6 i7 HV hB
  obtain ⟨i0, i1, i2, i3, i4, i5, i6, i7⟩ := HW.out.box.at_
  go_wp2_with fail
  (with_reducible refine (C5.out _ _ (vault_open HW.out.val).1).mono ?_)
  rintro e wy ⟨u, rfl, hu, hB⟩
  have HV := Lib.hid (HW.out.more hB)
  have HU := Lib.hid hu
  clear i0 i1 i2 i3 i4 i5 i6 i7 HW hu hB
  go_wp2_with fail
  (with_reducible refine (C6.out _ _ HU.out).mono ?_)
  rintro e wz ⟨u1, u2, rfl, hu1, hu2, hB⟩
  obtain ⟨U1, U2, U3, U4, U5, U6, U7, U8, U9, rfl⟩ := vault_parts hu1
  obtain ⟨F1, F2, F3, F4, F5, F6, rfl⟩ := hu2.parts
  have hv1 := HV.out.more hB
  obtain ⟨Z1, hZ1, hn1, hb1⟩ := VH.new hv1.below hu1
  obtain ⟨Z2, hZ2⟩ : ∃ Z2, Z2 = Z1.alloc (.cells #[.slice F1 F2 F3, .slice F4 F5 F6, .bool k4.disk.dead, .int .i64 k4.disk.left] 28) := ⟨_, rfl⟩
  have hb2 : Below Z1.heap.size Z1 Z2 := by rw [hZ2]; exact below_one _ _
  have hW2 := (hv1.more hb1).more hb2
  have hN2 := hn1.more hb2
  have HW := Lib.hid hW2
  obtain ⟨Q, hQ⟩ : ∃ Q, Q = wz.heap.size := ⟨_, rfl⟩
  have hs1 : Z1.heap.size = Q + 1 := by rw [← hZ1, hQ]; simp
  rw [← hQ] at hN2
  have HN := Lib.hid hN2
  have HZ1 := Lib.hid hZ1
  have HZ2 := Lib.hid hZ2.symm
  have HQ := Lib.hid hQ.symm
  have HS1 := Lib.hid hs1
  clear hu1 hu2 hB hv1 hZ1 hn1 hb1 hZ2 hb2 hW2 hQ hs1 hN2 HV HU
  go_upto_region 7 with (fail)
  rw [HZ1.out, HZ2.out]
  rw [HQ.out]
  clear HZ1 HZ2 HQ HS1
  obtain ⟨i0, i1, i2, i3, i4, i5, i6, i7⟩ := HN.out.box.at_
  go_wp2_with fail
  (with_reducible refine (C7.out _ _ HN.out.val).mono ?_)
  rintro e wx ⟨rfl, hB⟩
  have HV := Lib.hid (HW.out.more hB)
  have HM := Lib.hid (HN.out.more hB)
  clear i0 i1 i2 i3 i4 i5 i6 i7 HW HN hB
  obtain ⟨i0, i1, i2, i3, i4, i5, i6, i7⟩ := HM.out.box.at_
  go_wp2_with fail
  (with_reducible refine (C8.out _ _ HM.out.val).mono ?_)
  rintro e wx ⟨rfl, hB⟩
  have HW := Lib.hid (HV.out.more hB)
  have HN := Lib.hid (HM.out.more hB)
  clear i0 i1 i2 i3 i4 i5 i6 i7 HV HM hB
  obtain ⟨i0, i1, i2, i3, i4, i5, i6, i7⟩ := HW.out.box.at_
  go_wp2_with fail
  (with_reducible refine (C9.out _ _ HW.out.val).mono ?_)
  rintro e wx ⟨u, rfl, hu, hB⟩
  obtain ⟨R1, R2, R3, R4, R5, R6, R7, R8, R9, rfl⟩ := vault_parts hu
  have hv1 := HW.out.more hB
  have hm1 := HN.out.more hB
  obtain ⟨Z1, hZ1, hn1, hb1⟩ := VH.new hv1.below hu
  have HV := Lib.hid (hv1.more hb1)
  have HM := Lib.hid (hm1.more hb1)
  have HZ1 := Lib.hid hZ1
  clear i0 i1 i2 i3 i4 i5 i6 i7 HW HN hB hu hv1 hm1 hZ1 hn1 hb1
  go_upto_region 10 with (fail)
  rw [HZ1.out]
  clear HZ1
  go_wp2_with fail
  (with_reducible refine (CB.out _).mono ?_)
  rintro e wx ⟨u, rfl, hu, hB⟩
  obtain ⟨T1, T2, T3, T4, T5, T6, T7, T8, T9, rfl⟩ := vault_parts hu
  have hv1 := HV.out.more hB
  have hm1 := HM.out.more hB
  obtain ⟨Z1, hZ1, hn1, hb1⟩ := VH.new hv1.below hu
  have HW := Lib.hid (hv1.more hb1)
  have HN := Lib.hid (hm1.more hb1)
  have HZ1 := Lib.hid hZ1
  clear HV HM hB hu hv1 hm1 hZ1 hn1 hb1
  go_upto_region 11 with (fail)
  rw [HZ1.out]
  clear HZ1
  go_wp2_with fail
  (with_reducible refine (CZ.out _).mono ?_)
  rintro e wx ⟨u1, u2, rfl, hu1, hu2, hB⟩
  obtain ⟨J1, J2, J3, J4, J5, J6, J7, J8, J9, rfl⟩ := vault_parts hu1
  obtain ⟨L1, L2, L3, L4, L5, L6, rfl⟩ := hu2.parts
  have hv1 := HW.out.more hB
  have hm1 := HN.out.more hB
  have hlay : ∀ o1 o2, VH w ((wx.alloc o1).alloc o2) G (.slice E1 E2 E3) (.slice E4 E5 E6) (.slice E7 E8 E9) k3 ∧ VH w ((wx.alloc o1).alloc o2) Q (.slice U1 U2 U3) (.slice U4 U5 U6) (.slice U7 U8 U9) k4 := fun o1 o2 => ⟨(hv1.more (below_one _ _)).more (below_one _ _), (hm1.more (below_one _ _)).more (below_one _ _)⟩
  have HLAY := Lib.hid hlay
  clear HW HN hB hu1 hu2 hv1 hm1 hlay
  obtain ⟨Z, hZ⟩ : ∃ Z, Z = (wx.alloc (.cells #[.slice J1 J2 J3, .slice J4 J5 J6, .bool kz.disk.dead, .int .i64 kz.disk.left, .int .i64 kz.shape.pages, .int .i64 kz.shape.journal, .int .i64 kz.seq, .slice J7 J8 J9] 33)).alloc (.cells #[.slice L1 L2 L3, .slice L4 L5 L6, .bool dz.dead, .int .i64 dz.left] 28) := ⟨_, rfl⟩
  have hz := HLAY.out (.cells #[.slice J1 J2 J3, .slice J4 J5 J6, .bool kz.disk.dead, .int .i64 kz.disk.left, .int .i64 kz.shape.pages, .int .i64 kz.shape.journal, .int .i64 kz.seq, .slice J7 J8 J9] 33) (.cells #[.slice L1 L2 L3, .slice L4 L5 L6, .bool dz.dead, .int .i64 dz.left] 28)
  rw [← hZ] at hz
  have HA := Lib.hid hz.1
  have HN := Lib.hid hz.2
  have HZ := Lib.hid hZ.symm
  clear hZ hz HLAY
  obtain rfl : U8 = 0 := by
    obtain ⟨_, n, c, e, hn, _⟩ := (vault_open HN.out.val).2.open_
    injection e with _ e2
    rw [e2, hn, HDY.out]
    rfl
  go_wp2_with fail
  (with_reducible refine (P1.out _).mono ?_)
  rintro e wq ⟨rfl, hB⟩
  rw [HZ.out] at hB
  have HA2 := Lib.hid (HA.out.more hB)
  have HN2 := Lib.hid (HN.out.more hB)
  clear hB HZ HA HN
  have HA := Lib.hid HA2.out
  have HN := Lib.hid HN2.out
  clear HA2 HN2
  have i6 := HN.out.box.at_.c6
  have i7 := HN.out.box.at_.c7
  have j6 := HA.out.box.at_.c6
  rw [HSQ.out] at i6
  rw [HS3.out] at j6
  go_wp2_with fail
  (with_reducible refine (P2.out _).mono ?_)
  rintro e wq2 ⟨rfl, hB⟩
  have HA2 := Lib.hid (HA.out.more hB)
  have HN2 := Lib.hid (HN.out.more hB)
  clear hB HA HN i6 i7 j6
  have HA := Lib.hid HA2.out
  have HN := Lib.hid HN2.out
  clear HA2 HN2
  go_wp2_with fail
  (with_reducible refine (P3.out _).mono ?_)
  rintro e wq3 ⟨rfl, hB⟩
  have HA2 := Lib.hid (HA.out.more hB)
  clear hB HA HN
  have HA := Lib.hid HA2.out
  clear HA2
  have j6 := HA.out.box.at_.c6
  rw [HS3.out] at j6
  go_wp2_with fail
  go_ret
  exact ⟨by simp, HA.out.below⟩

end Go.Proofs.YtnbbijpmkhdgpaaGreat.Vlt
