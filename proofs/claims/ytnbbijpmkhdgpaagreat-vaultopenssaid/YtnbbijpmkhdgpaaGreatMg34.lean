/- Contracts and plain mathematics that the statement's proof wants: no statement is proved here, nothing is assumed. -/
import Derived.Deep.RegionWith
import Derived.Test.YtnbbijpmkhdgpaaGreatMg13
import Derived.Test.YtnbbijpmkhdgpaaGreatMg33
/- LBlank -/
namespace Go.Proofs.YtnbbijpmkhdgpaaGreat.Vlt
open Go.RowKit Go.Sort
open Dsk

def shape20 : Sh := ⟨20, 30⟩
theorem right20 : rightS shape20 = true := by decide

/-- A deed that came in, in any world behind. -/
theorem act_at {w w' : World} {A : Option Addr} {len : Nat} {xs : List AK} (h : ActIn w A len xs) (hb : Below w.heap.size w w') {i : Nat} {a : AK} (ha : xs[i]? = some a) (hl : 0 < len) :
    ∃ b off, A = some ⟨b, off, none⟩ ∧ ∀ W, Below w'.heap.size w' W → W.cell? ⟨b, off + i * 4, none⟩ = some (.int .i64 a.kind) ∧ W.cell? ⟨b, off + i * 4 + 1, none⟩ = some (.int .i64 a.place) ∧ W.cell? ⟨b, off + i * 4 + 2, none⟩ = some (.string a.data) ∧ W.cell? ⟨b, off + i * 4 + 3, none⟩ = some (.int .u64 a.stay) := by
  obtain ⟨b, off, e, hbl, hc⟩ := h.2.2 hl
  obtain ⟨c0, c1, c2, c3⟩ := hc i a ha
  refine ⟨b, off, e, fun W hW => ?_⟩
  have hk := Dsk.below_trans' hb hW
  exact ⟨(hk.cell (p := ⟨b, off + i * 4, none⟩) hbl).trans c0, (hk.cell (p := ⟨b, off + i * 4 + 1, none⟩) hbl).trans c1, (hk.cell (p := ⟨b, off + i * 4 + 2, none⟩) hbl).trans c2, (hk.cell (p := ⟨b, off + i * 4 + 3, none⟩) hbl).trans c3⟩

set_option maxRecDepth 100000 in
set_option maxHeartbeats 16000000 in
theorem blank_calls (A : Option Addr) (len cap : Nat) (xs : List AK) (keep : Nat) (w : World) (hR : ActIn w A len xs) (hlm : len ≤ 9223372036854775807) (hkp : keep < 256) :
    Calls Tryz.prog 8 #[.slice A len cap, .int .u8 (keep : Nat)] w fun e w' => e = .returned (.bool true) ∧ Below w.heap.size w w' := by
  have CSM := Lib.hid (small_calls A len cap xs 40 w hR hlm)
  have CAW := Lib.hid awake_true
  obtain ⟨kk, hkk⟩ : ∃ kk, kk = keep % 20 := ⟨_, rfl⟩
  have hk20 : kk < 20 := by omega
  have hkm : (keep : Int) % 20 = (kk : Nat) := by omega
  have hkp2 : (keep : Int) < 256 := by omega
  have CF := fun W => format_ok shape20 W right20
  change ∀ W : World, Calls Tryz.prog 11 #[.int .i64 20, .int .i64 30] W _ at CF
  obtain ⟨k0, hk0⟩ : ∃ k, k = formatV shape20 := ⟨_, rfl⟩
  rw [← hk0] at CF
  have CF := Lib.hid CF
  have hb0 : BInv shape20 kk 1 k0 := by
    obtain ⟨r0, d0, _, _⟩ := format_rest right20
    rw [← hk0] at r0 d0
    exact .live _ r0 rfl (by rw [d0]; simp)
  have HB0 := Lib.hid hb0
  have HR := Lib.hid hR
  have HKK := Lib.hid hkk
  clear hR hb0 hk0 hkk
  go_enter Tryz.func8, Tryz.ntmps8
  go_wp2_with fail
  (with_reducible refine CSM.out.mono ?_)
  rintro e w1 ⟨b, rfl, hsm, hB1⟩
  have HB1 := Lib.hid hB1
  cases hbq : b with
  | false =>
    clear hsm hbq hB1
    go_wp2_with fail
    (with_reducible refine (CAW.out _).mono ?_)
    rintro e w2 ⟨rfl, hB2⟩
    go_wp2_with fail
    go_ret
    exact ⟨rfl, Dsk.below_trans' HB1.out hB2⟩
  | true =>
    have hl40 : len ≤ 40 := by have := hsm hbq; omega
    have HL := Lib.hid hl40
    clear hsm hbq hB1 hlm
    go_wp2_with fail
    (with_reducible refine (CF.out _).mono ?_)
    rintro e w2 ⟨u, rfl, hu, hB⟩
    obtain ⟨A1, A2, A3, A4, A5, A6, A7, A8, A9, rfl⟩ := vault_parts hu
    obtain ⟨Y, hY, hV, _⟩ := VH.new (b := w) (Dsk.below_trans' HB1.out hB) hu
    have HY := Lib.hid hY
    obtain ⟨G, hG⟩ : ∃ G, G = w2.heap.size := ⟨_, rfl⟩
    rw [← hG] at hV
    have HV0 := Lib.hid hV
    have HG := Lib.hid hG.symm
    clear hu hB hY hV hG HB1
    go_upto_region 5 with (fail)
    rw [HY.out, HG.out]
    clear HY HG
    go_wp2_with fail
    go_loopw [8] (fun u wr => ∃ (i : Nat) (k : VK) (A1 : Option Addr) (A2 A3 : Nat) (A4 : Option Addr) (A5 A6 : Nat) (A7 : Option Addr) (A8 A9 : Nat), i ≤ len ∧ u = .int .i64 i ∧ VH w wr G (.slice A1 A2 A3) (.slice A4 A5 A6) (.slice A7 A8 A9) k ∧ BInv shape20 kk (i + 1) k) (fun u _ => len - (intOf u).toNat)
    case atStart => exact ⟨0, k0, _, _, _, _, _, _, _, _, _, Nat.zero_le _, rfl, HV0.out, HB0.out⟩
    case round =>
      obtain ⟨i, k, A1, A2, A3, A4, A5, A6, A7, A8, A9, hi, rfl, hv, hb⟩ := hrel
      have HV := Lib.hid hv
      have HI := Lib.hid hb
      clear hv hb HV0
      by_cases hlt : i < len
      · obtain ⟨a, ha⟩ : ∃ a, xs[i]? = some a := ⟨_, List.getElem?_eq_getElem (by have := HR.out.1; omega)⟩
        have has := HR.out.2.1 a (List.mem_of_getElem? ha)
        obtain ⟨b, off, rfl, hat⟩ := act_at HR.out HV.out.below ha (by omega)
        obtain ⟨x0, x1, x2, x3⟩ := hat wr (Below.refl _ _)
        have hi1 : (0 : Int) ≤ (i : Int) := by omega
        have hi2 : (i : Int) < (len : Int) := by omega
        have HAT := Lib.hid hat
        have HAS := Lib.hid has
        clear ha hat has
        have hmi : ((i : Int) + 1) < 2147483647 := by have := HL.out; omega
        have step := fun h => blank_does (v := k) right20 HI.out (by omega) hmi a HAS.out h
        have CD := fun v W (h : IsVault W v k) => does_calls v k a W h (HI.out.ok right20 (by omega)) HAS.out
        obtain ⟨k2, hk2⟩ : ∃ k2, k2 = (doesV k a).1 := ⟨_, rfl⟩
        obtain ⟨s2, hs2⟩ : ∃ s, s = strB (doesV k a).2.1 := ⟨_, rfl⟩
        obtain ⟨e2, he2⟩ : ∃ e, e = (doesV k a).2.2 := ⟨_, rfl⟩
        rw [← hk2, ← hs2, ← he2] at CD
        rw [← hk2] at step
        unfold AK.v at CD
        have CD := Lib.hid CD
        have STEP := Lib.hid step
        have HMO := Lib.hid (HI.out.more (m' := (i : Int) + 1 + 1) (by omega))
        clear step hk2 hs2 he2 hmi
        obtain ⟨kind, place, data, stay⟩ := a
        dsimp only at x0 x1 x2 x3 CD HAT STEP
        by_cases hsk : kind = 0 ∧ place = (kk : Int)
        · obtain ⟨rfl, rfl⟩ := hsk
          go_wp2_with fail
          exact ⟨⟨i + 1, k, _, _, _, _, _, _, _, _, _, by omega, by go_num, HV.out, by exact HMO.out⟩, by simp [intOf]; omega⟩
        · have HST := Lib.hid (STEP.out hsk)
          clear STEP HMO
          have HT := Lib.hid (HV.out.more (Below.refl _ _).drew)
          have hpre : (kind == 0) = false ∨ ((kind == 0) = true ∧ (place == (kk : Int)) = false) := by
            by_cases h : kind = 0
            · exact .inr ⟨by simpa using h, by simpa using fun e => hsk ⟨h, e⟩⟩
            · exact .inl (by simpa using h)
          clear hsk
          rcases hpre with hp0 | ⟨hp0, hp1⟩
          all_goals
            go_upto_region 9 with (fail)
            clear x0 x1 x2 x3
            obtain ⟨x0, x1, x2, x3⟩ := HAT.out wr.drew (Below.refl _ _).drew
            obtain ⟨i0, i1, i2, i3, i4, i5, i6, i7⟩ := HT.out.box.at_
            go_region_with (first
              | (go_at_call 14; (with_reducible refine (CD.out _ _ HT.out.val).mono ?_); rintro e wa ⟨u, rfl, hu, hBa⟩; obtain ⟨U1, U2, U3, U4, U5, U6, U7, U8, U9, rfl⟩ := vault_parts hu; (with_reducible have HW := Lib.hid (HT.out.more hBa)); have HU := Lib.hid hu; clear hu hBa; have kf := HW.out.box.free; obtain ⟨j0, j1, j2, j3, j4, j5, j6, j7⟩ := HW.out.box.at_))
            all_goals
              obtain ⟨X, hX, hn, _, _⟩ := HW.out.put HU.out
              have HX := Lib.hid hX
              have HN := Lib.hid hn
              clear hX hn
              go_wp2_with fail
              rw [HX.out]
              exact ⟨⟨i + 1, k2, _, _, _, _, _, _, _, _, _, by omega, by go_num, HN.out, by exact HST.out⟩, by simp [intOf]; omega⟩
      · have hnl : decide ((i : Int) < (len : Int)) = false := by simp; omega
        obtain ⟨i0, i1, i2, i3, i4, i5, i6, i7⟩ := HV.out.box.at_
        rcases Bool.eq_false_or_eq_true k.disk.dead with hd | hd
        · have hii : (i : Int) + 1 < 2147483647 := by have := HL.out; omega
          obtain ⟨q1, q2, q3⟩ := blank_start right20 HI.out (by omega) hii keep
          have hvo := HI.out.ok right20 (by omega)
          obtain ⟨nn, ii, p1, p2, p3⟩ := hvo.pl
          obtain ⟨D, hD⟩ : ∃ D, D = stD k.disk keep := ⟨_, rfl⟩
          have hpd : Pl nn 0 D := by rw [hD]; exact stD_pl p1 keep
          have CT := fun v W (h : IsDisk W v k.disk) => rstart_calls v k.disk keep W h (p1.ok p2 (by omega)) p1.inn (by omega)
          rw [show (⟨settleF keep k.disk.wet k.disk.sure, [], false, -1⟩ : DK) = D from hD.symm] at CT
          have CO := fun v W (h : IsDisk W v D) => open_calls v D W h hpd p2
          rw [← hD] at q1 q2 q3
          obtain ⟨K, hK⟩ : ∃ K, K = (openV D).1 := ⟨_, rfl⟩
          obtain ⟨F, hF⟩ : ∃ F, F = (openV D).2.1 := ⟨_, rfl⟩
          rw [q1, ← hK, ← hF] at CO
          rw [← hK] at q2 q3
          have CT := Lib.hid CT
          have CO := Lib.hid CO
          have HI2 := Lib.hid q2
          have HDD := Lib.hid q3
          have HDE := Lib.hid hd
          rw [hd] at i2
          clear q1 q2 q3 hvo p1 p2 p3 hpd hD hK hF hd hii
          go_upto_region 11 with (fail)
          clear i2
          have i2 := HV.out.box.at_.c2
          go_wp2_with fail
          (with_reducible refine (CT.out _ _ (vault_open HV.out.val).1).mono ?_)
          rintro e wy ⟨u, rfl, hu, hB⟩
          have HV1 := Lib.hid (HV.out.more hB)
          have HU := Lib.hid hu
          clear i0 i1 i2 i3 i4 i5 i6 i7 HV hu hB
          go_wp2_with fail
          (with_reducible refine (CO.out _ _ HU.out).mono ?_)
          rintro e wz ⟨u1, u2, rfl, hu1, hu2, hB⟩
          obtain ⟨U1, U2, U3, U4, U5, U6, U7, U8, U9, rfl⟩ := vault_parts hu1
          obtain ⟨F1, F2, F3, F4, F5, F6, rfl⟩ := hu2.parts
          have hv1 := HV1.out.more hB
          obtain ⟨Z1, hZ1, hn1, hb1⟩ := VH.new hv1.below hu1
          obtain ⟨Z2, hZ2⟩ : ∃ Z2, Z2 = Z1.alloc (.cells #[.slice F1 F2 F3, .slice F4 F5 F6, .bool F.dead, .int .i64 F.left] 28) := ⟨_, rfl⟩
          have hb2 : Below Z1.heap.size Z1 Z2 := by rw [hZ2]; exact below_one _ _
          have HW := Lib.hid ((hv1.more hb1).more hb2)
          obtain ⟨Q, hQ⟩ : ∃ Q, Q = wz.heap.size := ⟨_, rfl⟩
          have hN2 := hn1.more hb2
          rw [← hQ] at hN2
          have HN := Lib.hid hN2
          have HZ1 := Lib.hid hZ1
          have HZ2 := Lib.hid hZ2.symm
          have HQ := Lib.hid hQ.symm
          clear hu1 hu2 hB hv1 hZ1 hn1 hb1 hZ2 hb2 hQ hN2 HV1 HU
          go_upto_region 12 with (fail)
          rw [HZ1.out, HZ2.out]
          rw [HQ.out]
          clear HZ1 HZ2 HQ
          obtain ⟨j0, j1, j2, j3, j4, j5, j6, j7⟩ := HN.out.box.at_
          obtain ⟨i0, i1, i2, i3, i4, i5, i6, i7⟩ := HW.out.box.at_
          have kf := HW.out.box.free
          obtain ⟨X, hX, hn, _, _⟩ := HW.out.put HN.out.val
          have HX := Lib.hid hX
          have HV := Lib.hid hn
          clear hX hn
          go_upto_region 15 with (fail)
          rw [HX.out]
          clear i0 i1 i2 i3 i4 i5 i6 i7 j0 j1 j2 j3 j4 j5 j6 j7 kf HX HW HN
          have hrd := blank_read right20 HI2.out (show kk < PN shape20 by rw [show PN shape20 = 20 from by decide]; exact hk20) HDD.out
          have CR := Lib.hid (fun v W (h : IsVault W v K) => read_calls v K (kk : Nat) W h (HI2.out.ok right20 (by have := HL.out; omega)).good (HI2.out.ok right20 (by have := HL.out; omega)).rise)
          rw [hrd] at CR
          dsimp only at CR
          obtain ⟨g3, hg3⟩ : ∃ g, g = strB (Ent.zer 208) := ⟨_, rfl⟩
          have CP : Hid (∀ W, Calls Tryz.prog 16 #[.string ⟨#[]⟩] W fun e w' => e = .returned (.string g3) ∧ Below W.heap.size W w') := Lib.hid (fun W => by rw [hg3]; exact page_calls [] W (by decide))
          rw [← hg3] at CR
          clear hrd hg3
          obtain ⟨i0, i1, i2, i3, i4, i5, i6, i7⟩ := HV.out.box.at_
          go_wp2_with fail
          (with_reducible refine (CR.out _ _ HV.out.val).mono ?_)
          rintro e wx ⟨rfl, hB⟩
          have HBX := Lib.hid (Dsk.below_trans' HV.out.below hB)
          clear hB i0 i1 i2 i3 i4 i5 i6 i7
          go_wp2_with fail
          (with_reducible refine (CAW.out _).mono ?_)
          rintro e wy ⟨rfl, hB⟩
          have HBY := Lib.hid (Dsk.below_trans' HBX.out hB)
          clear hB HBX
          go_wp2_with fail
          (with_reducible refine (CP.out _).mono ?_)
          rintro e wz ⟨rfl, hB⟩
          go_wp2_with fail
          go_ret
          exact ⟨by simp, Dsk.below_trans' HBY.out hB⟩
        · have HDD := Lib.hid hd
          have HDE := Lib.hid hd
          rw [hd] at i2
          clear hd
          go_upto_region 15 with (fail)
          clear i0 i1 i2 i3 i4 i5 i6 i7
          have hrd := blank_read right20 HI.out (show kk < PN shape20 by rw [show PN shape20 = 20 from by decide]; exact hk20) HDD.out
          have CR := Lib.hid (fun v W (h : IsVault W v k) => read_calls v k (kk : Nat) W h (HI.out.ok right20 (by have := HL.out; omega)).good (HI.out.ok right20 (by have := HL.out; omega)).rise)
          rw [hrd] at CR
          dsimp only at CR
          obtain ⟨g3, hg3⟩ : ∃ g, g = strB (Ent.zer 208) := ⟨_, rfl⟩
          have CP : Hid (∀ W, Calls Tryz.prog 16 #[.string ⟨#[]⟩] W fun e w' => e = .returned (.string g3) ∧ Below W.heap.size W w') := Lib.hid (fun W => by rw [hg3]; exact page_calls [] W (by decide))
          rw [← hg3] at CR
          clear hrd hg3
          obtain ⟨i0, i1, i2, i3, i4, i5, i6, i7⟩ := HV.out.box.at_
          go_wp2_with fail
          (with_reducible refine (CR.out _ _ HV.out.val).mono ?_)
          rintro e wx ⟨rfl, hB⟩
          have HBX := Lib.hid (Dsk.below_trans' HV.out.below hB)
          clear hB i0 i1 i2 i3 i4 i5 i6 i7
          go_wp2_with fail
          (with_reducible refine (CAW.out _).mono ?_)
          rintro e wy ⟨rfl, hB⟩
          have HBY := Lib.hid (Dsk.below_trans' HBX.out hB)
          clear hB HBX
          go_wp2_with fail
          (with_reducible refine (CP.out _).mono ?_)
          rintro e wz ⟨rfl, hB⟩
          go_wp2_with fail
          go_ret
          exact ⟨by simp, Dsk.below_trans' HBY.out hB⟩

end Go.Proofs.YtnbbijpmkhdgpaaGreat.Vlt
