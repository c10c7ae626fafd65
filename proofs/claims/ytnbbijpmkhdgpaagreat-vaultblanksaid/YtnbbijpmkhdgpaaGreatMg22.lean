/- Contracts and plain mathematics that the statement's proof wants: no statement is proved here, nothing is assumed. -/
import Derived.Deep.RegionWith
import Derived.Lib.SmallJoins
import Derived.Test.YtnbbijpmkhdgpaaGreatMg08
import Derived.Test.YtnbbijpmkhdgpaaGreatMg21
/- LSmall -/
namespace Go.Proofs.YtnbbijpmkhdgpaaGreat.Dsk
open Go.RowKit

set_option maxRecDepth 100000 in
set_option maxHeartbeats 1000000 in
theorem small_calls (A : Option Addr) (len cap : Nat) (xs : List AK) (most : Int) (w : World) (hR : ActIn w A len xs) (hlm : len ≤ 9223372036854775807) :
    Calls Tryz.prog 9 #[.slice A len cap, .int .i64 most] w fun e w' => ∃ b, e = .returned (.bool b) ∧ (b = true → (len : Int) ≤ most) ∧ Below w.heap.size w w' := by
  have HR := Lib.hid hR
  clear hR
  go_enter Tryz.func9, Tryz.ntmps9
  go_wp2_with fail
  go_loopw [5] (fun u3 wr => ∃ i : Nat, i ≤ len ∧ u3 = .int .i64 i ∧ Below w.heap.size w wr) (fun u _ => len - (intOf u).toNat)
  case atStart => exact ⟨0, Nat.zero_le _, rfl, Below.refl _ _⟩
  case round =>
    obtain ⟨i, hi, rfl, hbr⟩ := hrel
    by_cases hlt : i < len
    · obtain ⟨a, ha⟩ : ∃ a, xs[i]? = some a := ⟨_, List.getElem?_eq_getElem (by have := HR.out.1; omega)⟩
      obtain ⟨b, off, rfl, hbl, hcell⟩ := HR.out.2.2 (by omega)
      have hc0 : wr.cell? ⟨b, off + i * 4 + 2, none⟩ = some (.string a.data) := (hbr.cell (p := ⟨b, off + i * 4 + 2, none⟩) hbl).trans (hcell i a ha).2.2.1
      have hi1 : (0 : Int) ≤ (i : Int) := by omega
      have hi2 : (i : Int) < (len : Int) := by omega
      clear hcell ha
      by_cases h4 : 300 < a.data.size
      · have hd : decide ((300 : Int) < (a.data.size : Int)) = true := by simp; omega
        go_wp2_with fail
        go_ret
        exact ⟨_, rfl, fun h => (by cases h), hbr⟩
      · have hd : decide ((300 : Int) < (a.data.size : Int)) = false := by simp; omega
        go_wp2_with fail
        exact ⟨⟨i + 1, by omega, by go_num, hbr⟩, by simp [intOf]; omega⟩
    · have hie : i = len := by omega
      have hnl : decide ((i : Int) < (len : Int)) = false := by simp; omega
      go_wp2_with fail
      go_ret
      exact ⟨_, rfl, fun h => (by have := of_decide_eq_true h; omega), hbr⟩

end Go.Proofs.YtnbbijpmkhdgpaaGreat.Dsk

/- LBlank -/
namespace Go.Proofs.YtnbbijpmkhdgpaaGreat.Vlt
open Go.RowKit Go.Sort
open Dsk

def shape20 : Sh := ⟨20, 30⟩
theorem right20 : rightS shape20 = true := by decide

/-- A deed that came in, in any world behind. -/
theorem act_at {w w' : World} {A : Option Addr} {len : Nat} {xs : List AK} (h : ActIn w A len xs) (hb : Below w.heap.size w w') {i : Nat} {a : AK} (ha : xs[i]? = some a) (hl : 0 < len) :
    ∃ b off, A = some ⟨b, off, none⟩ ∧ ∀ W, Below w'.heap.size w' W → W.cell? ⟨b, off + i * 4, none⟩ = some (.int .i64 a.kind) ∧ W.cell? ⟨b, off + i * 4 + 1, none⟩ = some (.int .i64 a.place) ∧ W.cell? ⟨b, off + i * 4 + 2, none⟩ = some (.string a.data) ∧ W.cell? ⟨b, off + i * 4 + 3, none⟩ = some (.int .u64 a.stay) := by
  obtain ⟨b, off, e, hbl, hc⟩ := h.2.2 hl
  obtain ⟨c0, c1, c2, c3⟩ := hc i a ha
  refine ⟨b, off, e, fun W hW => ?_⟩
  have hk := Dsk.below_trans' hb hW
  exact ⟨(hk.cell (p := ⟨b, off + i * 4, none⟩) hbl).trans c0, (hk.cell (p := ⟨b, off + i * 4 + 1, none⟩) hbl).trans c1, (hk.cell (p := ⟨b, off + i * 4 + 2, none⟩) hbl).trans c2, (hk.cell (p := ⟨b, off + i * 4 + 3, none⟩) hbl).trans c3⟩

set_option maxRecDepth 100000 in
set_option maxHeartbeats 16000000 in
theorem blank_calls (A : Option Addr) (len cap : Nat) (xs : List AK) (keep : Nat) (w : World) (hR : ActIn w A len xs) (hlm : len ≤ 9223372036854775807) (hkp : keep < 256) :
    Calls Tryz.prog 8 #[.slice A len cap, .int .u8 (keep : Nat)] w fun e w' => e = .returned (.bool true) ∧ Below w.heap.size w w' := by
  have CSM := Lib.hid (small_calls A len cap xs 40 w hR hlm)
  have CAW := Lib.hid awake_true
  obtain ⟨kk, hkk⟩ : ∃ kk, kk = keep % 20 := ⟨_, rfl⟩
  have hk20 : kk < 20 := by omega
  have hkm : (keep : Int) % 20 = (kk : Nat) := by omega
  have hkp2 : (keep : Int) < 256 := by omega
  have CF := fun W => format_ok shape20 W right20
  change ∀ W : World, Calls Tryz.prog 11 #[.int .i64 20, .int .i64 30] W _ at CF
  obtain ⟨k0, hk0⟩ : ∃ k, k = formatV shape20 := ⟨_, rfl⟩
  rw [← hk0] at CF
  have CF := Lib.hid CF
  have hb0 : BInv shape20 kk 1 k0 := by
    obtain ⟨r0, d0, _, _⟩ := format_rest right20
    rw [← hk0] at r0 d0
    exact .live _ r0 rfl (by rw [d0]; simp)
  have HB0 := Lib.hid hb0
  have HR := Lib.hid hR
  have HKK := Lib.hid hkk
  clear hR hb0 hk0 hkk
  go_enter Tryz.func8, Tryz.ntmps8
  go_wp2_with fail
  (with_reducible refine CSM.out.mono ?_)
  rintro e w1 ⟨b, rfl, hsm, hB1⟩
  have HB1 := Lib.hid hB1
  cases hbq : b with
  | false =>
    clear hsm hbq hB1
    go_wp2_with fail
    (with_reducible refine (CAW.out _).mono ?_)
    rintro e w2 ⟨rfl, hB2⟩
    go_wp2_with fail
    go_ret
    exact ⟨rfl, Dsk.below_trans' HB1.out hB2⟩
  | true =>
    have hl40 : len ≤ 40 := by have := hsm hbq; omega
    have HL := Lib.hid hl40
    clear hsm hbq hB1 hlm
    go_wp2_with fail
    (with_reducible refine (CF.out _).mono ?_)
    rintro e w2 ⟨u, rfl, hu, hB⟩
    obtain ⟨A1, A2, A3, A4, A5, A6, A7, A8, A9, rfl⟩ := vault_parts hu
    obtain ⟨Y, hY, hV, _⟩ := VH.new (b := w) (Dsk.below_trans' HB1.out hB) hu
    have HY := Lib.hid hY
    obtain ⟨G, hG⟩ : ∃ G, G = w2.heap.size := ⟨_, rfl⟩
    rw [← hG] at hV
    have HV0 := Lib.hid hV
    have HG := Lib.hid hG.symm
    clear hu hB hY hV hG HB1
    go_upto_region 5 with (fail)
    rw [HY.out, HG.out]
    clear HY HG
    go_wp2_with fail
    go_loopw [8] (fun u wr => ∃ (i : Nat) (k : VK) (A1 : Option Addr) (A2 A3 : Nat) (A4 : Option Addr) (A5 A6 : Nat) (A7 : Option Addr) (A8 A9 : Nat), i ≤ len ∧ u = .int .i64 i ∧ VH w wr G (.slice A1 A2 A3) (.slice A4 A5 A6) (.slice A7 A8 A9) k ∧ BInv shape20 kk (i + 1) k) (fun u _ => len - (intOf u).toNat)
    case atStart => exact ⟨0, k0, _, _, _, _, _, _, _, _, _, Nat.zero_le _, rfl, HV0.out, HB0.out⟩
    case round =>
      obtain ⟨i, k, A1, A2, A3, A4, A5, A6, A7, A8, A9, hi, rfl, hv, hb⟩ := hrel
      have HV := Lib.hid hv
      have HI := Lib.hid hb
      clear hv hb HV0
      by_cases hlt : i < len
      · obtain ⟨a, ha⟩ : ∃ a, xs[i]? = some a := ⟨_, List.getElem?_eq_getElem (by have := HR.out.1; omega)⟩
        have has := HR.out.2.1 a (List.mem_of_getElem? ha)
        obtain ⟨b, off, rfl, hat⟩ := act_at HR.out HV.out.below ha (by omega)
        obtain ⟨x0, x1, x2, x3⟩ := hat wr (Below.refl _ _)
        have hi1 : (0 : Int) ≤ (i : Int) := by omega
        have hi2 : (i : Int) < (len : Int) := by omega
        have HAT := Lib.hid hat
        have HAS := Lib.hid has
        clear ha hat has
        have hmi : ((i : Int) + 1) < 2147483647 := by have := HL.out; omega
        have step := fun h => blank_does (v := k) right20 HI.out (by omega) hmi a HAS.out h
        have CD := fun v W (h : IsVault W v k) => does_calls v k a W h (HI.out.ok right20 (by omega)) HAS.out
        obtain ⟨k2, hk2⟩ : ∃ k2, k2 = (doesV k a).1 := ⟨_, rfl⟩
        obtain ⟨s2, hs2⟩ : ∃ s, s = strB (doesV k a).2.1 := ⟨_, rfl⟩
        obtain ⟨e2, he2⟩ : ∃ e, e = (doesV k a).2.2 := ⟨_, rfl⟩
        rw [← hk2, ← hs2, ← he2] at CD
        rw [← hk2] at step
        unfold AK.v at CD
        have CD := Lib.hid CD
        have STEP := Lib.hid step
        have HMO := Lib.hid (HI.out.more (m' := (i : Int) + 1 + 1) (by omega))
        clear step hk2 hs2 he2 hmi
        obtain ⟨kind, place, data, stay⟩ := a
        dsimp only at x0 x1 x2 x3 CD HAT STEP
        by_cases hsk : kind = 0 ∧ place = (kk : Int)
        · obtain ⟨rfl, rfl⟩ := hsk
          go_wp2_with fail
          exact ⟨⟨i + 1, k, _, _, _, _, _, _, _, _, _, by omega, by go_num, HV.out, by exact HMO.out⟩, by simp [intOf]; omega⟩
        · have HST := Lib.hid (STEP.out hsk)
          clear STEP HMO
          have HT := Lib.hid (HV.out.more (Below.refl _ _).drew)
          have hpre : (kind == 0) = false ∨ ((kind == 0) = true ∧ (place == (kk : Int)) = false) := by
            by_cases h : kind = 0
            · exact .inr ⟨by simpa using h, by simpa using fun e => hsk ⟨h, e⟩⟩
            · exact .inl (by simpa using h)
          clear hsk
          rcases hpre with hp0 | ⟨hp0, hp1⟩
          all_goals
            go_upto_region 9 with (fail)
            clear x0 x1 x2 x3
            obtain ⟨x0, x1, x2, x3⟩ := HAT.out wr.drew (Below.refl _ _).drew
            obtain ⟨i0, i1, i2, i3, i4, i5, i6, i7⟩ := HT.out.box.at_
            go_region_with (first
              | (go_at_call 14; (with_reducible refine (CD.out _ _ HT.out.val).mono ?_); rintro e wa ⟨u, rfl, hu, hBa⟩; obtain ⟨U1, U2, U3, U4, U5, U6, U7, U8, U9, rfl⟩ := vault_parts hu; (with_reducible have HW := Lib.hid (HT.out.more hBa)); have HU := Lib.hid hu; clear hu hBa; have kf := HW.out.box.free; obtain ⟨j0, j1, j2, j3, j4, j5, j6, j7⟩ := HW.out.box.at_))
            all_goals
              obtain ⟨X, hX, hn, _, _⟩ := HW.out.put HU.out
              have HX := Lib.hid hX
              have HN := Lib.hid hn
              clear hX hn
              go_wp2_with fail
              rw [HX.out]
              exact ⟨⟨i + 1, k2, _, _, _, _, _, _, _, _, _, by omega, by go_num, HN.out, by exact HST.out⟩, by simp [intOf]; omega⟩
      · have hnl : decide ((i : Int) < (len : Int)) = false := by simp; omega
        obtain ⟨i0, i1, i2, i3, i4, i5, i6, i7⟩ := HV.out.box.at_
        rcases Bool.eq_false_or_eq_true k.disk.dead with hd | hd
        · have hii : (i : Int) + 1 < 2147483647 := by have := HL.out; omega
          obtain ⟨q1, q2, q3⟩ := blank_start right20 HI.out (by omega) hii keep
          have hvo := HI.out.ok right20 (by omega)
          obtain ⟨nn, ii, p1, p2, p3⟩ := hvo.pl
          obtain ⟨D, hD⟩ : ∃ D, D = stD k.disk keep := ⟨_, rfl⟩
          have hpd : Pl nn 0 D := by rw [hD]; exact stD_pl p1 keep
          have CT := fun v W (h : IsDisk W v k.disk) => rstart_calls v k.disk keep W h (p1.ok p2 (by omega)) p1.inn (by omega)
          rw [show (⟨settleF keep k.disk.wet k.disk.sure, [], false, -1⟩ : DK) = D from hD.symm] at CT
          have CO := fun v W (h : IsDisk W v D) => open_calls v D W h hpd p2
          rw [← hD] at q1 q2 q3
          obtain ⟨K, hK⟩ : ∃ K, K = (openV D).1 := ⟨_, rfl⟩
          obtain ⟨F, hF⟩ : ∃ F, F = (openV D).2.1 := ⟨_, rfl⟩
          rw [q1, ← hK, ← hF] at CO
          rw [← hK] at q2 q3
          have CT := Lib.hid CT
          have CO := Lib.hid CO
          have HI2 := Lib.hid q2
          have HDD := Lib.hid q3
          have HDE := Lib.hid hd
          rw [hd] at i2
          clear q1 q2 q3 hvo p1 p2 p3 hpd hD hK hF hd hii
          go_upto_region 11 with (fail)
          clear i2
          have i2 := HV.out.box.at_.c2
          go_wp2_with fail
          (with_reducible refine (CT.out _ _ (vault_open HV.out.val).1).mono ?_)
          rintro e wy ⟨u, rfl, hu, hB⟩
          have HV1 := Lib.hid (HV.out.more hB)
          have HU := Lib.hid hu
          clear i0 i1 i2 i3 i4 i5 i6 i7 HV hu hB
          go_wp2_with fail
          (with_reducible refine (CO.out _ _ HU.out).mono ?_)
          rintro e wz ⟨u1, u2, rfl, hu1, hu2, hB⟩
          obtain ⟨U1, U2, U3, U4, U5, U6, U7, U8, U9, rfl⟩ := vault_parts hu1
          obtain ⟨F1, F2, F3, F4, F5, F6, rfl⟩ := hu2.parts
          have hv1 := HV1.out.more hB
          obtain ⟨Z1, hZ1, hn1, hb1⟩ := VH.new hv1.below hu1
          obtain ⟨Z2, hZ2⟩ : ∃ Z2, Z2 = Z1.alloc (.cells #[.slice F1 F2 F3, .slice F4 F5 F6, .bool F.dead, .int .i64 F.left] 28) := ⟨_, rfl⟩
          have hb2 : Below Z1.heap.size Z1 Z2 := by rw [hZ2]; exact below_one _ _
          have HW := Lib.hid ((hv1.more hb1).more hb2)
          obtain ⟨Q, hQ⟩ : ∃ Q, Q = wz.heap.size := ⟨_, rfl⟩
          have hN2 := hn1.more hb2
          rw [← hQ] at hN2
          have HN := Lib.hid hN2
          have HZ1 := Lib.hid hZ1
          have HZ2 := Lib.hid hZ2.symm
          have HQ := Lib.hid hQ.symm
          clear hu1 hu2 hB hv1 hZ1 hn1 hb1 hZ2 hb2 hQ hN2 HV1 HU
          go_upto_region 12 with (fail)
          rw [HZ1.out, HZ2.out]
          rw [HQ.out]
          clear HZ1 HZ2 HQ
          obtain ⟨j0, j1, j2, j3, j4, j5, j6, j7⟩ := HN.out.box.at_
          obtain ⟨i0, i1, i2, i3, i4, i5, i6, i7⟩ := HW.out.box.at_
          have kf := HW.out.box.free
          obtain ⟨X, hX, hn, _, _⟩ := HW.out.put HN.out.val
          have HX := Lib.hid hX
          have HV := Lib.hid hn
          clear hX hn
          go_upto_region 15 with (fail)
          rw [HX.out]
          clear i0 i1 i2 i3 i4 i5 i6 i7 j0 j1 j2 j3 j4 j5 j6 j7 kf HX HW HN
          have hrd := blank_read right20 HI2.out (show kk < PN shape20 by rw [show PN shape20 = 20 from by decide]; exact hk20) HDD.out
          have CR := Lib.hid (fun v W (h : IsVault W v K) => read_calls v K (kk : Nat) W h (HI2.out.ok right20 (by have := HL.out; omega)).good (HI2.out.ok right20 (by have := HL.out; omega)).rise)
          rw [hrd] at CR
          dsimp only at CR
          obtain ⟨g3, hg3⟩ : ∃ g, g = strB (Ent.zer 208) := ⟨_, rfl⟩
          have CP : Hid (∀ W, Calls Tryz.prog 16 #[.string ⟨#[]⟩] W fun e w' => e = .returned (.string g3) ∧ Below W.heap.size W w') := Lib.hid (fun W => by rw [hg3]; exact page_calls [] W (by decide))
          rw [← hg3] at CR
          clear hrd hg3
          obtain ⟨i0, i1, i2, i3, i4, i5, i6, i7⟩ := HV.out.box.at_
          go_wp2_with fail
          (with_reducible refine (CR.out _ _ HV.out.val).mono ?_)
          rintro e wx ⟨rfl, hB⟩
          have HBX := Lib.hid (Dsk.below_trans' HV.out.below hB)
          clear hB i0 i1 i2 i3 i4 i5 i6 i7
          go_wp2_with fail
          (with_reducible refine (CAW.out _).mono ?_)
          rintro e wy ⟨rfl, hB⟩
          have HBY := Lib.hid (Dsk.below_trans' HBX.out hB)
          clear hB HBX
          go_wp2_with fail
          (with_reducible refine (CP.out _).mono ?_)
          rintro e wz ⟨rfl, hB⟩
          go_wp2_with fail
          go_ret
          exact ⟨by simp, Dsk.below_trans' HBY.out hB⟩
        · have HDD := Lib.hid hd
          have HDE := Lib.hid hd
          rw [hd] at i2
          clear hd
          go_upto_region 15 with (fail)
          clear i0 i1 i2 i3 i4 i5 i6 i7
          have hrd := blank_read right20 HI.out (show kk < PN shape20 by rw [show PN shape20 = 20 from by decide]; exact hk20) HDD.out
          have CR := Lib.hid (fun v W (h : IsVault W v k) => read_calls v k (kk : Nat) W h (HI.out.ok right20 (by have := HL.out; omega)).good (HI.out.ok right20 (by have := HL.out; omega)).rise)
          rw [hrd] at CR
          dsimp only at CR
          obtain ⟨g3, hg3⟩ : ∃ g, g = strB (Ent.zer 208) := ⟨_, rfl⟩
          have CP : Hid (∀ W, Calls Tryz.prog 16 #[.string ⟨#[]⟩] W fun e w' => e = .returned (.string g3) ∧ Below W.heap.size W w') := Lib.hid (fun W => by rw [hg3]; exact page_calls [] W (by decide))
          rw [← hg3] at CR
          clear hrd hg3
          obtain ⟨i0, i1, i2, i3, i4, i5, i6, i7⟩ := HV.out.box.at_
          go_wp2_with fail
          (with_reducible refine (CR.out _ _ HV.out.val).mono ?_)
          rintro e wx ⟨rfl, hB⟩
          have HBX := Lib.hid (Dsk.below_trans' HV.out.below hB)
          clear hB i0 i1 i2 i3 i4 i5 i6 i7
          go_wp2_with fail
          (with_reducible refine (CAW.out _).mono ?_)
          rintro e wy ⟨rfl, hB⟩
          have HBY := Lib.hid (Dsk.below_trans' HBX.out hB)
          clear hB HBX
          go_wp2_with fail
          (with_reducible refine (CP.out _).mono ?_)
          rintro e wz ⟨rfl, hB⟩
          go_wp2_with fail
          go_ret
          exact ⟨by simp, Dsk.below_trans' HBY.out hB⟩

end Go.Proofs.YtnbbijpmkhdgpaaGreat.Vlt

/- DOpen -/
namespace Go.Proofs.YtnbbijpmkhdgpaaGreat.Dsk
open Go.ChangeShapes Go.WideShapes Go.Deep Go.RowKit

theorem own : ownKnob Tryz.prog.godebug = none := by kernel_rfl
theorem laidOut : laidOutB Tryz.prog = true := by kernel_rfl

theorem i64_of {a : Int} (h : (Lit.int .i64 a).wf = true) : -9223372036854775808 ≤ a ∧ a ≤ 9223372036854775807 := by
  simp [Lit.wf, IntKind.min, IntKind.max, IntKind.bits, IntKind.signed] at h
  exact h

theorem u8_of {a : Int} (h : (Lit.int .u8 a).wf = true) : ∃ n : Nat, a = n ∧ n < 256 := by
  simp [Lit.wf, IntKind.min, IntKind.max, IntKind.bits, IntKind.signed] at h
  exact ⟨a.toNat, by omega, by omega⟩

theorem u64_of {a : Int} (h : (Lit.int .u64 a).wf = true) : ∃ n : Nat, a = n ∧ n < 18446744073709551616 := by
  simp [Lit.wf, IntKind.min, IntKind.max, IntKind.bits, IntKind.signed] at h
  exact ⟨a.toNat, by omega, by omega⟩

section
variable {H : Type} {enc : TypeId × Value → H} {W : World}


set_option maxRecDepth 100000 in
theorem act_of {n : Nat} {cs : List Value} {x : DataW H × List MemPlace} (h : DataW.trod enc Tryz.prog W 0 (fun _ => true) true n 42 cs = some x) :
    ∃ a : AK, cs = [.int .i64 a.kind, .int .i64 a.place, .string a.data, .int .u64 a.stay] ∧ a.stay < 18446744073709551616 ∧ a.place ≤ 9223372036854775807 := by
  obtain ⟨y0, y1, y2, y3, m, _, hl, h0, h1, h2, h3⟩ := Go.Joins.trod_struct4 Tryz.underlying42 h
  have hc : Tryz.prog.cellsOf 42 = 4 := by kernel_rfl
  have c3 : Tryz.prog.cellsOf 3 = 1 := by kernel_rfl
  have c9 : Tryz.prog.cellsOf 9 = 1 := by kernel_rfl
  have c33 : Tryz.prog.cellsOf 40 = 1 := by kernel_rfl
  rw [hc] at hl
  obtain ⟨v0, v1, v2, v3, rfl⟩ : ∃ v0 v1 v2 v3, cs = [v0, v1, v2, v3] := by
    match cs, hl with
    | [v0, v1, v2, v3], _ => exact ⟨v0, v1, v2, v3, rfl⟩
  simp only [c3, c9, c33] at h0 h1 h2 h3
  obtain ⟨k, e0, _, w0⟩ := DataW.trod_int Tryz.underlying3 h0
  obtain ⟨p, e1, _, w1⟩ := DataW.trod_int Tryz.underlying3 h1
  obtain ⟨s, e2, _, _⟩ := DataW.trod_string Tryz.underlying9 h2
  obtain ⟨t, e3, _, w3⟩ := DataW.trod_int Tryz.underlying40 h3
  simp at e0 e1 e2 e3
  subst e0 e1 e2 e3
  obtain ⟨q, rfl, hq⟩ := u64_of w3
  exact ⟨⟨k, p, s, q⟩, rfl, hq, (i64_of w1).2⟩


set_option maxRecDepth 100000 in
theorem acts_of {fuel : Nat} {A : Option Addr} {len cap : Nat} {x : DataW H × List MemPlace} (h : DataW.trod enc Tryz.prog W 0 (fun _ => true) true fuel 22 (Value.cells (.slice A len cap)).toList = some x) :
    ∃ xs, ActIn W A len xs ∧ len ≤ 9223372036854775807 := by
  rcases open_slice Tryz.underlying22 h with ⟨hcs, _⟩ | ⟨a, l, c, m, n, D, Pl, hcs, _, hl, hm, hmm, _, hi⟩
  · simp [Value.cells] at hcs
    obtain ⟨rfl, rfl, rfl⟩ := hcs
    exact ⟨[], ⟨rfl, fun _ h => absurd h (by simp), fun h => absurd h (by omega)⟩, by omega⟩
  · simp [Value.cells] at hcs
    obtain ⟨rfl, rfl, rfl⟩ := hcs
    simp only [if_true] at hmm
    have hc : Tryz.prog.cellsOf 42 = 4 := by kernel_rfl
    rw [hc] at hi
    have hex : ∀ i : Nat, ∃ b : AK, i < len → (b.stay < 18446744073709551616 ∧ b.place ≤ 9223372036854775807) ∧ W.cell? (a.add (i * 4)) = some (.int .i64 b.kind) ∧ W.cell? ((a.add (i * 4)).add 1) = some (.int .i64 b.place) ∧ W.cell? ((a.add (i * 4)).add 2) = some (.string b.data) ∧ W.cell? ((a.add (i * 4)).add 3) = some (.int .u64 b.stay) := by
      intro i
      by_cases hil : i < len
      · obtain ⟨cs', hcs', ht⟩ := hi i (by omega)
        obtain ⟨b, rfl, h1, h2⟩ := act_of ht
        obtain ⟨_, _, hat⟩ := World.cells?_some hcs'
        refine ⟨b, fun _ => ⟨⟨h1, h2⟩, ?_, hat 1 (by omega), hat 2 (by omega), hat 3 (by omega)⟩⟩
        have h0 := hat 0 (by omega)
        simpa [Addr.add] using h0
      · exact ⟨⟨0, 0, ⟨#[]⟩, 0⟩, fun h => absurd h hil⟩
    obtain ⟨f, hf⟩ := Classical.axiomOfChoice hex
    refine ⟨(List.range len).map f, ⟨by simp, ?_, fun hp => ?_⟩, Nat.le_trans hl (Nat.le_trans hm (by decide))⟩
    · intro b hb
      obtain ⟨i, hi', rfl⟩ := List.mem_map.1 hb
      exact (hf i (List.mem_range.1 hi')).1
    · obtain ⟨b, off, spot⟩ := a
      have h0 := (hf 0 hp).2.1
      have hspot : spot = none := by simpa [Addr.add] using World.cell?_spot h0
      subst hspot
      refine ⟨b, off, rfl, World.block_lt_of_cell? W _ h0, fun j c hj => ?_⟩
      have hj' : j < len ∧ f j = c := by
        rw [List.getElem?_map] at hj
        by_cases hjl : j < len
        · rw [List.getElem?_range hjl] at hj
          exact ⟨hjl, by simpa using hj⟩
        · rw [List.getElem?_eq_none (by simp; omega)] at hj
          cases hj
      obtain ⟨hjl, rfl⟩ := hj'
      have e : ∀ q : Nat, (⟨b, off, none⟩ : Addr).add q = ⟨b, off + q, none⟩ := fun q => by
        unfold Addr.add
        split
        · rename_i h; subst h; rfl
        · rfl
      have e' : ∀ r q : Nat, (⟨b, r, none⟩ : Addr).add q = ⟨b, r + q, none⟩ := fun r q => by
        unfold Addr.add
        split
        · rename_i h; subst h; rfl
        · rfl
      have hh := (hf j hjl).2
      simp only [e, e'] at hh
      exact hh
end

end Go.Proofs.YtnbbijpmkhdgpaaGreat.Dsk
