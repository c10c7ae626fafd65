/- Contracts and plain mathematics that the statement's proof wants: no statement is proved here, nothing is assumed. -/
import Derived.Test.YtnbbijpmkhdgpaaGreatMg20
import Derived.Test.YtnbbijpmkhdgpaaGreatMg36
/- LAgain -/
namespace Go.Proofs.YtnbbijpmkhdgpaaGreat.Vlt
open Go.RowKit Go.Sort
open Dsk

/-- What VaultAgain knows of a vault without Dirty pages. -/
structure GInv (x : Sh) (m : Int) (v : VK) : Prop where
  r : ∃ P, Rest x P m v
  d : v.dirty = []
theorem again_step {x : Sh} {m : Int} {v : VK} (hx : rightS x = true) (h : GInv x m v) (hm : m ≤ 2147483647) (stay : Nat) :
    ∃ u, openV (stD v.disk stay) = (u, u.disk, 0) ∧ GInv x m u ∧ u.seq = v.seq ∧ ∀ k : Nat, k < PN x → ∃ b, readV v k = (b, 0) ∧ readV u k = (b, 0) := by
  obtain ⟨P, r⟩ := h.r
  obtain ⟨a1, a2, a3, a4, a5⟩ := start_rest r stay
  obtain ⟨u, u1, u2, u3, u4, u5⟩ := open_is hx a1 a2 a3 a4 (by have := r.seq1; have := r.low; omega) (by omega)
  refine ⟨u, u1, ⟨⟨P, u2.more (by omega)⟩, u3⟩, ?_, fun k hk => ⟨P k, ?_, ?_⟩⟩
  · rw [u5, r.seq]
    have : jS (sureB (stD v.disk stay)) = jS (sureB v.disk) := by funext q; unfold jS; rw [a5]
    rw [this]
  · rw [read_rest hx r hk, h.d, ovr_nil]
  · rw [read_rest hx u2 hk, u3, ovr_nil]
theorem VH.set7 {b W : World} {g : Nat} {v0 v1 v7 : Value} {k : VK} (h : VH b W g v0 v1 v7 k) :
    ∃ X, W.setCell ⟨g, 7, none⟩ (.slice none 0 0) = X ∧ VH b X g v0 v1 (.slice none 0 0) { k with dirty := [] } := by
  refine ⟨_, rfl, heap_setCell_same W g 7 _ 33 _ h.box, ?_, h.below.setCell (p := ⟨g, 7, none⟩) h.far _, h.far⟩
  obtain ⟨h1, h2⟩ := vault_open h.val
  exact ⟨_, _, _, rfl, h1.other h.box (by decide) (by decide) (fun q hq => Below.heap_setCell _ _ _ _ hq), IsLfs.nil _⟩
theorem room_rest {x : Sh} {m : Int} {v : VK} (h : RInv x m v) : GInv x m { v with dirty := [] } := by
  obtain ⟨P, r⟩ := h.r
  exact ⟨⟨P, r.clean⟩, rfl⟩
theorem room_does {x : Sh} {m : Int} {v : VK} (hx : rightS x = true) (h : RInv x m v) (hm : m ≤ 2147483647) (a : AK) (ha : 0 ≤ a.kind ∧ a.kind ≤ 2) : RInv x (m + 1) (doesV v a).1 := by
  by_cases c : a.kind = 2
  · exact (room_2 hx h hm a c).1
  · exact room_01 hx h a (by omega)

set_option maxRecDepth 100000 in
set_option maxHeartbeats 16000000 in
theorem again_calls (A : Option Addr) (len cap : Nat) (xs : List AK) (tm stay : Nat) (w : World) (hR : ActIn w A len xs) (hlm : len ≤ 9223372036854775807) (htm : tm < 256) (hst : stay < 18446744073709551616) :
    Calls Tryz.prog 7 #[.slice A len cap, .int .u8 (tm : Nat), .int .u64 (stay : Nat)] w fun e w' => e = .returned (.bool true) ∧ Below w.heap.size w w' := by
  have CSM := Lib.hid (small_calls A len cap xs 40 w hR hlm)
  have CAW := Lib.hid awake_true
  obtain ⟨r, hr⟩ : ∃ r, r = tm % 4 := ⟨_, rfl⟩
  have hr4 : r < 4 := by omega
  have hrm : (tm : Int) % 4 = (r : Nat) := by omega
  have htm2 : (tm : Int) < 256 := by omega
  have CF := fun W => format_ok shape20 W right20
  change ∀ W : World, Calls Tryz.prog 11 #[.int .i64 20, .int .i64 30] W _ at CF
  obtain ⟨k0, hk0⟩ : ∃ k, k = formatV shape20 := ⟨_, rfl⟩
  rw [← hk0] at CF
  have CF := Lib.hid CF
  have hb0 : RInv shape20 1 k0 := by
    obtain ⟨r0, d0, l0, _⟩ := format_rest right20
    rw [← hk0] at r0 d0 l0
    exact ⟨⟨_, r0⟩, l0⟩
  have HB0 := Lib.hid hb0
  have HR := Lib.hid hR
  have HST := Lib.hid hst
  clear hR hb0 hk0 hr hst
  go_enter Tryz.func7, Tryz.ntmps7
  go_wp2_with fail
  (with_reducible refine CSM.out.mono ?_)
  rintro e w1 ⟨b, rfl, hsm, hB1⟩
  have HB1 := Lib.hid hB1
  cases hbq : b with
  | false =>
    clear hsm hbq hB1
    go_wp2_with fail
    (with_reducible refine (CAW.out _).mono ?_)
    rintro e w2 ⟨rfl, hB2⟩
    go_wp2_with fail
    go_ret
    exact ⟨rfl, Dsk.below_trans' HB1.out hB2⟩
  | true =>
    have hl40 : len ≤ 40 := by have := hsm hbq; omega
    have HL := Lib.hid hl40
    clear hsm hbq hB1 hlm
    go_wp2_with fail
    (with_reducible refine (CF.out _).mono ?_)
    rintro e w2 ⟨u, rfl, hu, hB⟩
    obtain ⟨A1, A2, A3, A4, A5, A6, A7, A8, A9, rfl⟩ := vault_parts hu
    obtain ⟨Y, hY, hV, _⟩ := VH.new (b := w) (Dsk.below_trans' HB1.out hB) hu
    have HY := Lib.hid hY
    obtain ⟨G, hG⟩ : ∃ G, G = w2.heap.size := ⟨_, rfl⟩
    rw [← hG] at hV
    have HV0 := Lib.hid hV
    have HG := Lib.hid hG.symm
    clear hu hB hY hV hG HB1
    go_upto_region 4 with (fail)
    rw [HY.out, HG.out]
    clear HY HG
    go_wp2_with fail
    go_loopw [9] (fun u wr => ∃ (i : Nat) (k : VK) (A1 : Option Addr) (A2 A3 : Nat) (A4 : Option Addr) (A5 A6 : Nat) (A7 : Option Addr) (A8 A9 : Nat), i ≤ len ∧ u = .int .i64 i ∧ VH w wr G (.slice A1 A2 A3) (.slice A4 A5 A6) (.slice A7 A8 A9) k ∧ RInv shape20 (i + 1) k) (fun u _ => len - (intOf u).toNat)
    case atStart => exact ⟨0, k0, _, _, _, _, _, _, _, _, _, Nat.zero_le _, rfl, HV0.out, HB0.out⟩
    case round =>
      obtain ⟨i, k, A1, A2, A3, A4, A5, A6, A7, A8, A9, hi, rfl, hv, hb⟩ := hrel
      have HV := Lib.hid hv
      have HI := Lib.hid hb
      clear hv hb HV0
      by_cases hlt : i < len
      · obtain ⟨a, ha⟩ : ∃ a, xs[i]? = some a := ⟨_, List.getElem?_eq_getElem (by have := HR.out.1; omega)⟩
        have has := HR.out.2.1 a (List.mem_of_getElem? ha)
        obtain ⟨b, off, rfl, hat⟩ := act_at HR.out HV.out.below ha (by omega)
        obtain ⟨x0, x1, x2, x3⟩ := hat wr (Below.refl _ _)
        have hi1 : (0 : Int) ≤ (i : Int) := by omega
        have hi2 : (i : Int) < (len : Int) := by omega
        have HAT := Lib.hid hat
        have HAS := Lib.hid has
        clear ha hat has
        have hmi : ((i : Int) + 1) < 2147483647 := by have := HL.out; omega
        have step := fun h => room_does (v := k) right20 HI.out (by omega) a h
        have CD := fun v W (h : IsVault W v k) => does_calls v k a W h (HI.out.ok right20 (by omega)) HAS.out
        obtain ⟨k2, hk2⟩ : ∃ k2, k2 = (doesV k a).1 := ⟨_, rfl⟩
        obtain ⟨s2, hs2⟩ : ∃ s, s = strB (doesV k a).2.1 := ⟨_, rfl⟩
        obtain ⟨e2, he2⟩ : ∃ e, e = (doesV k a).2.2 := ⟨_, rfl⟩
        rw [← hk2, ← hs2, ← he2] at CD
        rw [← hk2] at step
        unfold AK.v at CD
        have CD := Lib.hid CD
        have STEP := Lib.hid step
        have HMO := Lib.hid (HI.out.more (m' := (i : Int) + 1 + 1) (by omega))
        clear step hk2 hs2 he2 hmi
        obtain ⟨kind, place, data, stay'⟩ := a
        dsimp only at x0 x1 x2 x3 CD HAT STEP
        by_cases hsk : 0 ≤ kind ∧ kind ≤ 2
        rotate_left
        · have hp : ¬ 0 ≤ kind ∨ (0 ≤ kind ∧ ¬ kind ≤ 2) := by omega
          clear hsk
          rcases hp with hp | ⟨hp, hp2⟩
          all_goals
            go_wp2_with fail
            exact ⟨⟨i + 1, k, _, _, _, _, _, _, _, _, _, by omega, by go_num, HV.out, by exact HMO.out⟩, by simp [intOf]; omega⟩
        · have HS2 := Lib.hid (STEP.out hsk)
          clear STEP HMO
          have HT := Lib.hid (HV.out.more (Below.refl _ _).drew)
          obtain ⟨hp0, hp1⟩ := hsk
          go_upto_region 10 with (fail)
          clear x0 x1 x2 x3
          obtain ⟨x0, x1, x2, x3⟩ := HAT.out wr.drew (Below.refl _ _).drew
          obtain ⟨i0, i1, i2, i3, i4, i5, i6, i7⟩ := HT.out.box.at_
          go_region_with (first
            | (go_at_call 14; (with_reducible refine (CD.out _ _ HT.out.val).mono ?_); rintro e wa ⟨u, rfl, hu, hBa⟩; obtain ⟨U1, U2, U3, U4, U5, U6, U7, U8, U9, rfl⟩ := vault_parts hu; (with_reducible have HW := Lib.hid (HT.out.more hBa)); have HU := Lib.hid hu; clear hu hBa; have kf := HW.out.box.free; obtain ⟨j0, j1, j2, j3, j4, j5, j6, j7⟩ := HW.out.box.at_))
          all_goals
            obtain ⟨X, hX, hn, _, _⟩ := HW.out.put HU.out
            have HX := Lib.hid hX
            have HN := Lib.hid hn
            clear hX hn
            go_wp2_with fail
            rw [HX.out]
            exact ⟨⟨i + 1, k2, _, _, _, _, _, _, _, _, _, by omega, by go_num, HN.out, by exact HS2.out⟩, by simp [intOf]; omega⟩
      · have hnl : decide ((i : Int) < (len : Int)) = false := by simp; omega
        obtain ⟨M, hM⟩ : ∃ M : Int, M = (i : Int) + 1 := ⟨_, rfl⟩
        have hM2 : M ≤ 2147483647 := by have := HL.out; omega
        have hgi := room_rest HI.out
        rw [← hM] at hgi
        obtain ⟨X7, hX7, hs7⟩ := HV.out.set7
        have HX7 := Lib.hid hX7
        have HV7 := Lib.hid hs7
        have HG7 := Lib.hid hgi
        have HM2 := Lib.hid hM2
        have kf := HV.out.box.free
        have i7 := HV.out.box.at_.c7
        clear hM hM2 hgi hX7 hs7 HI
        go_upto_region 12 with (fail)
        rw [HX7.out]
        clear kf i7 HX7 HV
        obtain ⟨kv, hkv⟩ : ∃ kv, kv = ({ k with dirty := [] } : VK) := ⟨_, rfl⟩
        rw [← hkv] at HV7 HG7
        have h70 : ∃ (A1 : Option Addr) (A2 A3 : Nat) (A4 : Option Addr) (A5 A6 : Nat) (A7 : Option Addr) (A8 A9 : Nat), VH w X7 G (.slice A1 A2 A3) (.slice A4 A5 A6) (.slice A7 A8 A9) kv := ⟨_, _, _, _, _, _, _, _, _, by have h := HV7.out; rw [hkv] at h ⊢; exact h⟩
        clear hkv
        have H70 := Lib.hid h70
        clear h70 HV7
        go_wp2_with fail
        go_loopw [10] (fun u wr => ∃ (j : Nat) (k : VK) (A1 : Option Addr) (A2 A3 : Nat) (A4 : Option Addr) (A5 A6 : Nat) (A7 : Option Addr) (A8 A9 : Nat), j ≤ r ∧ u = .int .i64 j ∧ VH w wr G (.slice A1 A2 A3) (.slice A4 A5 A6) (.slice A7 A8 A9) k ∧ GInv shape20 M k) (fun u _ => r - (intOf u).toNat)
        case atStart =>
          obtain ⟨A1, A2, A3, A4, A5, A6, A7, A8, A9, h⟩ := H70.out
          exact ⟨0, kv, _, _, _, _, _, _, _, _, _, Nat.zero_le _, rfl, h, HG7.out⟩
        case round =>
          obtain ⟨j, k, A1, A2, A3, A4, A5, A6, A7, A8, A9, hj, rfl, hv, hg⟩ := hrel
          have HV := Lib.hid hv
          have HI := Lib.hid hg
          clear hv hg H70 HG7
          by_cases hjr : j < r
          rotate_left
          · have hnl : decide ((j : Int) < (r : Int)) = false := by simp; omega
            go_wp2_with fail
            (with_reducible refine (CAW.out _).mono ?_)
            rintro e w2 ⟨rfl, hB2⟩
            go_wp2_with fail
            go_ret
            exact ⟨rfl, Dsk.below_trans' HV.out.below hB2⟩
          have hj1 : (j : Int) < (r : Int) := by omega
          obtain ⟨K, hK, hKI, hKS, hKR⟩ := again_step right20 HI.out HM2.out stay
          obtain ⟨D, hD⟩ : ∃ D, D = stD k.disk stay := ⟨_, rfl⟩
          obtain ⟨P0, r0⟩ := HI.out.r
          have hpd : Pl (NN shape20) 0 D := by rw [hD]; exact stD_pl r0.pl stay
          have hn20 : NN shape20 ≤ 2000 := by decide
          have CT := fun v W (h : IsDisk W v k.disk) => rstart_calls v k.disk stay W h (r0.pl.ok hn20 (by omega)) r0.pl.inn HST.out
          rw [show (⟨settleF stay k.disk.wet k.disk.sure, [], false, -1⟩ : DK) = D from hD.symm] at CT
          have CO := fun v W (h : IsDisk W v D) => open_calls v D W h hpd hn20
          rw [← hD] at hK
          rw [hK] at CO
          dsimp only at CO
          obtain ⟨PK, rk⟩ := hKI.r
          have CSA := fun v u W (h1 : IsDisk W v K.disk) (h2 : IsDisk W u K.disk) => Dsk.rsame_calls v u K.disk W h1 h2 (by have := rk.pl.good.sure; omega) (by have := rk.pl.good.wet; omega)
          have CRV := fun no v W (h : IsVault W v k) => read_calls v k no W h (r0.ok right20 HM2.out).good (r0.ok right20 HM2.out).rise
          have CRK := fun no v W (h : IsVault W v K) => read_calls v K no W h (rk.ok right20 HM2.out).good (rk.ok right20 HM2.out).rise
          have CT := Lib.hid CT
          have CO := Lib.hid CO
          have CSA := Lib.hid CSA
          have CRV := Lib.hid CRV
          have CRK := Lib.hid CRK
          have HKI := Lib.hid hKI
          have HKS := Lib.hid hKS
          have HKR := Lib.hid hKR
          clear hK hKI hKS hKR hD r0 hpd hn20 rk
          obtain ⟨i0, i1, i2, i3, i4, i5, i6, i7⟩ := HV.out.box.at_
          go_wp2_with fail
          (with_reducible refine (CT.out _ _ (vault_open HV.out.val).1).mono ?_)
          rintro e wy ⟨u, rfl, hu, hB⟩
          have HV1 := Lib.hid (HV.out.more hB)
          have HU := Lib.hid hu
          clear i0 i1 i2 i3 i4 i5 i6 i7 HV hu hB
          go_wp2_with fail
          (with_reducible refine (CO.out _ _ HU.out).mono ?_)
          rintro e wz ⟨u1, u2, rfl, hu1, hu2, hB⟩
          obtain ⟨U1, U2, U3, U4, U5, U6, U7, U8, U9, rfl⟩ := vault_parts hu1
          obtain ⟨F1, F2, F3, F4, F5, F6, rfl⟩ := hu2.parts
          obtain rfl : U8 = 0 := by
            have h := (vault_lens hu1).1
            rw [HKI.out.d] at h
            exact h
          have hv1 := HV1.out.more hB
          obtain ⟨Z1, hZ1, hn1, hb1⟩ := VH.new hv1.below hu1
          obtain ⟨Z2, hZ2⟩ : ∃ Z2, Z2 = Z1.alloc (.cells #[.slice F1 F2 F3, .slice F4 F5 F6, .bool K.disk.dead, .int .i64 K.disk.left] 28) := ⟨_, rfl⟩
          have hb2 : Below Z1.heap.size Z1 Z2 := by rw [hZ2]; exact below_one _ _
          have HW := Lib.hid ((hv1.more hb1).more hb2)
          obtain ⟨Q, hQ⟩ : ∃ Q, Q = wz.heap.size := ⟨_, rfl⟩
          have hs1 : Z1.heap.size = Q + 1 := by rw [← hZ1, hQ]; simp
          have hdx : Z2.heap[Q + 1]? = some (.cells #[.slice F1 F2 F3, .slice F4 F5 F6, .bool K.disk.dead, .int .i64 K.disk.left] 28 (0, 0)) := by rw [← hs1, hZ2]; exact heap_alloc_new Z1 _
          have hd2 := (hu2.below hb1).below hb2
          have hN2 := hn1.more hb2
          rw [← hQ] at hN2
          have HN := Lib.hid hN2
          have HDX := Lib.hid hdx
          have HD2 := Lib.hid hd2
          have HZ1 := Lib.hid hZ1
          have HZ2 := Lib.hid hZ2.symm
          have HQ := Lib.hid hQ.symm
          clear hu1 hu2 hB hv1 hZ1 hn1 hb1 hZ2 hb2 hQ hN2 HV1 HU hs1 hdx hd2
          go_upto_region 16 with (fail)
          rw [HZ1.out, HZ2.out]
          rw [HQ.out]
          clear HZ1 HZ2 HQ
          obtain ⟨j0, j1, j2, j3, j4, j5, j6, j7⟩ := HN.out.box.at_
          obtain ⟨i0, i1, i2, i3, i4, i5, i6, i7⟩ := HW.out.box.at_
          obtain ⟨⟨y0, y1, y2, y3⟩, _⟩ := box4 HDX.out
          rw [HKS.out] at j6
          go_wp2_with fail
          (with_reducible refine (CSA.out _ _ _ HD2.out (vault_open HN.out.val).1).mono ?_)
          rintro e wb ⟨rfl, hB⟩
          have HW2 := Lib.hid (HW.out.more hB)
          have HN2 := Lib.hid (HN.out.more hB)
          clear hB i0 i1 i2 i3 i4 i5 i6 i7 j0 j1 j2 j3 j4 j5 j6 j7 y0 y1 y2 y3 HW HN HDX HD2
          go_wp2_with fail
          go_loopw [14] (fun u wq => ∃ (n : Nat), n ≤ 20 ∧ u = .int .i64 n ∧ VH w wq G (.slice A1 A2 A3) (.slice A4 A5 A6) (.slice A7 A8 A9) k ∧ VH w wq Q (.slice U1 U2 U3) (.slice U4 U5 U6) (.slice U7 0 U9) K) (fun u _ => 20 - (intOf u).toNat)
          case atStart => exact ⟨0, by omega, rfl, HW2.out, HN2.out⟩
          case round =>
            obtain ⟨n, hn, rfl, hv, hq⟩ := hrel
            have HV := Lib.hid hv
            have HQ := Lib.hid hq
            clear hv hq HW2 HN2
            by_cases hn20 : n < 20
            · have hn1 : (n : Int) < 20 := by omega
              obtain ⟨B, b1, b2⟩ := HKR.out n (by rw [show PN shape20 = 20 from by decide]; exact hn20)
              have CV := CRV.out n
              have CK := CRK.out n
              rw [b1] at CV
              rw [b2] at CK
              dsimp only at CV CK
              obtain ⟨g, hg⟩ : ∃ g, g = strB B := ⟨_, rfl⟩
              rw [← hg] at CV CK
              have CV := Lib.hid CV
              have CK := Lib.hid CK
              clear b1 b2 hg
              obtain ⟨i0, i1, i2, i3, i4, i5, i6, i7⟩ := HV.out.box.at_
              go_wp2_with fail
              (with_reducible refine (CV.out _ _ HV.out.val).mono ?_)
              rintro e wx ⟨rfl, hB⟩
              have HV3 := Lib.hid (HV.out.more hB)
              have HQ3 := Lib.hid (HQ.out.more hB)
              clear hB i0 i1 i2 i3 i4 i5 i6 i7 HV HQ
              obtain ⟨i0, i1, i2, i3, i4, i5, i6, i7⟩ := HQ3.out.box.at_
              go_wp2_with fail
              (with_reducible refine (CK.out _ _ HQ3.out.val).mono ?_)
              rintro e wx2 ⟨rfl, hB⟩
              have HV := Lib.hid (HV3.out.more hB)
              have HQ := Lib.hid (HQ3.out.more hB)
              clear hB i0 i1 i2 i3 i4 i5 i6 i7 HV3 HQ3
              go_wp2_with fail
              exact ⟨⟨n + 1, by omega, by go_num, HV.out, HQ.out⟩, by simp [intOf]; omega⟩
            · have hnl : ¬ (n : Int) < 20 := by omega
              obtain ⟨i0, i1, i2, i3, i4, i5, i6, i7⟩ := HQ.out.box.at_
              obtain ⟨j0, j1, j2, j3, j4, j5, j6, j7⟩ := HV.out.box.at_
              have kf := HV.out.box.free
              obtain ⟨X, hX, hn', _, _⟩ := HV.out.put HQ.out.val
              have HX := Lib.hid hX
              have HF := Lib.hid hn'
              clear hX hn'
              go_wp2_with fail
              rw [HX.out]
              exact ⟨⟨j + 1, K, _, _, _, _, _, _, _, _, _, by omega, by go_num, HF.out, HKI.out⟩, by simp [intOf]; omega⟩

end Go.Proofs.YtnbbijpmkhdgpaaGreat.Vlt
