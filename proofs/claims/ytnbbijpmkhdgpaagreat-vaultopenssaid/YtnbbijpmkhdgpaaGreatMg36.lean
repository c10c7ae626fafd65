/- Contracts and plain mathematics that the statement's proof wants: no statement is proved here, nothing is assumed. -/
import Derived.Test.YtnbbijpmkhdgpaaGreatMg34
/- LRoom -/
namespace Go.Proofs.YtnbbijpmkhdgpaaGreat.Vlt
open Go.RowKit Go.Sort
open Dsk

theorem vault_lens {W : World} {A1 : Option Addr} {A2 A3 : Nat} {A4 : Option Addr} {A5 A6 : Nat} {A7 : Option Addr} {A8 A9 : Nat} {k : VK} (h : IsVault W (.agg #[.slice A1 A2 A3, .slice A4 A5 A6, .bool k.disk.dead, .int .i64 k.disk.left, .int .i64 k.shape.pages, .int .i64 k.shape.journal, .int .i64 k.seq, .slice A7 A8 A9]) k) : A8 = k.dirty.length ∧ A5 = k.disk.wet.length := by
  obtain ⟨⟨_, _, e, _, h2⟩, h3⟩ := vault_open h
  obtain ⟨_, n, c, e2, hn, _⟩ := h3.open_
  injection e2 with _ e3
  obtain ⟨_, _, e4, _⟩ := h2
  simp only [Value.agg.injEq, Array.mk.injEq, List.cons.injEq] at e
  rw [← e.2.1] at e4
  injection e4 with _ e5
  exact ⟨by rw [e3, hn], e5⟩

/-- What VaultRoom knows. -/
structure RInv (x : Sh) (m : Int) (v : VK) : Prop where
  r : ∃ P, Rest x P m v
  left : v.disk.left = -1
theorem RInv.more {x : Sh} {m m' : Int} {v : VK} (h : RInv x m v) (hm : m ≤ m') : RInv x m' v := ⟨by obtain ⟨P, r⟩ := h.r; exact ⟨P, r.more hm⟩, h.left⟩
theorem RInv.dry {x : Sh} {m : Int} {v : VK} (h : RInv x m v) : v.disk.wet = [] := by obtain ⟨P, r⟩ := h.r; exact r.dry
theorem RInv.ok {x : Sh} {m : Int} {v : VK} (hx : rightS x = true) (h : RInv x m v) (hm : m ≤ 2147483647) : VOk v := by obtain ⟨P, r⟩ := h.r; exact r.ok hx hm
theorem room_01 {x : Sh} {m : Int} {v : VK} (hx : rightS x = true) (h : RInv x m v) (a : AK) (ha : a.kind = 0 ∨ a.kind = 1) : RInv x (m + 1) (doesV v a).1 := by
  obtain ⟨P, r⟩ := h.r
  unfold doesV
  rcases ha with c | c
  · rw [if_pos c]
    dsimp only
    rcases write_any hx r a.place (dataL a) with ⟨e, j, e1, e2, e3, e4, e5, e6, e7⟩ | ⟨e, e1⟩
    · exact ⟨⟨P, e4.more (by omega)⟩, by rw [e6]; exact h.left⟩
    · rw [e1]; exact h.more (by omega)
  · rw [if_neg (by omega), if_pos c]
    exact h.more (by omega)
/-- A commit: nothing to do, refused, or done. -/
theorem room_2 {x : Sh} {m : Int} {v : VK} (hx : rightS x = true) (h : RInv x m v) (hm : m ≤ 2147483647) (a : AK) (ha : a.kind = 2) :
    RInv x (m + 1) (doesV v a).1 ∧ (doesV v a).1.dirty.length = 0 ∧ ((v.dirty.length = 0 ∧ (doesV v a).2.2 = 0 ∧ (doesV v a).1.seq = v.seq) ∨
      (0 < v.dirty.length ∧ JN x < v.dirty.length + 1 ∧ (doesV v a).2.2 = 8 ∧ (doesV v a).1.seq = v.seq) ∨ (0 < v.dirty.length ∧ v.dirty.length + 1 ≤ JN x ∧ (doesV v a).2.2 = 0 ∧ (doesV v a).1.seq = v.seq + 1)) := by
  obtain ⟨P, r⟩ := h.r
  unfold doesV
  rw [if_neg (by omega), if_neg (by omega), if_pos ha]
  dsimp only
  obtain ⟨n12, hl⟩ := commit_left hx r hm h.left
  rcases commit_is hx r hm with ⟨a1, b1⟩ | ⟨a1, b1, c1⟩ | ⟨a1, b1, c1, d1, e1, f1⟩ | ⟨a1, b1, c1, _⟩
  · rw [b1]
    exact ⟨h.more (by omega), by rw [a1]; rfl, .inl ⟨by rw [a1]; rfl, rfl, rfl⟩⟩
  · rw [c1]
    exact ⟨⟨⟨P, r.clean.more (by omega)⟩, h.left⟩, rfl, .inr (.inl ⟨List.length_pos_iff.2 a1, b1, rfl, rfl⟩)⟩
  · exact ⟨⟨⟨_, d1⟩, hl⟩, by rw [e1]; rfl, .inr (.inr ⟨List.length_pos_iff.2 a1, b1, c1, f1⟩)⟩
  · exact absurd c1 n12

set_option maxRecDepth 100000 in
set_option maxHeartbeats 16000000 in
theorem room_calls (A : Option Addr) (len cap : Nat) (xs : List AK) (jr : Nat) (w : World) (hR : ActIn w A len xs) (hlm : len ≤ 9223372036854775807) (hjr : jr < 256) :
    Calls Tryz.prog 5 #[.int .u8 (jr : Nat), .slice A len cap] w fun e w' => e = .returned (.bool true) ∧ Below w.heap.size w w' := by
  have CSM := Lib.hid (small_calls A len cap xs 60 w hR hlm)
  have CAW := Lib.hid awake_true
  obtain ⟨r, hr⟩ : ∃ r, r = jr % 6 := ⟨_, rfl⟩
  have hr6 : r < 6 := by omega
  have hrm : (jr : Int) % 6 = (r : Nat) := by omega
  have hjr2 : (jr : Int) < 256 := by omega
  obtain ⟨x, hxe⟩ : ∃ x : Sh, x = ⟨24, 8 + (r : Int)⟩ := ⟨_, rfl⟩
  have hx : rightS x = true := by rw [hxe]; exact right_iff.2 (by dsimp only; omega)
  have hxj : (JN x : Nat) = 8 + r := by rw [hxe]; unfold JN; dsimp only; omega
  have CF := fun W => format_ok x W hx
  have hxp : x.pages = 24 ∧ x.journal = 8 + (r : Int) := by rw [hxe]; exact ⟨rfl, rfl⟩
  rw [hxp.1, hxp.2] at CF
  obtain ⟨k0, hk0⟩ : ∃ k, k = formatV x := ⟨_, rfl⟩
  rw [← hk0] at CF
  have CF := Lib.hid CF
  have hb0 : RInv x 1 k0 := by
    obtain ⟨r0, d0, l0, _⟩ := format_rest hx
    rw [← hk0] at r0 d0 l0
    exact ⟨⟨_, r0⟩, l0⟩
  have HB0 := Lib.hid hb0
  have HR := Lib.hid hR
  have HX := Lib.hid hx
  have HXJ := Lib.hid hxj
  clear hR hb0 hk0 hr hxe hx hxj hxp
  go_enter Tryz.func5, Tryz.ntmps5
  go_wp2_with fail
  (with_reducible refine CSM.out.mono ?_)
  rintro e w1 ⟨b, rfl, hsm, hB1⟩
  have HB1 := Lib.hid hB1
  cases hbq : b with
  | false =>
    clear hsm hbq hB1
    go_wp2_with fail
    (with_reducible refine (CAW.out _).mono ?_)
    rintro e w2 ⟨rfl, hB2⟩
    go_wp2_with fail
    go_ret
    exact ⟨rfl, Dsk.below_trans' HB1.out hB2⟩
  | true =>
    have hl60 : len ≤ 60 := by have := hsm hbq; omega
    have HL := Lib.hid hl60
    clear hsm hbq hB1 hlm
    go_wp2_with fail
    (with_reducible refine (CF.out _).mono ?_)
    rintro e w2 ⟨u, rfl, hu, hB⟩
    obtain ⟨A1, A2, A3, A4, A5, A6, A7, A8, A9, rfl⟩ := vault_parts hu
    obtain ⟨Y, hY, hV, _⟩ := VH.new (b := w) (Dsk.below_trans' HB1.out hB) hu
    have HY := Lib.hid hY
    obtain ⟨G, hG⟩ : ∃ G, G = w2.heap.size := ⟨_, rfl⟩
    rw [← hG] at hV
    have HV0 := Lib.hid hV
    have HG := Lib.hid hG.symm
    clear hu hB hY hV hG HB1
    go_upto_region 5 with (fail)
    rw [HY.out, HG.out]
    clear HY HG
    go_wp2_with fail
    go_loopw [8] (fun u wr => ∃ (i : Nat) (k : VK) (A1 : Option Addr) (A2 A3 : Nat) (A4 : Option Addr) (A5 A6 : Nat) (A7 : Option Addr) (A8 A9 : Nat), i ≤ len ∧ u = .int .i64 i ∧ VH w wr G (.slice A1 A2 A3) (.slice A4 A5 A6) (.slice A7 A8 A9) k ∧ RInv x (i + 1) k) (fun u _ => len - (intOf u).toNat)
    case atStart => exact ⟨0, k0, _, _, _, _, _, _, _, _, _, Nat.zero_le _, rfl, HV0.out, HB0.out⟩
    case round =>
      obtain ⟨i, k, A1, A2, A3, A4, A5, A6, A7, A8, A9, hi, rfl, hv, hb⟩ := hrel
      have HV := Lib.hid hv
      have HI := Lib.hid hb
      clear hv hb HV0
      by_cases hlt : i < len
      rotate_left
      · have hnl : decide ((i : Int) < (len : Int)) = false := by simp; omega
        go_wp2_with fail
        (with_reducible refine (CAW.out _).mono ?_)
        rintro e w2 ⟨rfl, hB2⟩
        go_wp2_with fail
        go_ret
        exact ⟨rfl, Dsk.below_trans' HV.out.below hB2⟩
      obtain ⟨a, ha⟩ : ∃ a, xs[i]? = some a := ⟨_, List.getElem?_eq_getElem (by have := HR.out.1; omega)⟩
      have has := HR.out.2.1 a (List.mem_of_getElem? ha)
      obtain ⟨b, off, rfl, hat⟩ := act_at HR.out HV.out.below ha (by omega)
      obtain ⟨x0, x1, x2, x3⟩ := hat wr (Below.refl _ _)
      have hi1 : (0 : Int) ≤ (i : Int) := by omega
      have hi2 : (i : Int) < (len : Int) := by omega
      have HAS := Lib.hid has
      clear ha hat has
      have hmi : ((i : Int) + 1) < 2147483647 := by have := HL.out; omega
      have CD := fun v W (h : IsVault W v k) => does_calls v k a W h (HI.out.ok HX.out (by omega)) HAS.out
      have S1 := fun h => room_01 HX.out HI.out a h
      have S2 := fun h => room_2 HX.out HI.out (by omega) a h
      obtain ⟨k2, hk2⟩ : ∃ k2, k2 = (doesV k a).1 := ⟨_, rfl⟩
      obtain ⟨s2, hs2⟩ : ∃ s, s = strB (doesV k a).2.1 := ⟨_, rfl⟩
      obtain ⟨e2, he2⟩ : ∃ e, e = (doesV k a).2.2 := ⟨_, rfl⟩
      rw [← hk2, ← hs2, ← he2] at CD
      rw [← hk2] at S1 S2
      rw [← he2] at S2
      unfold AK.v at CD
      have CD := Lib.hid CD
      have S1 := Lib.hid S1
      have S2 := Lib.hid S2
      have HMO := Lib.hid (HI.out.more (m' := (i : Int) + 1 + 1) (by omega))
      have hA8 := (vault_lens HV.out.val).1
      have HA8 := Lib.hid hA8
      clear hk2 hs2 he2 hmi hA8
      obtain ⟨kind, place, data, stay⟩ := a
      dsimp only at x0 x1 x2 x3 CD S1 S2
      obtain ⟨Y2, hY2⟩ : ∃ Y2, Y2 = wr.alloc (.cells #[.int .i64 kind, .int .i64 place, .string data, .int .u64 stay] 42) := ⟨_, rfl⟩
      have hb2 : Below wr.heap.size wr Y2 := by rw [hY2]; exact below_one _ _
      have hact : Y2.heap[wr.heap.size]? = some (.cells #[.int .i64 kind, .int .i64 place, .string data, .int .u64 stay] 42 (0, 0)) := by rw [hY2]; exact heap_alloc_new wr _
      obtain ⟨H, hH⟩ : ∃ H, H = wr.heap.size := ⟨_, rfl⟩
      rw [← hH] at hact
      have HV2 := Lib.hid (HV.out.more hb2)
      have HAC := Lib.hid hact
      have HY2 := Lib.hid hY2.symm
      have HH := Lib.hid hH.symm
      clear hb2 hact hH hY2
      by_cases hk : 0 ≤ kind ∧ kind ≤ 2
      rotate_left
      · have hkk : 2 < kind ∨ (¬ 2 < kind ∧ kind < 0) := by omega
        clear hk
        rcases hkk with hkk | ⟨hk1, hk2⟩
        all_goals
          go_upto_region 11 with (fail)
          rw [HY2.out, HH.out]
          obtain ⟨⟨t0, t1, t2, t3⟩, _⟩ := box4 HAC.out
          go_wp2_with fail
          exact ⟨⟨i + 1, k, _, _, _, _, _, _, _, _, _, by omega, by go_num, HV2.out, by exact HMO.out⟩, by simp [intOf]; omega⟩
      obtain ⟨hk1, hk2⟩ := hk
      have hkn : ¬ 2 < kind := by omega
      have hkn2 : ¬ kind < 0 := by omega
      by_cases hk3 : kind = 2
      rotate_left
      · have hk4 : (kind == 2) = false := by simpa using hk3
        have hst := S1.out (by omega)
        have HST := Lib.hid hst
        have HDR := Lib.hid hst.dry
        clear S1 S2 HMO hst hk3 hk1 hk2
        have hp : ((A8 : Int) + 1 > 8 + (r : Int) ∧ (A8 : Int) > 0) ∨ (¬ (A8 : Int) + 1 > 8 + (r : Int)) := by omega
        have hp3 : A8 ≤ 1000 := by have := (HI.out.ok HX.out (by have := HL.out; omega)).dirty; have := HA8.out; omega
        rcases hp with ⟨hp1, hp2⟩ | hp1
        all_goals
          go_upto_region 11 with (fail)
          rw [HY2.out, HH.out]
          clear HY2 HH x0 x1 x2 x3
          obtain ⟨⟨t0, t1, t2, t3⟩, _⟩ := box4 HAC.out
          obtain ⟨i0, i1, i2, i3, i4, i5, i6, i7⟩ := HV2.out.box.at_
          go_wp2_with fail
          (with_reducible refine (CD.out _ _ HV2.out.val).mono ?_)
          rintro e wa ⟨u, rfl, hu, hBa⟩
          obtain ⟨U1, U2, U3, U4, U5, U6, U7, U8, U9, rfl⟩ := vault_parts hu
          have hv3 := HV2.out.more hBa
          obtain ⟨Z1, hZ1, hn1, hb1⟩ := VH.new hv3.below hu
          obtain ⟨hU8, hU5⟩ := vault_lens hu
          rw [HDR.out] at hU5
          have hU5' : U5 = 0 := hU5
          subst hU5'
          have HW := Lib.hid (hv3.more hb1)
          have HAC2 := Lib.hid (box_kept _ (box_kept _ HAC.out hBa) hb1)
          obtain ⟨Q, hQ⟩ : ∃ Q, Q = wa.heap.size := ⟨_, rfl⟩
          rw [← hQ] at hn1
          have HN := Lib.hid hn1
          have HZ1 := Lib.hid hZ1
          have HQ := Lib.hid hQ.symm
          clear i0 i1 i2 i3 i4 i5 i6 i7 t0 t1 t2 t3 hu hBa hv3 hZ1 hn1 hb1 hU8 hU5 hQ HV2 HAC
          go_upto_region 13 with (fail)
          rw [HZ1.out, HQ.out]
          clear HZ1 HQ
          obtain ⟨⟨t0, t1, t2, t3⟩, _⟩ := box4 HAC2.out
          obtain ⟨i0, i1, i2, i3, i4, i5, i6, i7⟩ := HW.out.box.at_
          obtain ⟨j0, j1, j2, j3, j4, j5, j6, j7⟩ := HN.out.box.at_
          have kf := HW.out.box.free
          obtain ⟨X, hX, hn, _, _⟩ := HW.out.put HN.out.val
          have HX2 := Lib.hid hX
          have HF := Lib.hid hn
          clear hX hn
          go_wp2_with fail
          rw [HX2.out]
          exact ⟨⟨i + 1, k2, _, _, _, _, _, _, _, _, _, by omega, by go_num, HF.out, by exact HST.out⟩, by simp [intOf]; omega⟩
      subst hk3
      obtain ⟨hst, hd0, hcase⟩ := S2.out rfl
      have HST := Lib.hid hst
      have HDR := Lib.hid hst.dry
      have hp3 : A8 ≤ 1000 := by have := (HI.out.ok HX.out (by have := HL.out; omega)).dirty; have := HA8.out; omega
      rw [← HA8.out, HXJ.out] at hcase
      have HD0 := Lib.hid hd0
      clear S1 S2 HMO hst hk1 hk2 hkn hkn2 hd0
      rcases hcase with ⟨hc1, hc2, hc3⟩ | ⟨hc1, hc2, hc3, hc4⟩ | ⟨hc1, hc2, hc3, hc4⟩
      · subst hc1
        subst hc2
        have HSQ := Lib.hid hc3
        have hp1 : ¬ ((0 : Nat) : Int) + 1 > 8 + (r : Int) := by omega
        have hp2 : ¬ (0 : Int) + 1 > 8 + (r : Int) := by omega
        have hp4 : ¬ (1 : Int) > 8 + (r : Int) := by omega
        clear hc3
        go_upto_region 11 with (fail)
        rw [HY2.out, HH.out]
        clear HY2 HH x0 x1 x2 x3
        obtain ⟨⟨t0, t1, t2, t3⟩, _⟩ := box4 HAC.out
        obtain ⟨i0, i1, i2, i3, i4, i5, i6, i7⟩ := HV2.out.box.at_
        go_wp2_with fail
        (with_reducible refine (CD.out _ _ HV2.out.val).mono ?_)
        rintro e wa ⟨u, rfl, hu, hBa⟩
        obtain ⟨U1, U2, U3, U4, U5, U6, U7, U8, U9, rfl⟩ := vault_parts hu
        have hv3 := HV2.out.more hBa
        obtain ⟨Z1, hZ1, hn1, hb1⟩ := VH.new hv3.below hu
        obtain ⟨hU8, hU5⟩ := vault_lens hu
        rw [HDR.out] at hU5
        have hU5' : U5 = 0 := hU5
        subst hU5'
        rw [HD0.out] at hU8
        subst hU8
        have HW := Lib.hid (hv3.more hb1)
        have HAC2 := Lib.hid (box_kept _ (box_kept _ HAC.out hBa) hb1)
        obtain ⟨Q, hQ⟩ : ∃ Q, Q = wa.heap.size := ⟨_, rfl⟩
        rw [← hQ] at hn1
        have HN := Lib.hid hn1
        have HZ1 := Lib.hid hZ1
        have HQ := Lib.hid hQ.symm
        clear i0 i1 i2 i3 i4 i5 i6 i7 t0 t1 t2 t3 hu hBa hv3 hZ1 hn1 hb1 hU5 hQ HV2 HAC
        go_upto_region 13 with (fail)
        rw [HZ1.out, HQ.out]
        clear HZ1 HQ
        obtain ⟨⟨t0, t1, t2, t3⟩, _⟩ := box4 HAC2.out
        obtain ⟨i0, i1, i2, i3, i4, i5, i6, i7⟩ := HW.out.box.at_
        obtain ⟨j0, j1, j2, j3, j4, j5, j6, j7⟩ := HN.out.box.at_
        rw [HSQ.out] at j6
        have kf := HW.out.box.free
        obtain ⟨X, hX, hn, _, _⟩ := HW.out.put HN.out.val
        have HX2 := Lib.hid hX
        rw [HSQ.out] at HX2
        have HF := Lib.hid hn
        clear hX hn
        go_wp2_with fail
        rw [HX2.out]
        exact ⟨⟨i + 1, k2, _, _, _, _, _, _, _, _, _, by omega, by go_num, HF.out, by exact HST.out⟩, by simp [intOf]; omega⟩
      · subst hc3
        have HSQ := Lib.hid hc4
        have hp1 : (A8 : Int) + 1 > 8 + (r : Int) := by omega
        have hp2 : (A8 : Int) > 0 := by omega
        have hp5 : 0 < A8 := hc1
        have hp6 : ((A8 : Int) == 0) = false := by simp; omega
        clear hc4 hc1 hc2
        go_upto_region 11 with (fail)
        rw [HY2.out, HH.out]
        clear HY2 HH x0 x1 x2 x3
        obtain ⟨⟨t0, t1, t2, t3⟩, _⟩ := box4 HAC.out
        obtain ⟨i0, i1, i2, i3, i4, i5, i6, i7⟩ := HV2.out.box.at_
        go_wp2_with fail
        (with_reducible refine (CD.out _ _ HV2.out.val).mono ?_)
        rintro e wa ⟨u, rfl, hu, hBa⟩
        obtain ⟨U1, U2, U3, U4, U5, U6, U7, U8, U9, rfl⟩ := vault_parts hu
        have hv3 := HV2.out.more hBa
        obtain ⟨Z1, hZ1, hn1, hb1⟩ := VH.new hv3.below hu
        obtain ⟨hU8, hU5⟩ := vault_lens hu
        rw [HDR.out] at hU5
        have hU5' : U5 = 0 := hU5
        subst hU5'
        rw [HD0.out] at hU8
        subst hU8
        have HW := Lib.hid (hv3.more hb1)
        have HAC2 := Lib.hid (box_kept _ (box_kept _ HAC.out hBa) hb1)
        obtain ⟨Q, hQ⟩ : ∃ Q, Q = wa.heap.size := ⟨_, rfl⟩
        rw [← hQ] at hn1
        have HN := Lib.hid hn1
        have HZ1 := Lib.hid hZ1
        have HQ := Lib.hid hQ.symm
        clear i0 i1 i2 i3 i4 i5 i6 i7 t0 t1 t2 t3 hu hBa hv3 hZ1 hn1 hb1 hU5 hQ HV2 HAC
        go_upto_region 13 with (fail)
        rw [HZ1.out, HQ.out]
        clear HZ1 HQ
        obtain ⟨⟨t0, t1, t2, t3⟩, _⟩ := box4 HAC2.out
        obtain ⟨i0, i1, i2, i3, i4, i5, i6, i7⟩ := HW.out.box.at_
        obtain ⟨j0, j1, j2, j3, j4, j5, j6, j7⟩ := HN.out.box.at_
        rw [HSQ.out] at j6
        have kf := HW.out.box.free
        obtain ⟨X, hX, hn, _, _⟩ := HW.out.put HN.out.val
        have HX2 := Lib.hid hX
        rw [HSQ.out] at HX2
        have HF := Lib.hid hn
        clear hX hn
        go_wp2_with fail
        rw [HX2.out]
        exact ⟨⟨i + 1, k2, _, _, _, _, _, _, _, _, _, by omega, by go_num, HF.out, by exact HST.out⟩, by simp [intOf]; omega⟩
      · subst hc3
        have HSQ := Lib.hid hc4
        have hp1 : ¬ (A8 : Int) + 1 > 8 + (r : Int) := by omega
        have hp6 : ((A8 : Int) == 0) = false := by simp; omega
        have hp7 : (k.seq + 1 == k.seq) = false := by simp; omega
        clear hc4 hc1 hc2
        go_upto_region 11 with (fail)
        rw [HY2.out, HH.out]
        clear HY2 HH x0 x1 x2 x3
        obtain ⟨⟨t0, t1, t2, t3⟩, _⟩ := box4 HAC.out
        obtain ⟨i0, i1, i2, i3, i4, i5, i6, i7⟩ := HV2.out.box.at_
        go_wp2_with fail
        (with_reducible refine (CD.out _ _ HV2.out.val).mono ?_)
        rintro e wa ⟨u, rfl, hu, hBa⟩
        obtain ⟨U1, U2, U3, U4, U5, U6, U7, U8, U9, rfl⟩ := vault_parts hu
        have hv3 := HV2.out.more hBa
        obtain ⟨Z1, hZ1, hn1, hb1⟩ := VH.new hv3.below hu
        obtain ⟨hU8, hU5⟩ := vault_lens hu
        rw [HDR.out] at hU5
        have hU5' : U5 = 0 := hU5
        subst hU5'
        rw [HD0.out] at hU8
        subst hU8
        have HW := Lib.hid (hv3.more hb1)
        have HAC2 := Lib.hid (box_kept _ (box_kept _ HAC.out hBa) hb1)
        obtain ⟨Q, hQ⟩ : ∃ Q, Q = wa.heap.size := ⟨_, rfl⟩
        rw [← hQ] at hn1
        have HN := Lib.hid hn1
        have HZ1 := Lib.hid hZ1
        have HQ := Lib.hid hQ.symm
        clear i0 i1 i2 i3 i4 i5 i6 i7 t0 t1 t2 t3 hu hBa hv3 hZ1 hn1 hb1 hU5 hQ HV2 HAC
        go_upto_region 13 with (fail)
        rw [HZ1.out, HQ.out]
        clear HZ1 HQ
        obtain ⟨⟨t0, t1, t2, t3⟩, _⟩ := box4 HAC2.out
        obtain ⟨i0, i1, i2, i3, i4, i5, i6, i7⟩ := HW.out.box.at_
        obtain ⟨j0, j1, j2, j3, j4, j5, j6, j7⟩ := HN.out.box.at_
        rw [HSQ.out] at j6
        have kf := HW.out.box.free
        obtain ⟨X, hX, hn, _, _⟩ := HW.out.put HN.out.val
        have HX2 := Lib.hid hX
        rw [HSQ.out] at HX2
        have HF := Lib.hid hn
        clear hX hn
        go_wp2_with fail
        rw [HX2.out]
        exact ⟨⟨i + 1, k2, _, _, _, _, _, _, _, _, _, by omega, by go_num, HF.out, by exact HST.out⟩, by simp [intOf]; omega⟩

end Go.Proofs.YtnbbijpmkhdgpaaGreat.Vlt
