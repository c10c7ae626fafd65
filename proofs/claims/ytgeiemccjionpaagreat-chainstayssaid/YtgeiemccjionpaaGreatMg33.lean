/- Contracts and plain mathematics that the statement's proof wants: no statement is proved here, nothing is assumed. -/
import Derived.Test.YtgeiemccjionpaaGreatMg32
/- HWrite -/
namespace Go.Proofs.YtgeiemccjionpaaGreat.Chn
open Go.RowKit Go.Sort
open Dsk Vlt

theorem two_eq (n : Nat) (h : n < 65536) : Wire.twoL ((n : Nat) : Int) = two n := by
  unfold Wire.twoL two Wire.b8
  congr 1
  · congr 1; omega
theorem part_eq (l : List Nat) (t : List UInt8) (i nx : Nat) (hn : nx = l.getD (i + 1) 0) (h : nx < 65536) : strB (Wire.twoL ((nx : Nat) : Int)) ++ strB (Wire.textL (chunk t i)) = strB (partD l t i) := by
  have hc := chunk_len t i
  rw [strB_append, two_eq nx h]
  unfold Wire.textL partD
  rw [show min (chunk t i).length 65535 = (chunk t i).length by omega, two_eq _ (by omega), List.take_of_length_le (show (chunk t i).length ≤ 65535 by omega), hn, List.append_assoc]
theorem cut204 (u : List UInt8) : (strB u).extract 0 (min ((strB u).size : Int) 204).toNat = strB (u.take 204) := by
  rw [strB_size, show (min ((u.length : Nat) : Int) 204).toNat = min u.length 204 by omega, Wire.take_ext]
  congr 1
  rw [List.take_eq_take_iff]
  omega
theorem rest204 (u : List UInt8) : (strB u).extract (strB (u.take 204)).size (strB u).size = strB (u.drop 204) := by
  rw [strB_size (u.take 204), Wire.drop_ext]
  congr 1
  rw [List.length_take]
  by_cases h : 204 ≤ u.length
  · rw [show min 204 u.length = 204 by omega]
  · rw [show min 204 u.length = u.length by omega, List.drop_length, List.drop_of_length_le (by omega)]
theorem chunk_is (t : List UInt8) (i : Nat) : (t.drop (204 * i)).take 204 = chunk t i := rfl
theorem drop_next (t : List UInt8) (i : Nat) : (t.drop (204 * i)).drop 204 = t.drop (204 * (i + 1)) := by rw [List.drop_drop]; congr 1
theorem getD_at {l : List Nat} {i p : Nat} (h : l[i]? = some p) : l.getD i 0 = p := by rw [List.getD_eq_getElem?_getD, h]; rfl

set_option maxRecDepth 100000 in
set_option maxHeartbeats 16000000 in
theorem cwrite_calls (v vp : Value) {x : Sh} {k : VK} (l : List Nat) (t : List UInt8) (w : World) (hx : rightS x = true) (hs : Still x k) (hv : IsVault w v k) (hl : IsInts w vp (natI l)) (hlt : ∀ p ∈ l, p < PN x) (_ht : t.length ≤ 1000000) (hll : l.length ≤ 10000) :
    Calls Tryz.prog 37 #[v, vp, .string (strB t)] w fun e w' => ∃ v', e = .returned (.tuple #[v', .int .i64 0]) ∧ IsVault w' v' (wrV k l t l.length) ∧ Below w.heap.size w w' := by
  obtain ⟨A1, n1, c1, A2, n2, c2, dl, jr, sq, A7, n7, c7, rfl⟩ := hs.form8 hx hv
  have hx16 := (right_nat hx).2.2
  obtain ⟨P, m, pc, rfl, hpn, hpc, hrd⟩ := hl.open_
  rw [natI_len] at hpn
  have HN := Lib.hid hpn
  have HRD := Lib.hid hrd
  have HST := Lib.hid (fun i (hi : i ≤ l.length) => (wrV_is hx hs hlt t i hi).1)
  have C3 := Lib.hid (fun i (hi : i ≤ l.length) W vv (p : Nat) (hp : p < PN x) (hV : IsVault W vv (wrV k l t i)) => write_at vv p (partD l t i) W hx (HST.out i hi) hV hp (partD_len l t i))
  have HF := Lib.hid (fun i (hi : i ≤ l.length) (w : World) (v : Value) (h : IsVault w v (wrV k l t i)) => (HST.out i hi).form8 hx h)
  have HLT := Lib.hid hlt
  obtain ⟨n, hn⟩ : ∃ n, n = PN x := ⟨_, rfl⟩
  rw [← hn] at C3 HF hv HLT ⊢
  have hn2 : n ≤ 512 := by omega
  have HLT : Hid (∀ p ∈ l, p < 65536) := Lib.hid (fun p hp => by have := HLT.out p hp; omega)
  have HLN : Hid (∀ p ∈ l, p < n) := Lib.hid (fun p hp => by rw [hn]; exact hlt p hp)
  obtain ⟨Y, hY, hYb⟩ : ∃ Y, Y = (w.alloc (.cells #[.slice A1 n1 c1, .slice A2 n2 c2, .bool false, .int .i64 dl, .int .i64 (n : Nat), .int .i64 jr, .int .i64 sq, .slice A7 n7 c7] 32)).alloc (.cells #[.slice none 0 0, .slice none 0 0, .bool false, .int .i64 0, .int .i64 0, .int .i64 0, .int .i64 0, .slice none 0 0] 32) ∧ FB w Y #[.slice A1 n1 c1, .slice A2 n2 c2, .bool false, .int .i64 dl, .int .i64 (n : Nat), .int .i64 jr, .int .i64 sq, .slice A7 n7 c7] #[.slice none 0 0, .slice none 0 0, .bool false, .int .i64 0, .int .i64 0, .int .i64 0, .int .i64 0, .slice none 0 0] := ⟨_, rfl, FB.new w _⟩
  have HY := Lib.hid hY
  have HB := Lib.hid hYb
  have HV0 := Lib.hid (hv.below hYb.below)
  have hm5 : m ≤ 10000 := by omega
  obtain ⟨⟨i0, i1, i2, i3, i4, i5, i6, i7⟩, _⟩ := box8 hYb.a
  clear hn hY hYb hv hx hs hl hlt hx16 hpn hpc hrd HST
  go_enter Tryz.func37, Tryz.ntmps37
  go_upto_region 1 with (fail)
  rw [← HY.out]
  clear HY i0 i1 i2 i3 i4 i5 i6 i7
  go_wp2_with fail
  go_loopw [2, 15] (fun s2 s15 wr => ∃ (i : Nat) (A1 : Option Addr) (n1 c1 : Nat) (A2 : Option Addr) (n2 c2 : Nat) (dl jr sq : Int) (A7 : Option Addr) (n7 c7 : Nat), i ≤ m ∧ s15 = .int .i64 i ∧ s2 = .string (strB (t.drop (204 * i))) ∧ FB w wr #[.slice A1 n1 c1, .slice A2 n2 c2, .bool false, .int .i64 dl, .int .i64 (n : Nat), .int .i64 jr, .int .i64 sq, .slice A7 n7 c7] #[.slice none 0 0, .slice none 0 0, .bool false, .int .i64 0, .int .i64 0, .int .i64 0, .int .i64 0, .slice none 0 0] ∧ IsVault wr (.agg #[.slice A1 n1 c1, .slice A2 n2 c2, .bool false, .int .i64 dl, .int .i64 (n : Nat), .int .i64 jr, .int .i64 sq, .slice A7 n7 c7]) (wrV k l t i)) (fun _ u _ => m - (intOf u).toNat)
  case atStart => exact ⟨0, A1, n1, c1, A2, n2, c2, dl, jr, sq, A7, n7, c7, Nat.zero_le _, rfl, by simp, HB.out, HV0.out⟩
  case round =>
    clear HB HV0
    obtain ⟨i, A1, n1, c1, A2, n2, c2, dl, jr, sq, A7, n7, c7, hi, rfl, rfl, hFB, hVV⟩ := hrel
    obtain ⟨w2, rfl⟩ : ∃ w2, w2 = wr := ⟨_, rfl⟩
    have HFB := Lib.hid hFB
    have HV := Lib.hid hVV
    obtain ⟨⟨i0, i1, i2, i3, i4, i5, i6, i7⟩, _⟩ := box8 hFB.a
    clear hFB hVV
    by_cases hlt : i < m
    · obtain ⟨p, hp⟩ : ∃ q, l[i]? = some q := ⟨_, List.getElem?_eq_getElem (by have := HN.out; omega)⟩
      obtain ⟨b, off, rfl, x0⟩ := int_at HRD.out HFB.out.below (natI_at hp) (by omega)
      have hi1 : (0 : Int) ≤ (i : Int) := by omega
      have hi2 : (i : Int) < (m : Int) := by omega
      have hil : i + 1 ≤ l.length := by have := HN.out; omega
      have C3 := Lib.hid (fun W (hW : Below w2.heap.size w2 W) => C3.out i (by omega) W _ p (HLN.out p (List.mem_of_getElem? hp)) (HV.out.below hW))
      have HE : Hid ((writeV (wrV k l t i) ((p : Nat) : Int) (partD l t i)).1 = wrV k l t (i + 1)) := Lib.hid (by
        show _ = (writeV (wrV k l t i) (l.getD i 0 : Nat) (partD l t i)).1
        rw [getD_at hp])
      have HF := Lib.hid (HF.out (i + 1) hil)
      clear hp hil
      by_cases hnx0 : i + 1 < m
      · obtain ⟨nx, hnx⟩ : ∃ q, l[i + 1]? = some q := ⟨_, List.getElem?_eq_getElem (by have := HN.out; omega)⟩
        obtain ⟨b2, off2, eb, y0⟩ := int_at HRD.out HFB.out.below (natI_at hnx) (by omega)
        injection eb with eb
        injection eb with eb1 eb2
        subst eb1 eb2
        have hg : (i : Int) + 1 < (m : Int) := by omega
        have hw1 : IntKind.i64.wrap ((i : Int) + 1) = (i : Int) + 1 := by rw [wrap_small _ (by omega) (by omega)]
        have htn : ((i : Int) + 1).toNat = i + 1 := by omega
        have hnl := HLT.out nx (List.mem_of_getElem? hnx)
        have hne := (getD_at hnx).symm
        have hSP : strB (Wire.twoL ((nx : Nat) : Int)) ++ strB (Wire.textL (chunk t i)) = strB (partD l t i) := part_eq l t i nx hne hnl
        have C1 := Lib.hid (fun W => Wire.two_calls ((nx : Nat) : Int) W)
        have C2 := Lib.hid (fun W => Wire.text_short (chunk t i) W (by have := chunk_len t i; omega))
        have hs1 : (strB (Wire.twoL ((nx : Nat) : Int))).size = 2 := by rw [strB_size]; rfl
        have hs2 : (strB (Wire.textL (chunk t i))).size ≤ 300 := by rw [strB_size, Wire.textL_len]; have := chunk_len t i; omega
        obtain ⟨S1, hS1⟩ : ∃ s, s = strB (Wire.twoL ((nx : Nat) : Int)) := ⟨_, rfl⟩
        obtain ⟨S2, hS2⟩ : ∃ s, s = strB (Wire.textL (chunk t i)) := ⟨_, rfl⟩
        obtain ⟨SP, hSPe⟩ : ∃ s, s = strB (partD l t i) := ⟨_, rfl⟩
        rw [← hS1] at hSP C1 hs1
        rw [← hS2] at hSP C2 hs2
        rw [← hSPe] at hSP
        have C3 := C3
        rw [← hSPe] at C3
        have hz : ¬ 9223372036854775807 < S1.size + S2.size := by omega
        clear hne hnl hS1 hS2 hSPe 
        have hcs : (strB (chunk t i)).size ≤ (strB (t.drop (204 * i))).size := by rw [strB_size, strB_size]; unfold chunk; rw [List.length_take]; omega
        go_upto_region 8 with (fail)
        rw [cut204, chunk_is]
        go_upto_region 9 with (fail)
        rw [← chunk_is, rest204, chunk_is, drop_next]
        go_wp2_with fail
        have HT := Lib.hid (HFB.out.more (Below.refl _ _).drew)
        have HD : Hid (Below w2.heap.size w2 w2.drew) := Lib.hid (Below.refl _ _).drew
        clear i0 i1 i2 i3 i4 i5 i6 i7 y0 x0
        obtain ⟨⟨i0, i1, i2, i3, i4, i5, i6, i7⟩, kf⟩ := box8 HT.out.a
        go_region_with (first
          | (go_at_call 66; (with_reducible refine (C1.out _).mono ?_); rintro e wa ⟨rfl, hBa⟩; (with_reducible replace HT := Lib.hid (HT.out.more hBa)); (with_reducible replace HD := Lib.hid (HD.out.trans (hBa.mono HD.out.size))); clear hBa; obtain ⟨⟨i0, i1, i2, i3, i4, i5, i6, i7⟩, kf⟩ := box8 HT.out.a)
          | (go_at_call 67; (with_reducible refine (C2.out _).mono ?_); rintro e wa ⟨rfl, hBa⟩; (with_reducible replace HT := Lib.hid (HT.out.more hBa)); (with_reducible replace HD := Lib.hid (HD.out.trans (hBa.mono HD.out.size))); clear hBa; obtain ⟨⟨i0, i1, i2, i3, i4, i5, i6, i7⟩, kf⟩ := box8 HT.out.a)
          | (go_at_call 38; (with_reducible refine (C3.out _ HD.out).mono ?_); rintro e wa ⟨v', rfl, hv', hBa⟩; (with_reducible replace HT := Lib.hid (HT.out.more hBa)); rw [HE.out] at hv'; obtain ⟨qA1, qn1, qc1, qA2, qn2, qc2, qdl, qjr, qsq, qA7, qn7, qc7, rfl⟩ := HF.out _ _ hv'; have HV' := Lib.hid hv'; clear hv' hBa; obtain ⟨⟨i0, i1, i2, i3, i4, i5, i6, i7⟩, kf⟩ := box8 HT.out.a))
        all_goals
          obtain ⟨X, hX, hbX, hkX, hBX⟩ := box_store8 HT.out.a (.slice qA1 qn1 qc1) (.slice qA2 qn2 qc2) (.bool false) (.int .i64 qdl) (.int .i64 (n : Nat)) (.int .i64 qjr) (.int .i64 qsq) (.slice qA7 qn7 qc7)
          rw [hX]
          have HFX : Hid (FB w X #[.slice qA1 qn1 qc1, .slice qA2 qn2 qc2, .bool false, .int .i64 qdl, .int .i64 (n : Nat), .int .i64 qjr, .int .i64 qsq, .slice qA7 qn7 qc7] #[.slice none 0 0, .slice none 0 0, .bool false, .int .i64 0, .int .i64 0, .int .i64 0, .int .i64 0, .slice none 0 0]) := Lib.hid ⟨hbX, (hkX _ (by omega)).trans HT.out.z, hBX _ _ HT.out.below (by omega)⟩
          have HVX : Hid (IsVault X (.agg #[.slice qA1 qn1 qc1, .slice qA2 qn2 qc2, .bool false, .int .i64 qdl, .int .i64 (n : Nat), .int .i64 qjr, .int .i64 qsq, .slice qA7 qn7 qc7]) (wrV k l t (i + 1))) := Lib.hid (HV'.out.other HT.out.a hkX)
          clear hX hbX hkX hBX i0 i1 i2 i3 i4 i5 i6 i7 kf
          go_wp2_with fail
          exact ⟨⟨i + 1, qA1, qn1, qc1, qA2, qn2, qc2, qdl, qjr, qsq, qA7, qn7, qc7, by omega, by go_num, rfl, HFX.out, HVX.out⟩, by simp [intOf]; omega⟩

      · have hg : ¬ (i : Int) + 1 < (m : Int) := by omega
        have hw1 : IntKind.i64.wrap ((i : Int) + 1) = (i : Int) + 1 := by rw [wrap_small _ (by omega) (by omega)]
        have hnl : 0 < 65536 := by omega
        have hne : 0 = l.getD (i + 1) 0 := by rw [List.getD_eq_getElem?_getD, List.getElem?_eq_none (by have := HN.out; omega)]; rfl
        have hSP : strB (Wire.twoL (0 : Int)) ++ strB (Wire.textL (chunk t i)) = strB (partD l t i) := part_eq l t i 0 hne hnl
        have C1 := Lib.hid (fun W => Wire.two_calls (0 : Int) W)
        have C2 := Lib.hid (fun W => Wire.text_short (chunk t i) W (by have := chunk_len t i; omega))
        have hs1 : (strB (Wire.twoL (0 : Int))).size = 2 := by rw [strB_size]; rfl
        have hs2 : (strB (Wire.textL (chunk t i))).size ≤ 300 := by rw [strB_size, Wire.textL_len]; have := chunk_len t i; omega
        obtain ⟨S1, hS1⟩ : ∃ s, s = strB (Wire.twoL (0 : Int)) := ⟨_, rfl⟩
        obtain ⟨S2, hS2⟩ : ∃ s, s = strB (Wire.textL (chunk t i)) := ⟨_, rfl⟩
        obtain ⟨SP, hSPe⟩ : ∃ s, s = strB (partD l t i) := ⟨_, rfl⟩
        rw [← hS1] at hSP C1 hs1
        rw [← hS2] at hSP C2 hs2
        rw [← hSPe] at hSP
        have C3 := C3
        rw [← hSPe] at C3
        have hz : ¬ 9223372036854775807 < S1.size + S2.size := by omega
        clear hne hnl hS1 hS2 hSPe 
        have hcs : (strB (chunk t i)).size ≤ (strB (t.drop (204 * i))).size := by rw [strB_size, strB_size]; unfold chunk; rw [List.length_take]; omega
        go_upto_region 8 with (fail)
        rw [cut204, chunk_is]
        go_upto_region 9 with (fail)
        rw [← chunk_is, rest204, chunk_is, drop_next]
        go_wp2_with fail
        have HT := Lib.hid (HFB.out.more (Below.refl _ _).drew)
        have HD : Hid (Below w2.heap.size w2 w2.drew) := Lib.hid (Below.refl _ _).drew
        clear i0 i1 i2 i3 i4 i5 i6 i7  x0
        obtain ⟨⟨i0, i1, i2, i3, i4, i5, i6, i7⟩, kf⟩ := box8 HT.out.a
        go_region_with (first
          | (go_at_call 66; (with_reducible refine (C1.out _).mono ?_); rintro e wa ⟨rfl, hBa⟩; (with_reducible replace HT := Lib.hid (HT.out.more hBa)); (with_reducible replace HD := Lib.hid (HD.out.trans (hBa.mono HD.out.size))); clear hBa; obtain ⟨⟨i0, i1, i2, i3, i4, i5, i6, i7⟩, kf⟩ := box8 HT.out.a)
          | (go_at_call 67; (with_reducible refine (C2.out _).mono ?_); rintro e wa ⟨rfl, hBa⟩; (with_reducible replace HT := Lib.hid (HT.out.more hBa)); (with_reducible replace HD := Lib.hid (HD.out.trans (hBa.mono HD.out.size))); clear hBa; obtain ⟨⟨i0, i1, i2, i3, i4, i5, i6, i7⟩, kf⟩ := box8 HT.out.a)
          | (go_at_call 38; (with_reducible refine (C3.out _ HD.out).mono ?_); rintro e wa ⟨v', rfl, hv', hBa⟩; (with_reducible replace HT := Lib.hid (HT.out.more hBa)); rw [HE.out] at hv'; obtain ⟨qA1, qn1, qc1, qA2, qn2, qc2, qdl, qjr, qsq, qA7, qn7, qc7, rfl⟩ := HF.out _ _ hv'; have HV' := Lib.hid hv'; clear hv' hBa; obtain ⟨⟨i0, i1, i2, i3, i4, i5, i6, i7⟩, kf⟩ := box8 HT.out.a))
        all_goals
          obtain ⟨X, hX, hbX, hkX, hBX⟩ := box_store8 HT.out.a (.slice qA1 qn1 qc1) (.slice qA2 qn2 qc2) (.bool false) (.int .i64 qdl) (.int .i64 (n : Nat)) (.int .i64 qjr) (.int .i64 qsq) (.slice qA7 qn7 qc7)
          rw [hX]
          have HFX : Hid (FB w X #[.slice qA1 qn1 qc1, .slice qA2 qn2 qc2, .bool false, .int .i64 qdl, .int .i64 (n : Nat), .int .i64 qjr, .int .i64 qsq, .slice qA7 qn7 qc7] #[.slice none 0 0, .slice none 0 0, .bool false, .int .i64 0, .int .i64 0, .int .i64 0, .int .i64 0, .slice none 0 0]) := Lib.hid ⟨hbX, (hkX _ (by omega)).trans HT.out.z, hBX _ _ HT.out.below (by omega)⟩
          have HVX : Hid (IsVault X (.agg #[.slice qA1 qn1 qc1, .slice qA2 qn2 qc2, .bool false, .int .i64 qdl, .int .i64 (n : Nat), .int .i64 qjr, .int .i64 qsq, .slice qA7 qn7 qc7]) (wrV k l t (i + 1))) := Lib.hid (HV'.out.other HT.out.a hkX)
          clear hX hbX hkX hBX i0 i1 i2 i3 i4 i5 i6 i7 kf
          go_wp2_with fail
          exact ⟨⟨i + 1, qA1, qn1, qc1, qA2, qn2, qc2, qdl, qjr, qsq, qA7, qn7, qc7, by omega, by go_num, rfl, HFX.out, HVX.out⟩, by simp [intOf]; omega⟩

    · obtain rfl : i = m := by omega
      obtain ⟨X, hX, hbX, hkX, hBX⟩ := box_store8 HFB.out.z (.slice A1 n1 c1) (.slice A2 n2 c2) (.bool false) (.int .i64 dl) (.int .i64 (n : Nat)) (.int .i64 jr) (.int .i64 sq) (.slice A7 n7 c7)
      have HX := Lib.hid (box8 hbX)
      have HFX : Hid (IsVault X (.agg #[.slice A1 n1 c1, .slice A2 n2 c2, .bool false, .int .i64 dl, .int .i64 (n : Nat), .int .i64 jr, .int .i64 sq, .slice A7 n7 c7]) (wrV k l t l.length) ∧ Below w.heap.size w X) := Lib.hid ⟨by have := HV.out.other HFB.out.z hkX; rw [HN.out] at this; exact this, hBX _ _ HFB.out.below (by omega)⟩
      obtain ⟨⟨z0, z1, z2, z3, z4, z5, z6, z7⟩, zf⟩ := box8 HFB.out.z
      have HXX := Lib.hid hX
      clear hX hbX hkX hBX
      go_wp2_with fail
      rw [HXX.out]
      clear i0 i1 i2 i3 i4 i5 i6 i7 z0 z1 z2 z3 z4 z5 z6 z7 zf
      obtain ⟨⟨z0, z1, z2, z3, z4, z5, z6, z7⟩, _⟩ := HX.out
      exact bodyPost_ret (v := .tuple #[.agg #[.slice A1 n1 c1, .slice A2 n2 c2, .bool false, .int .i64 dl, .int .i64 (n : Nat), .int .i64 jr, .int .i64 sq, .slice A7 n7 c7], .int .i64 0]) (by simp [results, Tryz.results37, go_sem, z0, z1, z2, z3, z4, z5, z6, z7]) rfl ⟨_, rfl, HFX.out.1, HFX.out.2⟩
end Go.Proofs.YtgeiemccjionpaaGreat.Chn
