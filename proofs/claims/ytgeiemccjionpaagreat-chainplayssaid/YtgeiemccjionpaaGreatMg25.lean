/- Contracts and plain mathematics that the statement's proof wants: no statement is proved here, nothing is assumed. -/
import Derived.BigRegion
import Derived.Deep.RegionWith
import Derived.Test.YtgeiemccjionpaaGreatMg24
/- BMark -/
namespace Go.Proofs.YtgeiemccjionpaaGreat.Bit
open Go.RowKit Go.Sort

theorem conv_bytes (w : World) (l : List UInt8) : ∃ (cap : Nat) (Y : World), (convert 9 70 (.string (strB l))).run Tryz.prog w = .ok (.slice (some ⟨w.heap.size, 0, none⟩) l.length cap) Y ∧ RowB Y w.heap.size l ∧ Below w.heap.size w Y := by
  have h := run_bytes_of_string (P := Tryz.prog) w 9 70 5 (strB l) Tryz.underlying9 Tryz.underlying70 Tryz.underlying5
  rw [strB_size] at h
  refine ⟨_, _, h, (RowB.new w l _).keep rfl, ?_⟩
  exact (Below.refl w.heap.size w).drew.alloc (Nat.le_refl _) _

/-- What within answers, and what that is for. -/
theorem within_calls (t : Bool) (x : Int × Int) (T : Nat) (hT : T ≤ 512) (h1 : -9223372036854775808 ≤ x.1) : ∃ (F : Nat) (E : Int), E ≤ T ∧ F ≤ 512 ∧ (∀ m : List UInt8, toldN m = T → markOne m t x = markR m t (F : Int) (E - F).toNat) ∧
    ∀ w, Calls Tryz.prog 73 #[.agg #[.int .i64 x.1, .int .i64 x.2], .int .i64 (T : Nat)] w fun e w' => e = .returned (.tuple #[.int .i64 (F : Nat), .int .i64 E]) ∧ Below w.heap.size w w' := by
  by_cases h : (T : Int) ≤ x.1
  · exact ⟨0, 0, by omega, by omega, fun m hm => by rw [marks_none m t x (by rw [hm]; exact h)]; rfl, fun w => within_no x.1 x.2 T w hT h⟩
  · refine ⟨(max x.1 0).toNat, min (x.1 + min (max x.2 0) 512) T, by omega, by omega, fun m hm => ?_, fun w => ?_⟩
    · rw [marks_some, hm]
      congr 2
      omega
    · have e : (((max x.1 0).toNat : Nat) : Int) = max x.1 0 := by omega
      rw [e]
      exact within_yes x.1 x.2 T w hT (by omega) h1

theorem set_or (c : UInt8) (p : Nat) : bits .or .u8 (c.toNat : Nat) ((2 ^ (7 - p % 8) : Nat) : Int) = ((setB c true p).toNat : Nat) := by
  rw [u8_or_nat _ _ c.toNat_lt (pow7 p), setB_or]
theorem set_not (c : UInt8) (p : Nat) : bits .andNot .u8 (c.toNat : Nat) ((2 ^ (7 - p % 8) : Nat) : Int) = ((setB c false p).toNat : Nat) := by
  rw [u8_andNot_nat _ _ c.toNat_lt (pow7 p), setB_and]
theorem markR_next (m : List UInt8) (t : Bool) (F p : Nat) (hp : F ≤ p) (hh : has m p = true) :
    markR m t (F : Int) (p + 1 - F) = (markR m t (F : Int) (p - F)).set (p / 8) (setB ((markR m t (F : Int) (p - F)).getD (p / 8) 0) t p) := by
  rw [show p + 1 - F = (p - F) + 1 by omega]
  show mkI (markR m t (F : Int) (p - F)) t ((F : Int) + ((p - F : Nat) : Int)) = _
  rw [show (F : Int) + ((p - F : Nat) : Int) = (p : Int) by omega]
  unfold mkI mk1
  rw [if_pos (by omega), Int.toNat_natCast, if_pos (by rw [has_len (markR_len _ _ _ _)]; exact hh)]

set_option maxRecDepth 100000 in
set_option maxHeartbeats 4000000 in
theorem mark_calls (l : List UInt8) (t : Bool) (r : List (Int × Int)) (A : Option Addr) (n c : Nat) (w : World) (hl : l.length ≤ 300) (hv : Sps w (.slice A n c) r) (hn : n ≤ 1000) (hr : ∀ x ∈ r, -9223372036854775808 ≤ x.1) :
    Calls Tryz.prog 50 #[.string (strB l), .slice A n c, .bool t] w fun e w' => e = .returned (.string (strB (markL l t r))) ∧ Below w.heap.size w w' := by
  obtain ⟨cap, Y, hcv, hR0, hB0⟩ := conv_bytes w l
  have HR0 := Lib.hid hR0
  have HB0 := Lib.hid hB0
  have HV := Lib.hid hv
  have hrn := hv.at_.1
  have HRN := Lib.hid hrn
  have HR := Lib.hid hr
  obtain ⟨g, hg⟩ : ∃ g, g = w.heap.size := ⟨_, rfl⟩
  rw [← hg] at hcv HR0
  have HG := Lib.hid hg
  clear hR0 hB0 hv hrn hr hg
  go_enter Tryz.func50, Tryz.ntmps50
  go_wp2_with fail
  clear hcv
  go_loopw [17] (fun u wr => ∃ i : Nat, i ≤ n ∧ u = .int .i64 (i : Nat) ∧ Hid (RowB wr g (markL l t (r.take i))) ∧ Hid (Below w.heap.size w wr)) (fun u _ => n - (intOf u).toNat)
  case atStart => exact ⟨0, Nat.zero_le _, rfl, HR0, HB0⟩
  case round =>
    obtain ⟨i, hi, rfl, HW, HB⟩ := hrel
    obtain ⟨w2, rfl⟩ : ∃ w2, w2 = wr := ⟨_, rfl⟩
    by_cases hlt : i < n
    · obtain ⟨x, hx⟩ : ∃ x, r[i]? = some x := ⟨_, List.getElem?_eq_getElem (by have := HRN.out; omega)⟩
      obtain ⟨b, off, rfl, hbl, hcell⟩ := HV.out.at_.2.2 (by omega)
      have c0 := (HB.out.cell (p := ⟨b, off + i * 2, none⟩) hbl).trans (hcell i x hx).1
      have c1 := (HB.out.cell (p := ⟨b, off + i * 2 + 1, none⟩) hbl).trans (hcell i x hx).2
      have hi2 : (i : Int) < (n : Int) := by omega
      have HX := Lib.hid hx
      clear hcell hx
      obtain ⟨m, hm⟩ : ∃ m, m = markL l t (r.take i) := ⟨_, rfl⟩
      rw [← hm] at HW
      have HM := Lib.hid hm
      have hml : m.length = l.length := by rw [hm, markL_len]
      have htm : toldN m = toldN l := by unfold toldN; rw [hml]
      have HTM := Lib.hid htm
      have HML := Lib.hid hml
      obtain ⟨F, E, hE, hF, hmk, hwi⟩ := within_calls t x (toldN l) (told_le l) (HR.out x (List.mem_of_getElem? HX.out))
      have HMK := Lib.hid (hmk m htm)
      obtain ⟨T, hT⟩ : ∃ T, T = toldN l := ⟨_, rfl⟩
      have hT5 : T ≤ 512 := by rw [hT]; exact told_le l
      rw [← hT] at hE hwi
      have HT := Lib.hid hT
      clear hmk htm hml hm hT
      obtain ⟨Z, hZ, hbZ, hBZ⟩ : ∃ Z, Z = w2.alloc (.cells #[.int .i64 x.1, .int .i64 x.2] 79) ∧ SBox Z w2.heap.size x ∧ Below w2.heap.size w2 Z := ⟨_, rfl, SBox.new w2 x, below_one _ _⟩
      have k0 := fun d os => cell_regrown hbZ.c0 d os
      have k1 := fun d os => cell_regrown hbZ.c1 d os
      have CT : Hid (∀ d os, _) := Lib.hid (fun d os => (told_calls l (grow (redrawn Z d) os) hl).mono fun e w'' (h : e = _ ∧ w'' = _) => (⟨h.1, ⟨d, os⟩, h.2⟩ : e = .returned (.int .i64 (toldN l : Nat)) ∧ ∃ p : Regrown, w'' = grow (redrawn Z p.d) p.os))
      have CW : Hid (∀ d os, _) := Lib.hid (fun d os => Calls.regrown_of (w := Z) (d := d) (os := os) (hwi _))
      rw [← HT.out] at CT
      have HZ := Lib.hid hZ
      have HBZ := Lib.hid hBZ
      clear hwi hZ hbZ hBZ
      go_wp2_with fail
      rw [← HZ.out]
      refine wp_region_quiet_below (by kernel_rfl) (by kernel_rfl) ?_
      (try simp only [List.append_eq, List.cons_append, List.nil_append])
      repeat (first | go_big_quiet_step (first | (with_reducible exact CT.out _ _) | (with_reducible exact CW.out _ _)) | quiet_step (first | (with_reducible exact CT.out _ _) | (with_reducible exact CW.out _ _)))
      refine wpQuiet_nil ?_
      intro w4 hw'
      have HBQ : Hid (Below w2.heap.size w2 w4) := Lib.hid (by
        obtain ⟨⟨dq, osq⟩, hw''⟩ := hw'
        rw [hw'']
        exact below_trans2 HBZ.out (below_regrown Z dq osq))
      clear hw' k0 k1 c0 c1
      replace HW := Lib.hid (HW.out.below HBQ.out)
      replace HB := Lib.hid (below_trans2 HB.out HBQ.out)
      clear HBQ HBZ HZ CT CW
      go_wp2_with fail
      go_loopw [12] (fun u wr => ∃ p : Nat, F ≤ p ∧ (p : Int) ≤ max E F ∧ u = .int .i64 (p : Nat) ∧ Hid (RowB wr g (markR m t (F : Int) (p - F))) ∧ Hid (Below w.heap.size w wr)) (fun u _ => (E - intOf u).toNat)
      case atStart => exact ⟨F, Nat.le_refl _, by omega, rfl, Lib.hid (by rw [Nat.sub_self]; exact HW.out), HB⟩
      case round =>
        obtain ⟨p, hp1, hp2, rfl, HW3, HB3⟩ := hrel
        obtain ⟨w5, rfl⟩ : ∃ w5, w5 = wr := ⟨_, rfl⟩
        by_cases hpe : (p : Int) < E
        · have hh : has m p = true := (told_has m p).2 (by rw [HTM.out, ← HT.out]; omega)
          have hq : p / 8 < (markR m t (F : Int) (p - F)).length := by rw [markR_len]; exact ((has_is m p).1 hh).2
          have HNX := Lib.hid (markR_next m t F p hp1 hh)
          have hp5 : p ≤ 511 := by omega
          have hql : (p : Int) / 8 < (l.length : Int) := by have := ((has_is m p).1 hh).2; rw [HML.out] at this; omega
          have hw8 : IntKind.i64.wrap ((p : Int) / 8) = (p : Int) / 8 := by rw [wrap_small _ (by omega) (by omega)]
          have htn : ((p : Int) / 8).toNat = p / 8 := by omega
          have hq0 : (0 : Int) ≤ (p : Int) / 8 := by omega
          have q0 := HW3.out.cell hq
          have q1 := HW3.out.free hq
          have HS := Lib.hid (fun c' => HW3.out.set hq c')
          obtain ⟨y, hy⟩ : ∃ y, y = (markR m t (F : Int) (p - F)).getD (p / 8) 0 := ⟨_, rfl⟩
          rw [← hy] at q0 HNX
          have HBI := Lib.hid (bit_calls p · hp5)
          have HSO := Lib.hid (set_or y p)
          have HSN := Lib.hid (set_not y p)
          obtain ⟨B, hBB⟩ : ∃ B, B = 2 ^ (7 - p % 8) := ⟨_, rfl⟩
          rw [← hBB] at HBI HSO HSN
          clear hy hBB hh
          cases t with
          | true =>
            have HWN : Hid (RowB (w5.setCell ⟨g, p / 8, none⟩ (.int .u8 (bits .or .u8 (y.toNat : Nat) (B : Nat)))).drew g (markR m true (F : Int) (p + 1 - F))) := Lib.hid (by rw [HNX.out, HSO.out]; exact (HS.out (setB y true p)).keep rfl)
            have HBN : Hid (Below w.heap.size w (w5.setCell ⟨g, p / 8, none⟩ (.int .u8 (bits .or .u8 (y.toNat : Nat) (B : Nat)))).drew) := Lib.hid ((HB3.out.setCell (by rw [HG.out]; exact Nat.le_refl _) _).drew)
            go_wp2_with fail
            go_region_with (first | (go_at_call 75; (with_reducible refine (HBI.out _).mono ?_); rintro e w' ⟨rfl, rfl⟩))
            all_goals (clear q0 q1; go_wp2_with fail; exact ⟨⟨p + 1, by omega, by omega, by go_num, HWN, HBN⟩, by simp [intOf]; omega⟩)
          | false =>
            have HWN : Hid (RowB (w5.setCell ⟨g, p / 8, none⟩ (.int .u8 (bits .andNot .u8 (y.toNat : Nat) (B : Nat)))).drew g (markR m false (F : Int) (p + 1 - F))) := Lib.hid (by rw [HNX.out, HSN.out]; exact (HS.out (setB y false p)).keep rfl)
            have HBN : Hid (Below w.heap.size w (w5.setCell ⟨g, p / 8, none⟩ (.int .u8 (bits .andNot .u8 (y.toNat : Nat) (B : Nat)))).drew) := Lib.hid ((HB3.out.setCell (by rw [HG.out]; exact Nat.le_refl _) _).drew)
            go_wp2_with fail
            go_region_with (first | (go_at_call 75; (with_reducible refine (HBI.out _).mono ?_); rintro e w' ⟨rfl, rfl⟩))
            all_goals (clear q0 q1; go_wp2_with fail; exact ⟨⟨p + 1, by omega, by omega, by go_num, HWN, HBN⟩, by simp [intOf]; omega⟩)
        · have HO : Hid (RowB w5 g (markL l t (r.take (i + 1)))) := Lib.hid (by
            have e : (E - (F : Int)).toNat = p - F := by omega
            have := HMK.out
            rw [e, HM.out] at this
            rw [List.take_add_one, HX.out, Option.toList_some, markL_snoc, this, ← HM.out]
            exact HW3.out)
          clear hp1 hp2
          go_wp2_with fail
          exact ⟨⟨i + 1, by omega, by go_num, HO, HB3⟩, by simp [intOf]; omega⟩
    · obtain rfl : i = n := by omega
      have hlen : (markL l t (r.take i)).length = l.length := markL_len t _ l
      have hback := HW.out.back cap
      rw [hlen] at hback
      have HT : Hid (r.take i = r) := Lib.hid (by rw [← HRN.out]; exact List.take_length)
      rw [HT.out] at hback
      clear hlen
      go_wp2_with fail
      go_ret
      exact ⟨rfl, HB.out⟩

end Go.Proofs.YtgeiemccjionpaaGreat.Bit

/- BRMark -/
namespace Go.Proofs.YtgeiemccjionpaaGreat.Bit
open Go.RowKit Go.Sort

theorem markR_set (m : List UInt8) (t : Bool) (s : Int) (k p : Nat) (hp : s + (k : Int) = p) (hh : has m p = true) :
    markR m t s (k + 1) = (markR m t s k).set (p / 8) (setB ((markR m t s k).getD (p / 8) 0) t p) := by
  show mkI (markR m t s k) t (s + (k : Int)) = _
  rw [hp]
  unfold mkI mk1
  rw [if_pos (by omega), Int.toNat_natCast, if_pos (by rw [has_len (markR_len _ _ _ _)]; exact hh)]
theorem markR_no (m : List UInt8) (t : Bool) (s : Int) (k : Nat) (h : ¬ (0 ≤ s + (k : Int) ∧ has m (s + (k : Int)).toNat = true)) : markR m t s (k + 1) = markR m t s k := by
  show mkI (markR m t s k) t (s + (k : Int)) = _
  exact mkI_out _ _ _ (by rw [has_len (markR_len _ _ _ _)]; exact h)
theorem shr_128 (p : Nat) : (128 : Int) / 2 ^ (p % 8) = ((2 ^ (7 - p % 8) : Nat) : Int) := by
  have h : p % 8 < 8 := by omega
  generalize p % 8 = j at *
  have : ∀ j < 8, (128 : Int) / 2 ^ j = ((2 ^ (7 - j) : Nat) : Int) := by decide
  exact this j h

set_option maxRecDepth 100000 in
set_option maxHeartbeats 4000000 in
theorem rmark_calls (l : List UInt8) (t : Bool) (r : List (Int × Int)) (A : Option Addr) (n c : Nat) (w : World) (hl : l.length ≤ 300) (hv : Sps w (.slice A n c) r) (hn : n ≤ 1000) (hr : ∀ x ∈ r, -9223372036854775808 ≤ x.1 ∧ x.1 + min x.2 512 ≤ 9223372036854775808) :
    Calls Tryz.prog 39 #[.string (strB l), .slice A n c, .bool t] w fun e w' => e = .returned (.string (strB (markL l t r))) ∧ Below w.heap.size w w' := by
  obtain ⟨cap, Y, hcv, hR0, hB0⟩ := conv_bytes w l
  have HR0 := Lib.hid hR0
  have HB0 := Lib.hid hB0
  have HV := Lib.hid hv
  have HRN := Lib.hid hv.at_.1
  have HR := Lib.hid hr
  obtain ⟨g, hg⟩ : ∃ g, g = w.heap.size := ⟨_, rfl⟩
  rw [← hg] at hcv HR0
  have HG := Lib.hid hg
  clear hR0 hB0 hv hr hg
  go_enter Tryz.func39, Tryz.ntmps39
  go_wp2_with fail
  clear hcv
  go_loopw [8] (fun u wr => ∃ i : Nat, i ≤ n ∧ u = .int .i64 (i : Nat) ∧ Hid (RowB wr g (markL l t (r.take i))) ∧ Hid (Below w.heap.size w wr)) (fun u _ => n - (intOf u).toNat)
  case atStart => exact ⟨0, Nat.zero_le _, rfl, HR0, HB0⟩
  case round =>
    obtain ⟨i, hi, rfl, HW, HB⟩ := hrel
    obtain ⟨w2, rfl⟩ : ∃ w2, w2 = wr := ⟨_, rfl⟩
    by_cases hlt : i < n
    · obtain ⟨x, hx⟩ : ∃ x, r[i]? = some x := ⟨_, List.getElem?_eq_getElem (by have := HRN.out; omega)⟩
      obtain ⟨b, off, rfl, hbl, hcell⟩ := HV.out.at_.2.2 (by omega)
      have HC0 : Hid (∀ W, Below w.heap.size w W → W.cell? ⟨b, off + i * 2, none⟩ = some (.int .i64 x.1)) := Lib.hid (fun W hW => (hW.cell (p := ⟨b, off + i * 2, none⟩) hbl).trans (hcell i x hx).1)
      have HC1 : Hid (∀ W, Below w.heap.size w W → W.cell? ⟨b, off + i * 2 + 1, none⟩ = some (.int .i64 x.2)) := Lib.hid (fun W hW => (hW.cell (p := ⟨b, off + i * 2 + 1, none⟩) hbl).trans (hcell i x hx).2)
      have hi2 : (i : Int) < (n : Int) := by omega
      have HXB := Lib.hid (HR.out x (List.mem_of_getElem? hx))
      have HX := Lib.hid hx
      clear hcell hx
      obtain ⟨m, hm⟩ : ∃ m, m = markL l t (r.take i) := ⟨_, rfl⟩
      rw [← hm] at HW
      have HM := Lib.hid hm
      have HML : Hid (m.length = l.length) := Lib.hid (by rw [hm, markL_len])
      clear hm
      obtain ⟨K, hK⟩ : ∃ K, K = (min x.2 512).toNat := ⟨_, rfl⟩
      have hK1 : (K : Int) = max (min x.2 512) 0 := by omega
      have HK1 := Lib.hid hK1
      have HKK : Hid (markOne m t x = markR m t x.1 K) := Lib.hid (by unfold markOne; rw [hK])
      have hK5 : K ≤ 512 := by omega
      clear hK hK1
      go_wp2_with fail
      go_loopw [9] (fun u wr => ∃ k : Nat, k ≤ K ∧ u = .int .i64 (k : Nat) ∧ Hid (RowB wr g (markR m t x.1 k)) ∧ Hid (Below w.heap.size w wr)) (fun u _ => K - (intOf u).toNat)
      case atStart => exact ⟨0, Nat.zero_le _, rfl, HW, HB⟩
      case round =>
        clear HW HB
        obtain ⟨k, hk, rfl, HW, HB⟩ := hrel
        obtain ⟨w5, rfl⟩ : ∃ w5, w5 = wr := ⟨_, rfl⟩
        have d0 := HC0.out _ HB.out
        have d1 := HC1.out _ HB.out
        by_cases hkk : k < K
        · have g1 : (k : Int) < x.2 := by have := HK1.out; omega
          have g2 : (k : Int) < 512 := by omega
          have hx0 : -9223372036854775808 ≤ x.1 + (k : Int) := by have := HXB.out.1; omega
          have hx1 : x.1 + (k : Int) ≤ 9223372036854775807 := by have := HXB.out.2; omega
          by_cases h0 : x.1 + (k : Int) < 0
          · have HN := Lib.hid (markR_no m t x.1 k (fun h => by omega))
            go_wp2_with fail
            exact ⟨⟨k + 1, by omega, by go_num, Lib.hid (by rw [HN.out]; exact HW.out), HB⟩, by simp [intOf]; omega⟩
          · obtain ⟨p, hp⟩ : ∃ p : Nat, x.1 + (k : Int) = p := ⟨(x.1 + k).toNat, by omega⟩
            have HPk := Lib.hid hp
            by_cases h5 : 512 ≤ p
            · have HN := Lib.hid (markR_no m t x.1 k (fun h => by have := ((has_is m _).1 h.2).1; omega))
              have g5 : (512 : Int) ≤ (p : Int) := by omega
              go_wp2_with fail
              exact ⟨⟨k + 1, by omega, by go_num, Lib.hid (by rw [HN.out]; exact HW.out), HB⟩, by simp [intOf]; omega⟩
            · have g5 : ¬ (512 : Int) ≤ (p : Int) := by omega
              by_cases h8 : l.length ≤ p / 8
              · have HN := Lib.hid (markR_no m t x.1 k (fun h => by have := ((has_is m _).1 h.2).2; have := HML.out; omega))
                have g8 : (l.length : Int) ≤ (p : Int) / 8 := by omega
                go_wp2_with fail
                exact ⟨⟨k + 1, by omega, by go_num, Lib.hid (by rw [HN.out]; exact HW.out), HB⟩, by simp [intOf]; omega⟩
              · have g8 : ¬ (l.length : Int) ≤ (p : Int) / 8 := by omega
                have hh : has m p = true := (has_is m p).2 ⟨by omega, by have := HML.out; omega⟩
                have hq : p / 8 < (markR m t x.1 k).length := by rw [markR_len]; exact ((has_is m p).1 hh).2
                have HNX := Lib.hid (markR_set m t x.1 k p hp hh)
                have hq0 : (0 : Int) ≤ (p : Int) / 8 := by omega
                have hql : (p : Int) / 8 < (l.length : Int) := by omega
                have htn : ((p : Int) / 8).toNat = p / 8 := by omega
                have q0 := HW.out.cell hq
                have q1 := HW.out.free hq
                have HS := Lib.hid (fun c' => HW.out.set hq c')
                obtain ⟨y, hy⟩ : ∃ y, y = (markR m t x.1 k).getD (p / 8) 0 := ⟨_, rfl⟩
                rw [← hy] at q0 HNX
                have HSO := Lib.hid (set_or y p)
                have HSN := Lib.hid (set_not y p)
                have HSH := Lib.hid (shr_128 p)
                clear hy hh
                cases t with
                | true =>
                  go_wp2_with fail
                  rw [HSH.out, HSO.out]
                  exact ⟨⟨k + 1, by omega, by go_num, Lib.hid (by rw [HNX.out]; exact HS.out _), Lib.hid (HB.out.setCell (by rw [HG.out]; exact Nat.le_refl _) _)⟩, by simp [intOf]; omega⟩
                | false =>
                  go_wp2_with fail
                  rw [HSH.out, HSN.out]
                  exact ⟨⟨k + 1, by omega, by go_num, Lib.hid (by rw [HNX.out]; exact HS.out _), Lib.hid (HB.out.setCell (by rw [HG.out]; exact Nat.le_refl _) _)⟩, by simp [intOf]; omega⟩
        · obtain rfl : k = K := by omega
          have HO : Hid (RowB w5 g (markL l t (r.take (i + 1)))) := Lib.hid (by
            have := HKK.out
            rw [HM.out] at this
            rw [List.take_add_one, HX.out, Option.toList_some, markL_snoc, this, ← HM.out]
            exact HW.out)
          by_cases g1 : (k : Int) < x.2
          · have g2 : ¬ (k : Int) < 512 := by have := HK1.out; omega
            clear hkk
            go_wp2_with fail
            exact ⟨⟨i + 1, by omega, by go_num, HO, HB⟩, by simp [intOf]; omega⟩
          · clear hkk
            go_wp2_with fail
            exact ⟨⟨i + 1, by omega, by go_num, HO, HB⟩, by simp [intOf]; omega⟩
    · obtain rfl : i = n := by omega
      have hlen : (markL l t (r.take i)).length = l.length := markL_len t _ l
      have hback := HW.out.back cap
      rw [hlen] at hback
      have HT : Hid (r.take i = r) := Lib.hid (by rw [← HRN.out]; exact List.take_length)
      rw [HT.out] at hback
      clear hlen
      go_wp2_with fail
      go_ret
      exact ⟨rfl, HB.out⟩

end Go.Proofs.YtgeiemccjionpaaGreat.Bit
