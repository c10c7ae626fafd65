/- The document's Mark: what the call does. No statement is proved here. -/
import Derived.Test.YtjlcmmidbeikdaaMark
namespace Go.Proofs.Ytjlcmmidbeikdaa
open Go.RowKit Go.Sort

theorem markR_set (m : List UInt8) (t : Bool) (s : Int) (k p : Nat) (hp : s + (k : Int) = p) (hh : has m p = true) :
    markR m t s (k + 1) = (markR m t s k).set (p / 8) (setB ((markR m t s k).getD (p / 8) 0) t p) := by
  show mkI (markR m t s k) t (s + (k : Int)) = _
  rw [hp]
  unfold mkI mk1
  rw [if_pos (by omega), Int.toNat_natCast, if_pos (by rw [has_len (markR_len _ _ _ _)]; exact hh)]
theorem markR_no (m : List UInt8) (t : Bool) (s : Int) (k : Nat) (h : ¬ (0 ≤ s + (k : Int) ∧ has m (s + (k : Int)).toNat = true)) : markR m t s (k + 1) = markR m t s k := by
  show mkI (markR m t s k) t (s + (k : Int)) = _
  exact mkI_out _ _ _ (by rw [has_len (markR_len _ _ _ _)]; exact h)
theorem shr_128 (p : Nat) : (128 : Int) / 2 ^ (p % 8) = ((2 ^ (7 - p % 8) : Nat) : Int) := by
  have h : p % 8 < 8 := by omega
  generalize p % 8 = j at *
  have : ∀ j < 8, (128 : Int) / 2 ^ j = ((2 ^ (7 - j) : Nat) : Int) := by decide
  exact this j h

set_option maxRecDepth 100000 in
set_option maxHeartbeats 4000000 in
theorem rmark_calls (l : List UInt8) (t : Bool) (r : List (Int × Int)) (A : Option Addr) (n c : Nat) (w : World) (hl : l.length ≤ 300) (hv : Sps w (.slice A n c) r) (hn : n ≤ 1000) (hr : ∀ x ∈ r, -10000 ≤ x.1 ∧ x.1 ≤ 10000) :
    Calls Try.prog 15 #[.string (strB l), .slice A n c, .bool t] w fun e w' => e = .returned (.string (strB (markL l t r))) ∧ Below w.heap.size w w' := by
  obtain ⟨cap, Y, hcv, hR0, hB0⟩ := conv_bytes w l
  have HR0 := Lib.hid hR0
  have HB0 := Lib.hid hB0
  have HV := Lib.hid hv
  have HRN := Lib.hid hv.at_.1
  have HR := Lib.hid hr
  obtain ⟨g, hg⟩ : ∃ g, g = w.heap.size := ⟨_, rfl⟩
  rw [← hg] at hcv HR0
  have HG := Lib.hid hg
  clear hR0 hB0 hv hr hg
  go_enter Try.func15, Try.ntmps15
  go_wp2_with fail
  clear hcv
  go_loopw [8] (fun u wr => ∃ i : Nat, i ≤ n ∧ u = .int .i64 (i : Nat) ∧ Hid (RowB wr g (markL l t (r.take i))) ∧ Hid (Below w.heap.size w wr)) (fun u _ => n - (intOf u).toNat)
  case atStart => exact ⟨0, Nat.zero_le _, rfl, HR0, HB0⟩
  case round =>
    obtain ⟨i, hi, rfl, HW, HB⟩ := hrel
    obtain ⟨w2, rfl⟩ : ∃ w2, w2 = wr := ⟨_, rfl⟩
    by_cases hlt : i < n
    · obtain ⟨x, hx⟩ : ∃ x, r[i]? = some x := ⟨_, List.getElem?_eq_getElem (by have := HRN.out; omega)⟩
      obtain ⟨b, off, rfl, hbl, hcell⟩ := HV.out.at_.2.2 (by omega)
      have HC0 : Hid (∀ W, Below w.heap.size w W → W.cell? ⟨b, off + i * 2, none⟩ = some (.int .i64 x.1)) := Lib.hid (fun W hW => (hW.cell (p := ⟨b, off + i * 2, none⟩) hbl).trans (hcell i x hx).1)
      have HC1 : Hid (∀ W, Below w.heap.size w W → W.cell? ⟨b, off + i * 2 + 1, none⟩ = some (.int .i64 x.2)) := Lib.hid (fun W hW => (hW.cell (p := ⟨b, off + i * 2 + 1, none⟩) hbl).trans (hcell i x hx).2)
      have hi2 : (i : Int) < (n : Int) := by omega
      obtain ⟨hx0, hx1⟩ := HR.out x (List.mem_of_getElem? hx)
      have HX := Lib.hid hx
      clear hcell hx
      obtain ⟨m, hm⟩ : ∃ m, m = markL l t (r.take i) := ⟨_, rfl⟩
      rw [← hm] at HW
      have HM := Lib.hid hm
      have HML : Hid (m.length = l.length) := Lib.hid (by rw [hm, markL_len])
      clear hm
      obtain ⟨K, hK⟩ : ∃ K, K = (min x.2 512).toNat := ⟨_, rfl⟩
      have hK1 : (K : Int) = max (min x.2 512) 0 := by omega
      have HK1 := Lib.hid hK1
      have HKK : Hid (markOne m t x = markR m t x.1 K) := Lib.hid (by unfold markOne; rw [hK])
      have hK5 : K ≤ 512 := by omega
      clear hK hK1
      go_wp2_with fail
      go_loopw [9] (fun u wr => ∃ k : Nat, k ≤ K ∧ u = .int .i64 (k : Nat) ∧ Hid (RowB wr g (markR m t x.1 k)) ∧ Hid (Below w.heap.size w wr)) (fun u _ => K - (intOf u).toNat)
      case atStart => exact ⟨0, Nat.zero_le _, rfl, HW, HB⟩
      case round =>
        clear HW HB
        obtain ⟨k, hk, rfl, HW, HB⟩ := hrel
        obtain ⟨w5, rfl⟩ : ∃ w5, w5 = wr := ⟨_, rfl⟩
        have d0 := HC0.out _ HB.out
        have d1 := HC1.out _ HB.out
        by_cases hkk : k < K
        · have g1 : (k : Int) < x.2 := by have := HK1.out; omega
          have g2 : (k : Int) < 512 := by omega
          by_cases h0 : x.1 + (k : Int) < 0
          · have HN := Lib.hid (markR_no m t x.1 k (fun h => by omega))
            go_wp2_with fail
            exact ⟨⟨k + 1, by omega, by go_num, Lib.hid (by rw [HN.out]; exact HW.out), HB⟩, by simp [intOf]; omega⟩
          · obtain ⟨p, hp⟩ : ∃ p : Nat, x.1 + (k : Int) = p := ⟨(x.1 + k).toNat, by omega⟩
            have HPk := Lib.hid hp
            by_cases h5 : 512 ≤ p
            · have HN := Lib.hid (markR_no m t x.1 k (fun h => by have := ((has_is m _).1 h.2).1; omega))
              have g5 : (512 : Int) ≤ (p : Int) := by omega
              go_wp2_with fail
              exact ⟨⟨k + 1, by omega, by go_num, Lib.hid (by rw [HN.out]; exact HW.out), HB⟩, by simp [intOf]; omega⟩
            · have g5 : ¬ (512 : Int) ≤ (p : Int) := by omega
              by_cases h8 : l.length ≤ p / 8
              · have HN := Lib.hid (markR_no m t x.1 k (fun h => by have := ((has_is m _).1 h.2).2; have := HML.out; omega))
                have g8 : (l.length : Int) ≤ (p : Int) / 8 := by omega
                go_wp2_with fail
                exact ⟨⟨k + 1, by omega, by go_num, Lib.hid (by rw [HN.out]; exact HW.out), HB⟩, by simp [intOf]; omega⟩
              · have g8 : ¬ (l.length : Int) ≤ (p : Int) / 8 := by omega
                have hh : has m p = true := (has_is m p).2 ⟨by omega, by have := HML.out; omega⟩
                have hq : p / 8 < (markR m t x.1 k).length := by rw [markR_len]; exact ((has_is m p).1 hh).2
                have HNX := Lib.hid (markR_set m t x.1 k p hp hh)
                have hq0 : (0 : Int) ≤ (p : Int) / 8 := by omega
                have hql : (p : Int) / 8 < (l.length : Int) := by omega
                have htn : ((p : Int) / 8).toNat = p / 8 := by omega
                have q0 := HW.out.cell hq
                have q1 := HW.out.free hq
                have HS := Lib.hid (fun c' => HW.out.set hq c')
                obtain ⟨y, hy⟩ : ∃ y, y = (markR m t x.1 k).getD (p / 8) 0 := ⟨_, rfl⟩
                rw [← hy] at q0 HNX
                have HSO := Lib.hid (set_or y p)
                have HSN := Lib.hid (set_not y p)
                have HSH := Lib.hid (shr_128 p)
                clear hy hh
                cases t with
                | true =>
                  go_wp2_with fail
                  rw [HSH.out, HSO.out]
                  exact ⟨⟨k + 1, by omega, by go_num, Lib.hid (by rw [HNX.out]; exact HS.out _), Lib.hid (HB.out.setCell (by rw [HG.out]; exact Nat.le_refl _) _)⟩, by simp [intOf]; omega⟩
                | false =>
                  go_wp2_with fail
                  rw [HSH.out, HSN.out]
                  exact ⟨⟨k + 1, by omega, by go_num, Lib.hid (by rw [HNX.out]; exact HS.out _), Lib.hid (HB.out.setCell (by rw [HG.out]; exact Nat.le_refl _) _)⟩, by simp [intOf]; omega⟩
        · obtain rfl : k = K := by omega
          have HO : Hid (RowB w5 g (markL l t (r.take (i + 1)))) := Lib.hid (by
            have := HKK.out
            rw [HM.out] at this
            rw [List.take_add_one, HX.out, Option.toList_some, markL_snoc, this, ← HM.out]
            exact HW.out)
          by_cases g1 : (k : Int) < x.2
          · have g2 : ¬ (k : Int) < 512 := by have := HK1.out; omega
            clear hkk
            go_wp2_with fail
            exact ⟨⟨i + 1, by omega, by go_num, HO, HB⟩, by simp [intOf]; omega⟩
          · clear hkk
            go_wp2_with fail
            exact ⟨⟨i + 1, by omega, by go_num, HO, HB⟩, by simp [intOf]; omega⟩
    · obtain rfl : i = n := by omega
      have hlen : (markL l t (r.take i)).length = l.length := markL_len t _ l
      have hback := HW.out.back cap
      rw [hlen] at hback
      have HT : Hid (r.take i = r) := Lib.hid (by rw [← HRN.out]; exact List.take_length)
      rw [HT.out] at hback
      clear hlen
      go_wp2_with fail
      go_ret
      exact ⟨rfl, HB.out⟩

end Go.Proofs.Ytjlcmmidbeikdaa
