/- BitsMarks: the walk. No statement is proved here. -/
import Derived.Test.YtjlcmmidbeikdaaBack
namespace Go.Proofs.Ytjlcmmidbeikdaa
open Go.RowKit Go.Sort

theorem tk_one (l : List UInt8) (t : Bool) (s n : Nat) (hl : l.length = 208) (hn : n < 40) (i : Nat) (hi : i < 512) :
    tk (markL l t [((s : Int), (n : Int))]) i = if s ≤ i ∧ i < s + n then t else tk l i := by
  rw [tk_markL t i _ l (fun x hx => by obtain rfl : x = ((s : Int), (n : Int)) := by simpa using hx
                                       exact ⟨by show (0 : Int) ≤ n; omega, by show (n : Int) ≤ 512; omega⟩), (has_is l i).2 ⟨hi, by omega⟩]
  have e : inR [((s : Int), (n : Int))] i = decide (s ≤ i ∧ i < s + n) := by
    unfold inR
    simp
    rw [Bool.eq_iff_iff]
    simp
    omega
  rw [e]
  by_cases h : s ≤ i ∧ i < s + n
  · simp [h]
  · simp [h]
theorem one_low {a b : Int} (h : -10000 ≤ a) : ∀ x ∈ [(a, b)], -10000 ≤ x.1 := fun x hx => by
  obtain rfl : x = (a, b) := by simpa using hx
  exact h
theorem root_nat (l : List UInt8) (w : World) (r : Nat) (hr : rootN l = r) (hl : l.length ≤ 300) :
    Calls Try.prog 19 #[.string (strB l)] w fun e w' => e = .returned (.int .i64 (r : Nat)) ∧ Below w.heap.size w w' := by
  have h := root_calls l w hl
  rw [hr] at h
  exact h

set_option maxRecDepth 100000 in
set_option maxHeartbeats 4000000 in
theorem marks_few (l : List UInt8) (a b c : Nat) (t : Bool) (w : World) (hl : l.length = 208) (ha : a < 65536) (hb : b < 65536) (hc : c < 65536) :
    Calls Try.prog 4 #[.string (strB l), .agg #[.int .u16 (a : Nat), .int .u16 (b : Nat), .int .u16 (c : Nat)], .bool t] w fun e w' => e = .returned (.bool true) ∧ Below w.heap.size w w' := by
  have hs := strB_size l
  rw [hl] at hs
  have hl3 : l.length ≤ 300 := by omega
  obtain ⟨s, hs0⟩ : ∃ s, s = a % 512 := ⟨_, rfl⟩
  obtain ⟨n, hn0⟩ : ∃ n, n = b % 40 := ⟨_, rfl⟩
  obtain ⟨m, hm0⟩ : ∃ m, m = c % 512 := ⟨_, rfl⟩
  have hs1 : s < 512 := by omega
  have hn1 : n < 40 := by omega
  have hm1 : m < 512 := by omega
  have e1 : (a : Int) % 512 = (s : Int) := by omega
  have e2 : (b : Int) % 40 = (n : Int) := by omega
  have e3 : (c : Int) % 512 = (m : Int) := by omega
  have HY := Lib.hid (fun i hi => tk_one l t s n hl hn1 i hi)
  have HZ := Lib.hid (tk_setR l (m : Nat))
  have HYL : Hid ((markL l t [((s : Int), (n : Int))]).length ≤ 300) := Lib.hid (by rw [markL_len]; exact hl3)
  have HZL : Hid ((setR l (m : Nat)).length ≤ 300) := Lib.hid (by rw [setR_len]; exact hl3)
  have HYR : Hid (rootN (markL l t [((s : Int), (n : Int))]) = rootN l) := Lib.hid (rootN_same (markL_len _ _ _) (markL_drop _ _ _))
  have HZR : Hid (rootN (setR l (m : Nat)) = m) := Lib.hid (rootN_set l m (by omega) hm1)
  have hys : (strB (markL l t [((s : Int), (n : Int))])).size = 208 := by rw [strB_size, markL_len, hl]
  have hzs : (strB (setR l (m : Nat))).size = 208 := by rw [strB_size, setR_len, hl]
  have E1 := Lib.hid e1
  have E2 := Lib.hid e2
  have E3 := Lib.hid e3
  clear hs0 hn0 hm0 hl e1 e2 e3
  go_enter Try.func4, Try.ntmps4
  go_wp2_with fail
  rw [E1.out, E2.out]
  have HX0 := Lib.hid (SBox.new (w.alloc (.cells #[.int .u16 (a : Nat), .int .u16 (b : Nat), .int .u16 (c : Nat)] 39)) ((s : Int), (n : Int)))
  have hsz : (w.alloc (.cells #[.int .u16 (a : Nat), .int .u16 (b : Nat), .int .u16 (c : Nat)] 39)).heap.size = w.heap.size + 1 := by simp
  rw [hsz] at HX0
  obtain ⟨w1, hw1, hB1⟩ : ∃ w1, w1 = (w.alloc (.cells #[.int .u16 (a : Nat), .int .u16 (b : Nat), .int .u16 (c : Nat)] 39)).alloc (.cells #[.int .i64 (s : Nat), .int .i64 (n : Nat)] 26) ∧ Below w.heap.size w w1 := ⟨_, rfl, below_trans2 (below_one _ _) (below_one _ _)⟩
  have HX1 : Hid (SBox w1 (w.heap.size + 1) ((s : Int), (n : Int))) := Lib.hid (by rw [hw1]; exact HX0.out)
  rw [← hw1, E3.out]
  have HB := Lib.hid hB1
  have hsz1 : w1.heap.size = w.heap.size + 1 + 1 := by rw [hw1]; simp
  have HSN : Hid (Sps (w1.alloc (.cells #[.int .i64 (s : Nat), .int .i64 (n : Nat)] 26)) (.slice (some ⟨w.heap.size + 1 + 1, 0, none⟩) 1 1) [((s : Int), (n : Int))]) := Lib.hid (by rw [← hsz1]; exact Sps.new w1 (s : Int) (n : Int))
  clear hw1 hB1 hsz HX0 hsz1
  (with_reducible refine (mark_calls l t [((s : Int), (n : Int))] _ _ _ _ hl3 HSN.out (by omega) (one_low (by omega))).mono ?_)
  rintro e w2 ⟨rfl, hB⟩
  have HX2 := Lib.hid (HX1.out.below (below_trans2 (below_one _ _) hB))
  replace HB := Lib.hid (below_trans2 HB.out (below_trans2 (below_one _ _) hB))
  clear hB HX1
  go_wp2_with fail
  (with_reducible refine (setRoot_calls l (m : Nat) _ hl3).mono ?_)
  rintro e w3 ⟨rfl, hB⟩
  have HX3 := Lib.hid (HX2.out.below hB)
  replace HB := Lib.hid (below_trans2 HB.out hB)
  clear hB HX2
  go_wp2_with fail
  go_loopw [11] (fun u wr => ∃ i : Nat, i ≤ 512 ∧ u = .int .i64 (i : Nat) ∧ Hid (SBox wr (w.heap.size + 1) ((s : Int), (n : Int))) ∧ Hid (Below w.heap.size w wr)) (fun u _ => 512 - (intOf u).toNat)
  case atStart => exact ⟨0, Nat.zero_le _, rfl, HX3, HB⟩
  case round =>
    clear HB
    obtain ⟨i, hi, rfl, HX, HB⟩ := hrel
    by_cases hlt : i < 512
    · have g1 : (i : Int) < 512 := by omega
      have q0 := HX.out.c0
      have q1 := HX.out.c1
      by_cases h1 : (s : Int) ≤ (i : Int)
      · by_cases h2 : (i : Int) < (s : Int) + (n : Int)
        · cases t with
          | true =>
            cases ht : tk l i with
            | true =>
              have HE : Hid (tk (markL l true [(s, n)]) i = true) := Lib.hid (by rw [HY.out i (by omega)]; rw [if_pos ⟨by omega, by omega⟩])
              go_wp2_with fail
              (with_reducible refine (taken_nat (markL l true [(s, n)]) i _ HYL.out).mono ?_)
              rintro e w' ⟨rfl, hB⟩
              rw [HE.out]
              replace HB := Lib.hid (below_trans2 HB.out hB)
              replace HX := Lib.hid (HX.out.below hB)
              clear hB
              go_wp2_with fail
              (with_reducible refine (taken_nat (setR l (m : Nat)) i _ HZL.out).mono ?_)
              rintro e w' ⟨rfl, hB⟩
              rw [HZ.out i, ht]
              replace HB := Lib.hid (below_trans2 HB.out hB)
              replace HX := Lib.hid (HX.out.below hB)
              clear hB
              go_wp2_with fail
              (with_reducible refine (taken_nat l i _ hl3).mono ?_)
              rintro e w' ⟨rfl, hB⟩
              rw [ht]
              replace HB := Lib.hid (below_trans2 HB.out hB)
              replace HX := Lib.hid (HX.out.below hB)
              clear hB
              go_wp2_with fail
              exact ⟨⟨i + 1, by omega, by go_num, HX, HB⟩, by simp [intOf]; omega⟩
            | false =>
              have HE : Hid (tk (markL l true [(s, n)]) i = true) := Lib.hid (by rw [HY.out i (by omega)]; rw [if_pos ⟨by omega, by omega⟩])
              go_wp2_with fail
              (with_reducible refine (taken_nat (markL l true [(s, n)]) i _ HYL.out).mono ?_)
              rintro e w' ⟨rfl, hB⟩
              rw [HE.out]
              replace HB := Lib.hid (below_trans2 HB.out hB)
              replace HX := Lib.hid (HX.out.below hB)
              clear hB
              go_wp2_with fail
              (with_reducible refine (taken_nat (setR l (m : Nat)) i _ HZL.out).mono ?_)
              rintro e w' ⟨rfl, hB⟩
              rw [HZ.out i, ht]
              replace HB := Lib.hid (below_trans2 HB.out hB)
              replace HX := Lib.hid (HX.out.below hB)
              clear hB
              go_wp2_with fail
              (with_reducible refine (taken_nat l i _ hl3).mono ?_)
              rintro e w' ⟨rfl, hB⟩
              rw [ht]
              replace HB := Lib.hid (below_trans2 HB.out hB)
              replace HX := Lib.hid (HX.out.below hB)
              clear hB
              go_wp2_with fail
              exact ⟨⟨i + 1, by omega, by go_num, HX, HB⟩, by simp [intOf]; omega⟩
          | false =>
            cases ht : tk l i with
            | true =>
              have HE : Hid (tk (markL l false [(s, n)]) i = false) := Lib.hid (by rw [HY.out i (by omega)]; rw [if_pos ⟨by omega, by omega⟩])
              go_wp2_with fail
              (with_reducible refine (taken_nat (markL l false [(s, n)]) i _ HYL.out).mono ?_)
              rintro e w' ⟨rfl, hB⟩
              rw [HE.out]
              replace HB := Lib.hid (below_trans2 HB.out hB)
              replace HX := Lib.hid (HX.out.below hB)
              clear hB
              go_wp2_with fail
              (with_reducible refine (taken_nat (setR l (m : Nat)) i _ HZL.out).mono ?_)
              rintro e w' ⟨rfl, hB⟩
              rw [HZ.out i, ht]
              replace HB := Lib.hid (below_trans2 HB.out hB)
              replace HX := Lib.hid (HX.out.below hB)
              clear hB
              go_wp2_with fail
              (with_reducible refine (taken_nat l i _ hl3).mono ?_)
              rintro e w' ⟨rfl, hB⟩
              rw [ht]
              replace HB := Lib.hid (below_trans2 HB.out hB)
              replace HX := Lib.hid (HX.out.below hB)
              clear hB
              go_wp2_with fail
              exact ⟨⟨i + 1, by omega, by go_num, HX, HB⟩, by simp [intOf]; omega⟩
            | false =>
              have HE : Hid (tk (markL l false [(s, n)]) i = false) := Lib.hid (by rw [HY.out i (by omega)]; rw [if_pos ⟨by omega, by omega⟩])
              go_wp2_with fail
              (with_reducible refine (taken_nat (markL l false [(s, n)]) i _ HYL.out).mono ?_)
              rintro e w' ⟨rfl, hB⟩
              rw [HE.out]
              replace HB := Lib.hid (below_trans2 HB.out hB)
              replace HX := Lib.hid (HX.out.below hB)
              clear hB
              go_wp2_with fail
              (with_reducible refine (taken_nat (setR l (m : Nat)) i _ HZL.out).mono ?_)
              rintro e w' ⟨rfl, hB⟩
              rw [HZ.out i, ht]
              replace HB := Lib.hid (below_trans2 HB.out hB)
              replace HX := Lib.hid (HX.out.below hB)
              clear hB
              go_wp2_with fail
              (with_reducible refine (taken_nat l i _ hl3).mono ?_)
              rintro e w' ⟨rfl, hB⟩
              rw [ht]
              replace HB := Lib.hid (below_trans2 HB.out hB)
              replace HX := Lib.hid (HX.out.below hB)
              clear hB
              go_wp2_with fail
              exact ⟨⟨i + 1, by omega, by go_num, HX, HB⟩, by simp [intOf]; omega⟩
        · cases t with
          | true =>
            cases ht : tk l i with
            | true =>
              have HE : Hid (tk (markL l true [(s, n)]) i = true) := Lib.hid (by rw [HY.out i (by omega)]; rw [if_neg (fun h => by omega)]; exact ht)
              go_wp2_with fail
              (with_reducible refine (taken_nat (markL l true [(s, n)]) i _ HYL.out).mono ?_)
              rintro e w' ⟨rfl, hB⟩
              rw [HE.out]
              replace HB := Lib.hid (below_trans2 HB.out hB)
              replace HX := Lib.hid (HX.out.below hB)
              clear hB
              go_wp2_with fail
              (with_reducible refine (taken_nat l i _ hl3).mono ?_)
              rintro e w' ⟨rfl, hB⟩
              rw [ht]
              replace HB := Lib.hid (below_trans2 HB.out hB)
              replace HX := Lib.hid (HX.out.below hB)
              clear hB
              go_wp2_with fail
              (with_reducible refine (taken_nat (setR l (m : Nat)) i _ HZL.out).mono ?_)
              rintro e w' ⟨rfl, hB⟩
              rw [HZ.out i, ht]
              replace HB := Lib.hid (below_trans2 HB.out hB)
              replace HX := Lib.hid (HX.out.below hB)
              clear hB
              go_wp2_with fail
              (with_reducible refine (taken_nat l i _ hl3).mono ?_)
              rintro e w' ⟨rfl, hB⟩
              rw [ht]
              replace HB := Lib.hid (below_trans2 HB.out hB)
              replace HX := Lib.hid (HX.out.below hB)
              clear hB
              go_wp2_with fail
              exact ⟨⟨i + 1, by omega, by go_num, HX, HB⟩, by simp [intOf]; omega⟩
            | false =>
              have HE : Hid (tk (markL l true [(s, n)]) i = false) := Lib.hid (by rw [HY.out i (by omega)]; rw [if_neg (fun h => by omega)]; exact ht)
              go_wp2_with fail
              (with_reducible refine (taken_nat (markL l true [(s, n)]) i _ HYL.out).mono ?_)
              rintro e w' ⟨rfl, hB⟩
              rw [HE.out]
              replace HB := Lib.hid (below_trans2 HB.out hB)
              replace HX := Lib.hid (HX.out.below hB)
              clear hB
              go_wp2_with fail
              (with_reducible refine (taken_nat l i _ hl3).mono ?_)
              rintro e w' ⟨rfl, hB⟩
              rw [ht]
              replace HB := Lib.hid (below_trans2 HB.out hB)
              replace HX := Lib.hid (HX.out.below hB)
              clear hB
              go_wp2_with fail
              (with_reducible refine (taken_nat (setR l (m : Nat)) i _ HZL.out).mono ?_)
              rintro e w' ⟨rfl, hB⟩
              rw [HZ.out i, ht]
              replace HB := Lib.hid (below_trans2 HB.out hB)
              replace HX := Lib.hid (HX.out.below hB)
              clear hB
              go_wp2_with fail
              (with_reducible refine (taken_nat l i _ hl3).mono ?_)
              rintro e w' ⟨rfl, hB⟩
              rw [ht]
              replace HB := Lib.hid (below_trans2 HB.out hB)
              replace HX := Lib.hid (HX.out.below hB)
              clear hB
              go_wp2_with fail
              exact ⟨⟨i + 1, by omega, by go_num, HX, HB⟩, by simp [intOf]; omega⟩
          | false =>
            cases ht : tk l i with
            | true =>
              have HE : Hid (tk (markL l false [(s, n)]) i = true) := Lib.hid (by rw [HY.out i (by omega)]; rw [if_neg (fun h => by omega)]; exact ht)
              go_wp2_with fail
              (with_reducible refine (taken_nat (markL l false [(s, n)]) i _ HYL.out).mono ?_)
              rintro e w' ⟨rfl, hB⟩
              rw [HE.out]
              replace HB := Lib.hid (below_trans2 HB.out hB)
              replace HX := Lib.hid (HX.out.below hB)
              clear hB
              go_wp2_with fail
              (with_reducible refine (taken_nat l i _ hl3).mono ?_)
              rintro e w' ⟨rfl, hB⟩
              rw [ht]
              replace HB := Lib.hid (below_trans2 HB.out hB)
              replace HX := Lib.hid (HX.out.below hB)
              clear hB
              go_wp2_with fail
              (with_reducible refine (taken_nat (setR l (m : Nat)) i _ HZL.out).mono ?_)
              rintro e w' ⟨rfl, hB⟩
              rw [HZ.out i, ht]
              replace HB := Lib.hid (below_trans2 HB.out hB)
              replace HX := Lib.hid (HX.out.below hB)
              clear hB
              go_wp2_with fail
              (with_reducible refine (taken_nat l i _ hl3).mono ?_)
              rintro e w' ⟨rfl, hB⟩
              rw [ht]
              replace HB := Lib.hid (below_trans2 HB.out hB)
              replace HX := Lib.hid (HX.out.below hB)
              clear hB
              go_wp2_with fail
              exact ⟨⟨i + 1, by omega, by go_num, HX, HB⟩, by simp [intOf]; omega⟩
            | false =>
              have HE : Hid (tk (markL l false [(s, n)]) i = false) := Lib.hid (by rw [HY.out i (by omega)]; rw [if_neg (fun h => by omega)]; exact ht)
              go_wp2_with fail
              (with_reducible refine (taken_nat (markL l false [(s, n)]) i _ HYL.out).mono ?_)
              rintro e w' ⟨rfl, hB⟩
              rw [HE.out]
              replace HB := Lib.hid (below_trans2 HB.out hB)
              replace HX := Lib.hid (HX.out.below hB)
              clear hB
              go_wp2_with fail
              (with_reducible refine (taken_nat l i _ hl3).mono ?_)
              rintro e w' ⟨rfl, hB⟩
              rw [ht]
              replace HB := Lib.hid (below_trans2 HB.out hB)
              replace HX := Lib.hid (HX.out.below hB)
              clear hB
              go_wp2_with fail
              (with_reducible refine (taken_nat (setR l (m : Nat)) i _ HZL.out).mono ?_)
              rintro e w' ⟨rfl, hB⟩
              rw [HZ.out i, ht]
              replace HB := Lib.hid (below_trans2 HB.out hB)
              replace HX := Lib.hid (HX.out.below hB)
              clear hB
              go_wp2_with fail
              (with_reducible refine (taken_nat l i _ hl3).mono ?_)
              rintro e w' ⟨rfl, hB⟩
              rw [ht]
              replace HB := Lib.hid (below_trans2 HB.out hB)
              replace HX := Lib.hid (HX.out.below hB)
              clear hB
              go_wp2_with fail
              exact ⟨⟨i + 1, by omega, by go_num, HX, HB⟩, by simp [intOf]; omega⟩
      · cases t with
        | true =>
          cases ht : tk l i with
          | true =>
            have HE : Hid (tk (markL l true [(s, n)]) i = true) := Lib.hid (by rw [HY.out i (by omega)]; rw [if_neg (fun h => by omega)]; exact ht)
            go_wp2_with fail
            (with_reducible refine (taken_nat (markL l true [(s, n)]) i _ HYL.out).mono ?_)
            rintro e w' ⟨rfl, hB⟩
            rw [HE.out]
            replace HB := Lib.hid (below_trans2 HB.out hB)
            replace HX := Lib.hid (HX.out.below hB)
            clear hB
            go_wp2_with fail
            (with_reducible refine (taken_nat l i _ hl3).mono ?_)
            rintro e w' ⟨rfl, hB⟩
            rw [ht]
            replace HB := Lib.hid (below_trans2 HB.out hB)
            replace HX := Lib.hid (HX.out.below hB)
            clear hB
            go_wp2_with fail
            (with_reducible refine (taken_nat (setR l (m : Nat)) i _ HZL.out).mono ?_)
            rintro e w' ⟨rfl, hB⟩
            rw [HZ.out i, ht]
            replace HB := Lib.hid (below_trans2 HB.out hB)
            replace HX := Lib.hid (HX.out.below hB)
            clear hB
            go_wp2_with fail
            (with_reducible refine (taken_nat l i _ hl3).mono ?_)
            rintro e w' ⟨rfl, hB⟩
            rw [ht]
            replace HB := Lib.hid (below_trans2 HB.out hB)
            replace HX := Lib.hid (HX.out.below hB)
            clear hB
            go_wp2_with fail
            exact ⟨⟨i + 1, by omega, by go_num, HX, HB⟩, by simp [intOf]; omega⟩
          | false =>
            have HE : Hid (tk (markL l true [(s, n)]) i = false) := Lib.hid (by rw [HY.out i (by omega)]; rw [if_neg (fun h => by omega)]; exact ht)
            go_wp2_with fail
            (with_reducible refine (taken_nat (markL l true [(s, n)]) i _ HYL.out).mono ?_)
            rintro e w' ⟨rfl, hB⟩
            rw [HE.out]
            replace HB := Lib.hid (below_trans2 HB.out hB)
            replace HX := Lib.hid (HX.out.below hB)
            clear hB
            go_wp2_with fail
            (with_reducible refine (taken_nat l i _ hl3).mono ?_)
            rintro e w' ⟨rfl, hB⟩
            rw [ht]
            replace HB := Lib.hid (below_trans2 HB.out hB)
            replace HX := Lib.hid (HX.out.below hB)
            clear hB
            go_wp2_with fail
            (with_reducible refine (taken_nat (setR l (m : Nat)) i _ HZL.out).mono ?_)
            rintro e w' ⟨rfl, hB⟩
            rw [HZ.out i, ht]
            replace HB := Lib.hid (below_trans2 HB.out hB)
            replace HX := Lib.hid (HX.out.below hB)
            clear hB
            go_wp2_with fail
            (with_reducible refine (taken_nat l i _ hl3).mono ?_)
            rintro e w' ⟨rfl, hB⟩
            rw [ht]
            replace HB := Lib.hid (below_trans2 HB.out hB)
            replace HX := Lib.hid (HX.out.below hB)
            clear hB
            go_wp2_with fail
            exact ⟨⟨i + 1, by omega, by go_num, HX, HB⟩, by simp [intOf]; omega⟩
        | false =>
          cases ht : tk l i with
          | true =>
            have HE : Hid (tk (markL l false [(s, n)]) i = true) := Lib.hid (by rw [HY.out i (by omega)]; rw [if_neg (fun h => by omega)]; exact ht)
            go_wp2_with fail
            (with_reducible refine (taken_nat (markL l false [(s, n)]) i _ HYL.out).mono ?_)
            rintro e w' ⟨rfl, hB⟩
            rw [HE.out]
            replace HB := Lib.hid (below_trans2 HB.out hB)
            replace HX := Lib.hid (HX.out.below hB)
            clear hB
            go_wp2_with fail
            (with_reducible refine (taken_nat l i _ hl3).mono ?_)
            rintro e w' ⟨rfl, hB⟩
            rw [ht]
            replace HB := Lib.hid (below_trans2 HB.out hB)
            replace HX := Lib.hid (HX.out.below hB)
            clear hB
            go_wp2_with fail
            (with_reducible refine (taken_nat (setR l (m : Nat)) i _ HZL.out).mono ?_)
            rintro e w' ⟨rfl, hB⟩
            rw [HZ.out i, ht]
            replace HB := Lib.hid (below_trans2 HB.out hB)
            replace HX := Lib.hid (HX.out.below hB)
            clear hB
            go_wp2_with fail
            (with_reducible refine (taken_nat l i _ hl3).mono ?_)
            rintro e w' ⟨rfl, hB⟩
            rw [ht]
            replace HB := Lib.hid (below_trans2 HB.out hB)
            replace HX := Lib.hid (HX.out.below hB)
            clear hB
            go_wp2_with fail
            exact ⟨⟨i + 1, by omega, by go_num, HX, HB⟩, by simp [intOf]; omega⟩
          | false =>
            have HE : Hid (tk (markL l false [(s, n)]) i = false) := Lib.hid (by rw [HY.out i (by omega)]; rw [if_neg (fun h => by omega)]; exact ht)
            go_wp2_with fail
            (with_reducible refine (taken_nat (markL l false [(s, n)]) i _ HYL.out).mono ?_)
            rintro e w' ⟨rfl, hB⟩
            rw [HE.out]
            replace HB := Lib.hid (below_trans2 HB.out hB)
            replace HX := Lib.hid (HX.out.below hB)
            clear hB
            go_wp2_with fail
            (with_reducible refine (taken_nat l i _ hl3).mono ?_)
            rintro e w' ⟨rfl, hB⟩
            rw [ht]
            replace HB := Lib.hid (below_trans2 HB.out hB)
            replace HX := Lib.hid (HX.out.below hB)
            clear hB
            go_wp2_with fail
            (with_reducible refine (taken_nat (setR l (m : Nat)) i _ HZL.out).mono ?_)
            rintro e w' ⟨rfl, hB⟩
            rw [HZ.out i, ht]
            replace HB := Lib.hid (below_trans2 HB.out hB)
            replace HX := Lib.hid (HX.out.below hB)
            clear hB
            go_wp2_with fail
            (with_reducible refine (taken_nat l i _ hl3).mono ?_)
            rintro e w' ⟨rfl, hB⟩
            rw [ht]
            replace HB := Lib.hid (below_trans2 HB.out hB)
            replace HX := Lib.hid (HX.out.below hB)
            clear hB
            go_wp2_with fail
            exact ⟨⟨i + 1, by omega, by go_num, HX, HB⟩, by simp [intOf]; omega⟩
    · obtain rfl : i = 512 := by omega
      go_wp2_with fail
      (with_reducible refine (awake_true _).mono ?_)
      rintro e w4 ⟨rfl, hB⟩
      replace HB := Lib.hid (below_trans2 HB.out hB)
      clear hB
      go_wp2_with fail
      (with_reducible refine (root_nat _ _ (rootN l) HYR.out HYL.out).mono ?_)
      rintro e w5 ⟨rfl, hB⟩
      replace HB := Lib.hid (below_trans2 HB.out hB)
      clear hB
      go_wp2_with fail
      (with_reducible refine (root_calls l _ hl3).mono ?_)
      rintro e w6 ⟨rfl, hB⟩
      replace HB := Lib.hid (below_trans2 HB.out hB)
      clear hB
      go_wp2_with fail
      (with_reducible refine (root_nat _ _ m HZR.out HZL.out).mono ?_)
      rintro e w7 ⟨rfl, hB⟩
      replace HB := Lib.hid (below_trans2 HB.out hB)
      clear hB
      go_wp2_with fail
      go_ret
      exact ⟨rfl, HB.out⟩

set_option maxRecDepth 100000 in
set_option maxHeartbeats 4000000 in
theorem marks_calls (s : ByteArray) (a b c : Nat) (t : Bool) (w : World) (ha : a < 65536) (hb : b < 65536) (hc : c < 65536) :
    Calls Try.prog 4 #[.string s, .agg #[.int .u16 (a : Nat), .int .u16 (b : Nat), .int .u16 (c : Nat)], .bool t] w fun e w' => e = .returned (.bool true) ∧ Below w.heap.size w w' := by
  by_cases h : s.size = 208
  · have := marks_few s.data.toList a b c t w (by rw [← strB_size, strB_of]; exact h) ha hb hc
    rw [strB_of] at this
    exact this
  · have g : ((s.size : Int) != 208) = true := by simp; omega
    go_enter Try.func4, Try.ntmps4
    go_wp2_with fail
    (with_reducible refine (awake_true _).mono ?_)
    rintro e w3 ⟨rfl, hB⟩
    have HB := Lib.hid (below_trans2 (below_one _ _) hB)
    clear hB
    go_wp2_with fail
    go_ret
    exact ⟨rfl, HB.out⟩

end Go.Proofs.Ytjlcmmidbeikdaa
