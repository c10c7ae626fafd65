/- entry.Right, sector, Print, Leaf; the law's page: what each call does. No statement is proved here. -/
import Derived.Test.YtompckbcaccmiaaEMem
namespace Go.Proofs.Ytompckbcaccmiaa
open Go.RowKit Go.Sort
open Wire (TK TP But twoL fourL)
open Crc (sealB Only)

set_option maxRecDepth 100000 in
set_option maxHeartbeats 8000000 in
theorem right_calls (x : En) (w : World) :
    Calls Try.prog 8 #[enV x] w fun e w' => e = .returned (.bool (rightE x)) ∧ Below w.heap.size w w' := by
  obtain ⟨Y, hY, hbY, hBY⟩ : ∃ Y, Y = w.alloc (.cells (enC x) 23) ∧ EBox Y w.heap.size x ∧ Below w.heap.size w Y := ⟨_, rfl, EBox.new _ _, below_one _ _⟩
  unfold enC at hY
  have k0 := fun d os => cell_regrown hbY.at_.c0 d os
  have k1 := fun d os => cell_regrown hbY.at_.c1 d os
  have k2 := fun d os => cell_regrown hbY.at_.c2 d os
  have k3 := fun d os => cell_regrown hbY.at_.c3 d os
  have k4 := fun d os => cell_regrown hbY.at_.c4 d os
  have C1 := Lib.hid (rg0 (dataBytes_calls x.last) Y)
  have HY := Lib.hid hY
  have HB := Lib.hid hBY
  have hsz := strB_size x.data
  have HL : Hid ((((strB x.data).size : Int) == (dataN x.last : Nat)) = decide (x.data.length = dataN x.last)) := Lib.hid (by
    rw [hsz, Bool.eq_iff_iff, beq_iff_eq, decide_eq_true_iff]; omega)
  clear hY hbY hBY hsz
  unfold enV rightE
  by_cases h1 : 1 ≤ x.seq
  · rw [decide_eq_true h1]
    by_cases h2 : x.seq ≤ 2147483647
    · rw [decide_eq_true h2]
      by_cases h3 : 0 ≤ x.index
      · rw [decide_eq_true h3]
        by_cases h4 : x.index ≤ 255
        · rw [decide_eq_true h4]
          by_cases h5 : 0 ≤ x.no
          · rw [decide_eq_true h5]
            by_cases h6 : x.no ≤ 511
            · rw [decide_eq_true h6]
              go_enter Try.func8, Try.ntmps8
              go_wp2_with fail
              rw [← HY.out]
              refine wp_region_quiet_below (by kernel_rfl) (by kernel_rfl) ?_
              (try simp only [List.append_eq, List.cons_append, List.nil_append])
              repeat (first | go_big_quiet_step (first | (with_reducible exact C1.out _ _)))
              refine wpQuiet_nil ?_
              intro _ hw'
              obtain ⟨⟨dq, osq⟩, hw''⟩ := hw'
              subst hw''
              go_wp2_with fail
              go_ret
              exact ⟨ret_bool (by simpa using HL.out), Below.trans HB.out ((below_regrown Y dq osq).mono HB.out.size)⟩
            · have q := decide_eq_false h6
              rw [q]
              go_enter Try.func8, Try.ntmps8
              go_wp2_with fail
              rw [← HY.out]
              refine wp_region_quiet_below (by kernel_rfl) (by kernel_rfl) ?_
              (try simp only [List.append_eq, List.cons_append, List.nil_append])
              repeat (first | go_big_quiet_step (first | (with_reducible exact C1.out _ _)))
              refine wpQuiet_nil ?_
              intro _ hw'
              obtain ⟨⟨dq, osq⟩, hw''⟩ := hw'
              subst hw''
              go_wp2_with fail
              go_ret
              exact ⟨ret_bool rfl, Below.trans HB.out ((below_regrown Y dq osq).mono HB.out.size)⟩
          · have q := decide_eq_false h5
            rw [q]
            go_enter Try.func8, Try.ntmps8
            go_wp2_with fail
            rw [← HY.out]
            refine wp_region_quiet_below (by kernel_rfl) (by kernel_rfl) ?_
            (try simp only [List.append_eq, List.cons_append, List.nil_append])
            repeat (first | go_big_quiet_step (first | (with_reducible exact C1.out _ _)))
            refine wpQuiet_nil ?_
            intro _ hw'
            obtain ⟨⟨dq, osq⟩, hw''⟩ := hw'
            subst hw''
            go_wp2_with fail
            go_ret
            exact ⟨ret_bool rfl, Below.trans HB.out ((below_regrown Y dq osq).mono HB.out.size)⟩
        · have q := decide_eq_false h4
          rw [q]
          go_enter Try.func8, Try.ntmps8
          go_wp2_with fail
          rw [← HY.out]
          refine wp_region_quiet_below (by kernel_rfl) (by kernel_rfl) ?_
          (try simp only [List.append_eq, List.cons_append, List.nil_append])
          repeat (first | go_big_quiet_step (first | (with_reducible exact C1.out _ _)))
          refine wpQuiet_nil ?_
          intro _ hw'
          obtain ⟨⟨dq, osq⟩, hw''⟩ := hw'
          subst hw''
          go_wp2_with fail
          go_ret
          exact ⟨ret_bool rfl, Below.trans HB.out ((below_regrown Y dq osq).mono HB.out.size)⟩
      · have q := decide_eq_false h3
        rw [q]
        go_enter Try.func8, Try.ntmps8
        go_wp2_with fail
        rw [← HY.out]
        refine wp_region_quiet_below (by kernel_rfl) (by kernel_rfl) ?_
        (try simp only [List.append_eq, List.cons_append, List.nil_append])
        repeat (first | go_big_quiet_step (first | (with_reducible exact C1.out _ _)))
        refine wpQuiet_nil ?_
        intro _ hw'
        obtain ⟨⟨dq, osq⟩, hw''⟩ := hw'
        subst hw''
        go_wp2_with fail
        go_ret
        exact ⟨ret_bool rfl, Below.trans HB.out ((below_regrown Y dq osq).mono HB.out.size)⟩
    · have q := decide_eq_false h2
      rw [q]
      go_enter Try.func8, Try.ntmps8
      go_wp2_with fail
      rw [← HY.out]
      refine wp_region_quiet_below (by kernel_rfl) (by kernel_rfl) ?_
      (try simp only [List.append_eq, List.cons_append, List.nil_append])
      repeat (first | go_big_quiet_step (first | (with_reducible exact C1.out _ _)))
      refine wpQuiet_nil ?_
      intro _ hw'
      obtain ⟨⟨dq, osq⟩, hw''⟩ := hw'
      subst hw''
      go_wp2_with fail
      go_ret
      exact ⟨ret_bool rfl, Below.trans HB.out ((below_regrown Y dq osq).mono HB.out.size)⟩
  · have q := decide_eq_false h1
    rw [q]
    go_enter Try.func8, Try.ntmps8
    go_wp2_with fail
    rw [← HY.out]
    refine wp_region_quiet_below (by kernel_rfl) (by kernel_rfl) ?_
    (try simp only [List.append_eq, List.cons_append, List.nil_append])
    repeat (first | go_big_quiet_step (first | (with_reducible exact C1.out _ _)))
    refine wpQuiet_nil ?_
    intro _ hw'
    obtain ⟨⟨dq, osq⟩, hw''⟩ := hw'
    subst hw''
    go_wp2_with fail
    go_ret
    exact ⟨ret_bool rfl, Below.trans HB.out ((below_regrown Y dq osq).mono HB.out.size)⟩

set_option maxHeartbeats 1000000 in
theorem sector_calls (l : List UInt8) (w : World) (h : l.length ≤ 252) :
    Calls Try.prog 23 #[.string (strB l)] w fun e w' => e = .returned (.string (strB (sectorL l))) ∧ Below w.heap.size w w' := by
  have hs := strB_size l
  have hm : max ((252 : Int) - ((strB l).size : Int)) 0 = ((252 - l.length : Nat) : Int) := by omega
  have hz : ¬ 9223372036854775807 < (strB l).size + (strB (zer (252 - l.length))).size := by rw [strB_size, strB_size, zer_len]; omega
  have hz1 : (0 : Int) ≤ 252 - ((strB l).size : Int) := by omega
  have hz2 : ((strB l).size : Int) ≤ 252 := by omega
  have HS := Lib.hid (Crc.seal_calls (strB (fillL l)))
  have HF : Hid ((strB (fillL l)).size ≤ 9223372036854775000) := Lib.hid (by rw [strB_size, fill_len h]; omega)
  rw [strB_data] at HS
  clear hs
  go_enter Try.func23, Try.ntmps23
  go_wp2_with fail
  (with_reducible refine (noughts_calls (252 - l.length) _ (by omega)).mono ?_)
  rintro e w1 ⟨rfl, hB⟩
  go_wp2_with fail
  rw [strB_append, show l ++ zer (252 - l.length) = fillL l from rfl]
  (with_reducible refine (HS.out _ HF.out).mono ?_)
  rintro e w2 ⟨rfl, hB2⟩
  go_wp2_with fail
  go_ret
  exact ⟨rfl, below_trans' hB hB2⟩

theorem page_is (l : List UInt8) (h : l.length ≤ 208) : (l ++ zer (208 - l.length)).length = 208 := by rw [List.length_append, zer_len]; omega

set_option maxHeartbeats 1000000 in
theorem page_calls (l : List UInt8) (w : World) (h : l.length ≤ 208) :
    Calls Try.prog 18 #[.string (strB l)] w fun e w' => e = .returned (.string (strB (l ++ zer (208 - l.length)))) ∧ Below w.heap.size w w' := by
  have hs := strB_size l
  obtain ⟨k, hk⟩ : ∃ k, k = 208 - l.length := ⟨_, rfl⟩
  rw [← hk]
  have hm : (208 : Int) - ((strB l).size : Int) = (k : Nat) := by omega
  have hm1 : (0 : Int) ≤ 208 - ((strB l).size : Int) := by omega
  have hm2 : ((strB l).size : Int) ≤ 208 := by omega
  have hz : ¬ 9223372036854775807 < (strB l).size + (strB (zer k)).size := by rw [strB_size, strB_size, zer_len]; omega
  have hmk := Wire.make_zeros k (by omega)
  have hc : ∀ W : World, (convert 39 9 (.slice (some ⟨W.heap.size, 0, none⟩) k k)).run Try.prog (W.alloc (.cells (madeCells #[.int .u8 0] k) 5)) = .ok (.string (strB (zer k))) (W.alloc (.cells (madeCells #[.int .u8 0] k) 5)) := Wire.conv_zeros k
  clear hs hk
  go_enter Try.func18, Try.ntmps18
  go_wp2_with fail
  go_ret
  exact ⟨ret_str (strB_append _ _), below_one _ _⟩

set_option maxRecDepth 100000 in
set_option maxHeartbeats 8000000 in
theorem print_calls (x : En) (w : World) (hx : x.data.length ≤ 240) :
    Calls Try.prog 12 #[enV x] w fun e w' => e = .returned (.string (strB (printL x))) ∧ Below w.heap.size w w' := by
  obtain ⟨Y, hY, hbY, hBY⟩ : ∃ Y, Y = w.alloc (.cells (enC x) 23) ∧ EBox Y w.heap.size x ∧ Below w.heap.size w Y := ⟨_, rfl, EBox.new _ _, below_one _ _⟩
  unfold enC at hY
  have k0 := fun d os => cell_regrown hbY.at_.c0 d os
  have k1 := fun d os => cell_regrown hbY.at_.c1 d os
  have k2 := fun d os => cell_regrown hbY.at_.c2 d os
  have k3 := fun d os => cell_regrown hbY.at_.c3 d os
  have k4 := fun d os => cell_regrown hbY.at_.c4 d os
  have e : strB (kindL x.last) ++ strB (fourL x.seq) ++ strB (twoL x.index) ++ strB (twoL x.no) ++ strB x.data = strB (headL x) := by
    simp only [strB_append, headL, restL, List.append_assoc]
  have CS := sector_calls (headL x)
  rw [← e] at CS
  have C1 := Lib.hid (rg0 (kind_calls x.last) Y)
  have C2 := Lib.hid (rg (Wire.four_calls x.seq) Y)
  have C3 := Lib.hid (rg (Wire.two_calls x.index) Y)
  have C4 := Lib.hid (rg (Wire.two_calls x.no) Y)
  have C5 := Lib.hid (rg (fun W => CS W (by rw [headL_len]; omega)) Y)
  have HY := Lib.hid hY
  have HB := Lib.hid hBY
  have g1 : (strB (kindL x.last)).size ≤ 4 := by rw [strB_size, kindL_len]; exact Nat.le_refl _
  have g2 : (strB (fourL x.seq)).size ≤ 4 := by rw [strB_size]; exact Nat.le_refl _
  have g3 : (strB (twoL x.index)).size ≤ 4 := by rw [strB_size, Wire.twoL_len]; omega
  have g4 : (strB (twoL x.no)).size ≤ 4 := by rw [strB_size, Wire.twoL_len]; omega
  have g5 : (strB x.data).size ≤ 240 := by rw [strB_size]; exact hx
  clear hY hbY hBY e CS hx
  unfold enV
  go_enter Try.func12, Try.ntmps12
  go_wp2_with fail
  rw [← HY.out]
  refine wp_region_quiet_below (by kernel_rfl) (by kernel_rfl) ?_
  (try simp only [List.append_eq, List.cons_append, List.nil_append])
  repeat (first | go_big_quiet_step (first | (with_reducible exact C1.out _ _) | (with_reducible exact C2.out _ _) | (with_reducible exact C3.out _ _) | (with_reducible exact C4.out _ _) | (with_reducible exact C5.out _ _)))
  refine wpQuiet_nil ?_
  intro _ hw'
  obtain ⟨⟨dq, osq⟩, hw''⟩ := hw'
  subst hw''
  go_wp2_with fail
  go_ret
  exact ⟨rfl, Below.trans HB.out ((below_regrown Y dq osq).mono HB.out.size)⟩

set_option maxRecDepth 100000 in
set_option maxHeartbeats 8000000 in
theorem leaf_calls (no : Int) (d : List UInt8) (w : World) (hd : d.length ≤ 240) :
    Calls Try.prog 16 #[lfV no d] w fun e w' => e = .returned (.string (strB (leafL no d))) ∧ Below w.heap.size w w' := by
  obtain ⟨Y, hY, hbY, hBY⟩ : ∃ Y, Y = w.alloc (.cells #[.int .i64 no, .string (strB d)] 31) ∧ LBox Y w.heap.size no d ∧ Below w.heap.size w Y := ⟨_, rfl, LBox.new _ _ _, below_one _ _⟩
  have k0 := fun d os => cell_regrown hbY.c0 d os
  have k1 := fun d os => cell_regrown hbY.c1 d os
  have e : (⟨#[76, 69, 65, 70]⟩ : ByteArray) ++ strB (twoL no) ++ strB d = strB (leafK ++ (twoL no ++ d)) := by
    rw [show (⟨#[76, 69, 65, 70]⟩ : ByteArray) = strB leafK from rfl]
    simp only [strB_append, List.append_assoc]
  have CS := sector_calls (leafK ++ (twoL no ++ d))
  rw [← e] at CS
  have C4 := Lib.hid (rg (Wire.two_calls no) Y)
  have C5 := Lib.hid (rg (fun W => CS W (by rw [List.length_append, List.length_append, Wire.twoL_len]; show 4 + _ ≤ _; omega)) Y)
  have HY := Lib.hid hY
  have HB := Lib.hid hBY
  have g4 : (strB (twoL no)).size ≤ 4 := by rw [strB_size, Wire.twoL_len]; omega
  have g5 : (strB d).size ≤ 240 := by rw [strB_size]; exact hd
  clear hY hbY hBY e CS hd
  unfold lfV
  go_enter Try.func16, Try.ntmps16
  go_wp2_with fail
  rw [← HY.out]
  refine wp_region_quiet_below (by kernel_rfl) (by kernel_rfl) ?_
  (try simp only [List.append_eq, List.cons_append, List.nil_append])
  repeat (first | go_big_quiet_step (first | (with_reducible exact C4.out _ _) | (with_reducible exact C5.out _ _)))
  refine wpQuiet_nil ?_
  intro _ hw'
  obtain ⟨⟨dq, osq⟩, hw''⟩ := hw'
  subst hw''
  go_wp2_with fail
  go_ret
  exact ⟨rfl, Below.trans HB.out ((below_regrown Y dq osq).mono HB.out.size)⟩


end Go.Proofs.Ytompckbcaccmiaa
