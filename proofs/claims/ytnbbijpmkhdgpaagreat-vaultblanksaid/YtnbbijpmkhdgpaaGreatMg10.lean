/- Contracts and plain mathematics that the statement's proof wants: no statement is proved here, nothing is assumed. -/
import Derived.Laws.StructEq
import Derived.Test.YtnbbijpmkhdgpaaGreatMg04
import Derived.Test.YtnbbijpmkhdgpaaGreatMg05
import Derived.Test.YtnbbijpmkhdgpaaGreatMg09
/- ERight -/
namespace Go.Proofs.YtnbbijpmkhdgpaaGreat.Ent
open Go.RowKit Go.Sort
open Wire (TK TP But twoL fourL)
open Crc (sealB Only)

set_option maxRecDepth 100000 in
set_option maxHeartbeats 8000000 in
theorem right_calls (x : En) (w : World) :
    Calls Tryz.prog 112 #[enV x] w fun e w' => e = .returned (.bool (rightE x)) ∧ Below w.heap.size w w' := by
  obtain ⟨Y, hY, hbY, hBY⟩ : ∃ Y, Y = w.alloc (.cells (enC x) 55) ∧ EBox Y w.heap.size x ∧ Below w.heap.size w Y := ⟨_, rfl, EBox.new _ _, below_one _ _⟩
  unfold enC at hY
  have k0 := fun d os => cell_regrown hbY.at_.c0 d os
  have k1 := fun d os => cell_regrown hbY.at_.c1 d os
  have k2 := fun d os => cell_regrown hbY.at_.c2 d os
  have k3 := fun d os => cell_regrown hbY.at_.c3 d os
  have k4 := fun d os => cell_regrown hbY.at_.c4 d os
  have C1 := Lib.hid (rg0 (dataBytes_calls x.last) Y)
  have HY := Lib.hid hY
  have HB := Lib.hid hBY
  have hsz := strB_size x.data
  have HL : Hid ((((strB x.data).size : Int) == (dataN x.last : Nat)) = decide (x.data.length = dataN x.last)) := Lib.hid (by
    rw [hsz, Bool.eq_iff_iff, beq_iff_eq, decide_eq_true_iff]; omega)
  clear hY hbY hBY hsz
  unfold enV rightE
  by_cases h1 : 1 ≤ x.seq
  · rw [decide_eq_true h1]
    by_cases h2 : x.seq ≤ 2147483647
    · rw [decide_eq_true h2]
      by_cases h3 : 0 ≤ x.index
      · rw [decide_eq_true h3]
        by_cases h4 : x.index ≤ 255
        · rw [decide_eq_true h4]
          by_cases h5 : 0 ≤ x.no
          · rw [decide_eq_true h5]
            by_cases h6 : x.no ≤ 511
            · rw [decide_eq_true h6]
              go_enter Tryz.func112, Tryz.ntmps112
              go_wp2_with fail
              rw [← HY.out]
              refine wp_region_quiet_below (by kernel_rfl) (by kernel_rfl) ?_
              (try simp only [List.append_eq, List.cons_append, List.nil_append])
              repeat (first | go_big_quiet_step (first | (with_reducible exact C1.out _ _)))
              refine wpQuiet_nil ?_
              intro _ hw'
              obtain ⟨⟨dq, osq⟩, hw''⟩ := hw'
              subst hw''
              go_wp2_with fail
              go_ret
              exact ⟨ret_bool (by simpa using HL.out), Below.trans HB.out ((below_regrown Y dq osq).mono HB.out.size)⟩
            · have q := decide_eq_false h6
              rw [q]
              go_enter Tryz.func112, Tryz.ntmps112
              go_wp2_with fail
              rw [← HY.out]
              refine wp_region_quiet_below (by kernel_rfl) (by kernel_rfl) ?_
              (try simp only [List.append_eq, List.cons_append, List.nil_append])
              repeat (first | go_big_quiet_step (first | (with_reducible exact C1.out _ _)))
              refine wpQuiet_nil ?_
              intro _ hw'
              obtain ⟨⟨dq, osq⟩, hw''⟩ := hw'
              subst hw''
              go_wp2_with fail
              go_ret
              exact ⟨ret_bool rfl, Below.trans HB.out ((below_regrown Y dq osq).mono HB.out.size)⟩
          · have q := decide_eq_false h5
            rw [q]
            go_enter Tryz.func112, Tryz.ntmps112
            go_wp2_with fail
            rw [← HY.out]
            refine wp_region_quiet_below (by kernel_rfl) (by kernel_rfl) ?_
            (try simp only [List.append_eq, List.cons_append, List.nil_append])
            repeat (first | go_big_quiet_step (first | (with_reducible exact C1.out _ _)))
            refine wpQuiet_nil ?_
            intro _ hw'
            obtain ⟨⟨dq, osq⟩, hw''⟩ := hw'
            subst hw''
            go_wp2_with fail
            go_ret
            exact ⟨ret_bool rfl, Below.trans HB.out ((below_regrown Y dq osq).mono HB.out.size)⟩
        · have q := decide_eq_false h4
          rw [q]
          go_enter Tryz.func112, Tryz.ntmps112
          go_wp2_with fail
          rw [← HY.out]
          refine wp_region_quiet_below (by kernel_rfl) (by kernel_rfl) ?_
          (try simp only [List.append_eq, List.cons_append, List.nil_append])
          repeat (first | go_big_quiet_step (first | (with_reducible exact C1.out _ _)))
          refine wpQuiet_nil ?_
          intro _ hw'
          obtain ⟨⟨dq, osq⟩, hw''⟩ := hw'
          subst hw''
          go_wp2_with fail
          go_ret
          exact ⟨ret_bool rfl, Below.trans HB.out ((below_regrown Y dq osq).mono HB.out.size)⟩
      · have q := decide_eq_false h3
        rw [q]
        go_enter Tryz.func112, Tryz.ntmps112
        go_wp2_with fail
        rw [← HY.out]
        refine wp_region_quiet_below (by kernel_rfl) (by kernel_rfl) ?_
        (try simp only [List.append_eq, List.cons_append, List.nil_append])
        repeat (first | go_big_quiet_step (first | (with_reducible exact C1.out _ _)))
        refine wpQuiet_nil ?_
        intro _ hw'
        obtain ⟨⟨dq, osq⟩, hw''⟩ := hw'
        subst hw''
        go_wp2_with fail
        go_ret
        exact ⟨ret_bool rfl, Below.trans HB.out ((below_regrown Y dq osq).mono HB.out.size)⟩
    · have q := decide_eq_false h2
      rw [q]
      go_enter Tryz.func112, Tryz.ntmps112
      go_wp2_with fail
      rw [← HY.out]
      refine wp_region_quiet_below (by kernel_rfl) (by kernel_rfl) ?_
      (try simp only [List.append_eq, List.cons_append, List.nil_append])
      repeat (first | go_big_quiet_step (first | (with_reducible exact C1.out _ _)))
      refine wpQuiet_nil ?_
      intro _ hw'
      obtain ⟨⟨dq, osq⟩, hw''⟩ := hw'
      subst hw''
      go_wp2_with fail
      go_ret
      exact ⟨ret_bool rfl, Below.trans HB.out ((below_regrown Y dq osq).mono HB.out.size)⟩
  · have q := decide_eq_false h1
    rw [q]
    go_enter Tryz.func112, Tryz.ntmps112
    go_wp2_with fail
    rw [← HY.out]
    refine wp_region_quiet_below (by kernel_rfl) (by kernel_rfl) ?_
    (try simp only [List.append_eq, List.cons_append, List.nil_append])
    repeat (first | go_big_quiet_step (first | (with_reducible exact C1.out _ _)))
    refine wpQuiet_nil ?_
    intro _ hw'
    obtain ⟨⟨dq, osq⟩, hw''⟩ := hw'
    subst hw''
    go_wp2_with fail
    go_ret
    exact ⟨ret_bool rfl, Below.trans HB.out ((below_regrown Y dq osq).mono HB.out.size)⟩

set_option maxRecDepth 100000 in
set_option maxHeartbeats 1000000 in
theorem sector_calls (l : List UInt8) (w : World) (h : l.length ≤ 252) :
    Calls Tryz.prog 109 #[.string (strB l)] w fun e w' => e = .returned (.string (strB (sectorL l))) ∧ Below w.heap.size w w' := by
  have hs := strB_size l
  have hm : max ((252 : Int) - ((strB l).size : Int)) 0 = ((252 - l.length : Nat) : Int) := by omega
  have hz : ¬ 9223372036854775807 < (strB l).size + (strB (zer (252 - l.length))).size := by rw [strB_size, strB_size, zer_len]; omega
  have hz1 : (0 : Int) ≤ 252 - ((strB l).size : Int) := by omega
  have hz2 : ((strB l).size : Int) ≤ 252 := by omega
  have HS := Lib.hid (Crc.seal_calls (strB (fillL l)))
  have HF : Hid ((strB (fillL l)).size ≤ 9223372036854775000) := Lib.hid (by rw [strB_size, fill_len h]; omega)
  rw [strB_data] at HS
  clear hs
  go_enter Tryz.func109, Tryz.ntmps109
  go_wp2_with fail
  (with_reducible refine (noughts_calls (252 - l.length) _ (by omega)).mono ?_)
  rintro e w1 ⟨rfl, hB⟩
  go_wp2_with fail
  rw [strB_append, show l ++ zer (252 - l.length) = fillL l from rfl]
  (with_reducible refine (HS.out _ HF.out).mono ?_)
  rintro e w2 ⟨rfl, hB2⟩
  go_wp2_with fail
  go_ret
  exact ⟨rfl, below_trans' hB hB2⟩

theorem page_is (l : List UInt8) (h : l.length ≤ 208) : (l ++ zer (208 - l.length)).length = 208 := by rw [List.length_append, zer_len]; omega

set_option maxRecDepth 100000 in
set_option maxHeartbeats 8000000 in
theorem print_calls (x : En) (w : World) (hx : x.data.length ≤ 240) :
    Calls Tryz.prog 92 #[enV x] w fun e w' => e = .returned (.string (strB (printL x))) ∧ Below w.heap.size w w' := by
  obtain ⟨Y, hY, hbY, hBY⟩ : ∃ Y, Y = w.alloc (.cells (enC x) 55) ∧ EBox Y w.heap.size x ∧ Below w.heap.size w Y := ⟨_, rfl, EBox.new _ _, below_one _ _⟩
  unfold enC at hY
  have k0 := fun d os => cell_regrown hbY.at_.c0 d os
  have k1 := fun d os => cell_regrown hbY.at_.c1 d os
  have k2 := fun d os => cell_regrown hbY.at_.c2 d os
  have k3 := fun d os => cell_regrown hbY.at_.c3 d os
  have k4 := fun d os => cell_regrown hbY.at_.c4 d os
  have e : strB (kindL x.last) ++ strB (fourL x.seq) ++ strB (twoL x.index) ++ strB (twoL x.no) ++ strB x.data = strB (headL x) := by
    simp only [strB_append, headL, restL, List.append_assoc]
  have CS := sector_calls (headL x)
  rw [← e] at CS
  have C1 := Lib.hid (rg0 (kind_calls x.last) Y)
  have C2 := Lib.hid (rg (Wire.four_calls x.seq) Y)
  have C3 := Lib.hid (rg (Wire.two_calls x.index) Y)
  have C4 := Lib.hid (rg (Wire.two_calls x.no) Y)
  have C5 := Lib.hid (rg (fun W => CS W (by rw [headL_len]; omega)) Y)
  have HY := Lib.hid hY
  have HB := Lib.hid hBY
  have g1 : (strB (kindL x.last)).size ≤ 4 := by rw [strB_size, kindL_len]; exact Nat.le_refl _
  have g2 : (strB (fourL x.seq)).size ≤ 4 := by rw [strB_size]; exact Nat.le_refl _
  have g3 : (strB (twoL x.index)).size ≤ 4 := by rw [strB_size, Wire.twoL_len]; omega
  have g4 : (strB (twoL x.no)).size ≤ 4 := by rw [strB_size, Wire.twoL_len]; omega
  have g5 : (strB x.data).size ≤ 240 := by rw [strB_size]; exact hx
  clear hY hbY hBY e CS hx
  unfold enV
  go_enter Tryz.func92, Tryz.ntmps92
  go_wp2_with fail
  rw [← HY.out]
  refine wp_region_quiet_below (by kernel_rfl) (by kernel_rfl) ?_
  (try simp only [List.append_eq, List.cons_append, List.nil_append])
  repeat (first | go_big_quiet_step (first | (with_reducible exact C1.out _ _) | (with_reducible exact C2.out _ _) | (with_reducible exact C3.out _ _) | (with_reducible exact C4.out _ _) | (with_reducible exact C5.out _ _)))
  refine wpQuiet_nil ?_
  intro _ hw'
  obtain ⟨⟨dq, osq⟩, hw''⟩ := hw'
  subst hw''
  go_wp2_with fail
  go_ret
  exact ⟨rfl, Below.trans HB.out ((below_regrown Y dq osq).mono HB.out.size)⟩

set_option maxRecDepth 100000 in
set_option maxHeartbeats 8000000 in
theorem leaf_calls (no : Int) (d : List UInt8) (w : World) (hd : d.length ≤ 240) :
    Calls Tryz.prog 85 #[lfV no d] w fun e w' => e = .returned (.string (strB (leafL no d))) ∧ Below w.heap.size w w' := by
  obtain ⟨Y, hY, hbY, hBY⟩ : ∃ Y, Y = w.alloc (.cells #[.int .i64 no, .string (strB d)] 52) ∧ LBox Y w.heap.size no d ∧ Below w.heap.size w Y := ⟨_, rfl, LBox.new _ _ _, below_one _ _⟩
  have k0 := fun d os => cell_regrown hbY.c0 d os
  have k1 := fun d os => cell_regrown hbY.c1 d os
  have e : (⟨#[76, 69, 65, 70]⟩ : ByteArray) ++ strB (twoL no) ++ strB d = strB (leafK ++ (twoL no ++ d)) := by
    rw [show (⟨#[76, 69, 65, 70]⟩ : ByteArray) = strB leafK from rfl]
    simp only [strB_append, List.append_assoc]
  have CS := sector_calls (leafK ++ (twoL no ++ d))
  rw [← e] at CS
  have C4 := Lib.hid (rg (Wire.two_calls no) Y)
  have C5 := Lib.hid (rg (fun W => CS W (by rw [List.length_append, List.length_append, Wire.twoL_len]; show 4 + _ ≤ _; omega)) Y)
  have HY := Lib.hid hY
  have HB := Lib.hid hBY
  have g4 : (strB (twoL no)).size ≤ 4 := by rw [strB_size, Wire.twoL_len]; omega
  have g5 : (strB d).size ≤ 240 := by rw [strB_size]; exact hd
  clear hY hbY hBY e CS hd
  unfold lfV
  go_enter Tryz.func85, Tryz.ntmps85
  go_wp2_with fail
  rw [← HY.out]
  refine wp_region_quiet_below (by kernel_rfl) (by kernel_rfl) ?_
  (try simp only [List.append_eq, List.cons_append, List.nil_append])
  repeat (first | go_big_quiet_step (first | (with_reducible exact C4.out _ _) | (with_reducible exact C5.out _ _)))
  refine wpQuiet_nil ?_
  intro _ hw'
  obtain ⟨⟨dq, osq⟩, hw''⟩ := hw'
  subst hw''
  go_wp2_with fail
  go_ret
  exact ⟨rfl, Below.trans HB.out ((below_regrown Y dq osq).mono HB.out.size)⟩


end Go.Proofs.YtnbbijpmkhdgpaaGreat.Ent

/- ERef -/
namespace Go.Proofs.YtnbbijpmkhdgpaaGreat.Ent
open Go.RowKit Go.Sort
open Wire (TK TP But twoL fourL)
open Crc (sealB Only)

set_option maxRecDepth 100000 in
set_option maxHeartbeats 8000000 in
theorem rright_calls (x : En) (w : World) :
    Calls Tryz.prog 124 #[enV x] w fun e w' => e = .returned (.bool (rightE x)) ∧ Below w.heap.size w w' := by
  by_cases h0 : x.seq < 1
  · have E : Hid (false = rightE x) := Lib.hid (by
      symm
      rw [Bool.eq_false_iff]
      intro h
      have := right_iff.1 h
      omega)
    unfold enV
    go_enter Tryz.func124, Tryz.ntmps124
    go_wp2_with fail
    go_ret
    exact ⟨ret_bool E.out, below_one _ _⟩
  · have h0' : 1 ≤ x.seq := by omega
    by_cases h1 : 2147483648 ≤ x.seq
    · have E : Hid (false = rightE x) := Lib.hid (by
        symm
        rw [Bool.eq_false_iff]
        intro h
        have := right_iff.1 h
        omega)
      unfold enV
      go_enter Tryz.func124, Tryz.ntmps124
      go_wp2_with fail
      go_ret
      exact ⟨ret_bool E.out, below_one _ _⟩
    · have h1' : x.seq < 2147483648 := by omega
      by_cases h2 : x.index < 0
      · have E : Hid (false = rightE x) := Lib.hid (by
          symm
          rw [Bool.eq_false_iff]
          intro h
          have := right_iff.1 h
          omega)
        unfold enV
        go_enter Tryz.func124, Tryz.ntmps124
        go_wp2_with fail
        go_ret
        exact ⟨ret_bool E.out, below_one _ _⟩
      · have h2' : 0 ≤ x.index := by omega
        by_cases h3 : 256 ≤ x.index
        · have E : Hid (false = rightE x) := Lib.hid (by
            symm
            rw [Bool.eq_false_iff]
            intro h
            have := right_iff.1 h
            omega)
          unfold enV
          go_enter Tryz.func124, Tryz.ntmps124
          go_wp2_with fail
          go_ret
          exact ⟨ret_bool E.out, below_one _ _⟩
        · have h3' : x.index < 256 := by omega
          by_cases h4 : x.no < 0
          · have E : Hid (false = rightE x) := Lib.hid (by
              symm
              rw [Bool.eq_false_iff]
              intro h
              have := right_iff.1 h
              omega)
            unfold enV
            go_enter Tryz.func124, Tryz.ntmps124
            go_wp2_with fail
            go_ret
            exact ⟨ret_bool E.out, below_one _ _⟩
          · have h4' : 0 ≤ x.no := by omega
            by_cases h5 : 512 ≤ x.no
            · have E : Hid (false = rightE x) := Lib.hid (by
                symm
                rw [Bool.eq_false_iff]
                intro h
                have := right_iff.1 h
                omega)
              unfold enV
              go_enter Tryz.func124, Tryz.ntmps124
              go_wp2_with fail
              go_ret
              exact ⟨ret_bool E.out, below_one _ _⟩
            · have h5' : x.no < 512 := by omega
              have hR : rightE x = decide (x.data.length = dataN x.last) := by
                rw [Bool.eq_iff_iff, right_iff, decide_eq_true_iff]
                omega
              have HR := Lib.hid hR
              clear hR
              have e6 := strB_toList x.data
              have hsz := strB_size x.data
              cases hl : x.last with
              | true =>
                rw [hl] at HR
                unfold enV
                rw [hl]
                go_enter Tryz.func124, Tryz.ntmps124
                go_wp2_with fail
                all_goals
                  rename_i hd
                  go_ret
                  refine ⟨ret_bool ?_, below_one _ _⟩
                  rw [HR.out, Bool.eq_iff_iff]
                  simp [dataN, hd]
              | false =>
                rw [hl] at HR
                unfold enV
                rw [hl]
                go_enter Tryz.func124, Tryz.ntmps124
                go_wp2_with fail
                go_ret
                refine ⟨ret_bool ?_, below_one _ _⟩
                rw [HR.out, Bool.eq_iff_iff]
                simp [dataN] <;> omega

set_option maxRecDepth 100000 in
set_option maxHeartbeats 8000000 in
theorem rprint_calls (x : En) (w : World) (hx : x.data.length ≤ 240) :
    Calls Tryz.prog 20 #[enV x] w fun e w' => e = .returned (.string (strB (printL x))) ∧ Below w.heap.size w w' := by
  obtain ⟨Y, hY, hbY, hBY⟩ : ∃ Y, Y = w.alloc (.cells (enC x) 55) ∧ EBox Y w.heap.size x ∧ Below w.heap.size w Y := ⟨_, rfl, EBox.new _ _, below_one _ _⟩
  unfold enC at hY
  have k0 := fun d os => cell_regrown hbY.at_.c0 d os
  have k1 := fun d os => cell_regrown hbY.at_.c1 d os
  have k3 := fun d os => cell_regrown hbY.at_.c3 d os
  have k4 := fun d os => cell_regrown hbY.at_.c4 d os
  have e : strB (kindL x.last) ++ strB (fourL x.seq) ++ strB (twoL x.index) ++ strB (twoL x.no) ++ strB x.data = strB (headL x) := by
    simp only [strB_append, headL, restL, List.append_assoc]
  obtain ⟨T, hT⟩ : ∃ T, T = headL x := ⟨_, rfl⟩
  rw [← hT] at e
  have hTl : T.length ≤ 252 := by rw [hT, headL_len]; omega
  obtain ⟨k, hk⟩ : ∃ k, k = 252 - T.length := ⟨_, rfl⟩
  have hs := strB_size T
  have hm : (252 : Int) - ((strB T).size : Int) = (k : Nat) := by omega
  have hm1 : (0 : Int) ≤ 252 - ((strB T).size : Int) := by omega
  have hm2 : ((strB T).size : Int) ≤ 252 := by omega
  have hm3 : ¬ (252 : Int) < ((strB T).size : Int) := by omega
  have hz : ¬ 9223372036854775807 < (strB T).size + (strB (zer k)).size := by rw [strB_size, strB_size, zer_len]; omega
  have hmk := Wire.make_zeros k (by omega)
  have hc : ∀ W : World, (convert 76 9 (.slice (some ⟨W.heap.size, 0, none⟩) k k)).run Tryz.prog (W.alloc (.cells (madeCells #[.int .u8 0] k) 5)) = .ok (.string (strB (zer k))) (W.alloc (.cells (madeCells #[.int .u8 0] k) 5)) := Wire.conv_zeros k
  have hf : strB T ++ strB (zer k) = strB (fillL (headL x)) := by rw [strB_append, hk, hT]; rfl
  have HS := Lib.hid (Crc.ref_seal (strB T ++ strB (zer k)))
  rw [hf, strB_data, ← hf] at HS
  have HF : Hid ((strB T ++ strB (zer k)).size ≤ 9223372036854775000) := Lib.hid (by rw [hf, strB_size, fill_len (by rw [← hT]; exact hTl)]; omega)
  have C2 := Lib.hid (rg (Wire.rfour_calls x.seq) Y)
  have C3 := Lib.hid (rg (Wire.rtwo_calls x.index) Y)
  have C4 := Lib.hid (rg (Wire.rtwo_calls x.no) Y)
  have HY := Lib.hid hY
  have HB := Lib.hid hBY
  have HE := Lib.hid e
  have g1 : (strB (kindL x.last)).size ≤ 4 := by rw [strB_size, kindL_len]; exact Nat.le_refl _
  have g2 : (strB (fourL x.seq)).size ≤ 4 := by rw [strB_size]; exact Nat.le_refl _
  have g3 : (strB (twoL x.index)).size ≤ 4 := by rw [strB_size, Wire.twoL_len]; omega
  have g4 : (strB (twoL x.no)).size ≤ 4 := by rw [strB_size, Wire.twoL_len]; omega
  have g5 : (strB x.data).size ≤ 240 := by rw [strB_size]; exact hx
  clear hY hBY e hx hs hT hk hf hTl
  rcases Bool.eq_false_or_eq_true x.last with hl | hl
  · rw [hl] at HE g1
    rw [show strB (kindL true) = ⟨#[74, 69, 78, 68]⟩ from rfl] at HE g1
    have k2 := hbY.at_.c2
    rw [hl, HY.out] at k2
    unfold enV
    rw [hl]
    rw [hl] at HY
    rw [hl] at k2
    clear hbY
    go_enter Tryz.func20, Tryz.ntmps20
    go_wp2_with fail
    rw [← HY.out]
    clear k2
    refine wp_region_quiet_below (by kernel_rfl) (by kernel_rfl) ?_
    (try simp only [List.append_eq, List.cons_append, List.nil_append])
    repeat (first | go_big_quiet_step (first | (with_reducible exact C2.out _ _) | (with_reducible exact C3.out _ _) | (with_reducible exact C4.out _ _)))
    refine wpQuiet_nil ?_
    intro _ hw'
    obtain ⟨⟨dq, osq⟩, hw''⟩ := hw'
    subst hw''
    dsimp only
    rw [HE.out]
    have HB2 := Lib.hid (Below.trans HB.out ((below_regrown Y dq osq).mono HB.out.size))
    generalize grow (redrawn Y dq) osq = W1 at *
    clear k0 k1 k3 k4 g1 g2 g3 g4 g5
    go_wp2_with fail
    (with_reducible refine (HS.out _ HF.out).mono ?_)
    rintro e w2 ⟨rfl, hB2⟩
    go_wp2_with fail
    go_ret
    exact ⟨rfl, below_trans' (below_trans' HB2.out (below_one _ _)) hB2⟩
  · rw [hl] at HE g1
    rw [show strB (kindL false) = ⟨#[74, 80, 65, 71]⟩ from rfl] at HE g1
    have k2 := hbY.at_.c2
    rw [hl, HY.out] at k2
    unfold enV
    rw [hl]
    rw [hl] at HY
    rw [hl] at k2
    clear hbY
    go_enter Tryz.func20, Tryz.ntmps20
    go_wp2_with fail
    rw [← HY.out]
    clear k2
    refine wp_region_quiet_below (by kernel_rfl) (by kernel_rfl) ?_
    (try simp only [List.append_eq, List.cons_append, List.nil_append])
    repeat (first | go_big_quiet_step (first | (with_reducible exact C2.out _ _) | (with_reducible exact C3.out _ _) | (with_reducible exact C4.out _ _)))
    refine wpQuiet_nil ?_
    intro _ hw'
    obtain ⟨⟨dq, osq⟩, hw''⟩ := hw'
    subst hw''
    dsimp only
    rw [HE.out]
    have HB2 := Lib.hid (Below.trans HB.out ((below_regrown Y dq osq).mono HB.out.size))
    generalize grow (redrawn Y dq) osq = W1 at *
    clear k0 k1 k3 k4 g1 g2 g3 g4 g5
    go_wp2_with fail
    (with_reducible refine (HS.out _ HF.out).mono ?_)
    rintro e w2 ⟨rfl, hB2⟩
    go_wp2_with fail
    go_ret
    exact ⟨rfl, below_trans' (below_trans' HB2.out (below_one _ _)) hB2⟩

set_option maxRecDepth 100000 in
set_option maxHeartbeats 8000000 in
theorem rleaf_calls (no : Int) (d : List UInt8) (w : World) (hd : d.length ≤ 240) :
    Calls Tryz.prog 19 #[lfV no d] w fun e w' => e = .returned (.string (strB (leafL no d))) ∧ Below w.heap.size w w' := by
  obtain ⟨Y, hY, hbY, hBY⟩ : ∃ Y, Y = w.alloc (.cells #[.int .i64 no, .string (strB d)] 52) ∧ LBox Y w.heap.size no d ∧ Below w.heap.size w Y := ⟨_, rfl, LBox.new _ _ _, below_one _ _⟩
  have k0 := fun d os => cell_regrown hbY.c0 d os
  have k1 := fun d os => cell_regrown hbY.c1 d os
  obtain ⟨T, hT⟩ : ∃ T, T = leafK ++ (twoL no ++ d) := ⟨_, rfl⟩
  have e : (⟨#[76, 69, 65, 70]⟩ : ByteArray) ++ strB (twoL no) ++ strB d = strB T := by
    rw [hT, show (⟨#[76, 69, 65, 70]⟩ : ByteArray) = strB leafK from rfl]
    simp only [strB_append, List.append_assoc]
  have hTl : T.length ≤ 252 := by rw [hT, List.length_append, List.length_append, Wire.twoL_len]; show 4 + _ ≤ _; omega
  obtain ⟨k, hk⟩ : ∃ k, k = 252 - T.length := ⟨_, rfl⟩
  have hs := strB_size T
  have hm : (252 : Int) - ((strB T).size : Int) = (k : Nat) := by omega
  have hm1 : (0 : Int) ≤ 252 - ((strB T).size : Int) := by omega
  have hm2 : ((strB T).size : Int) ≤ 252 := by omega
  have hm3 : ¬ (252 : Int) < ((strB T).size : Int) := by omega
  have hz : ¬ 9223372036854775807 < (strB T).size + (strB (zer k)).size := by rw [strB_size, strB_size, zer_len]; omega
  have hmk := Wire.make_zeros k (by omega)
  have hc : ∀ W : World, (convert 76 9 (.slice (some ⟨W.heap.size, 0, none⟩) k k)).run Tryz.prog (W.alloc (.cells (madeCells #[.int .u8 0] k) 5)) = .ok (.string (strB (zer k))) (W.alloc (.cells (madeCells #[.int .u8 0] k) 5)) := Wire.conv_zeros k
  have hf : strB T ++ strB (zer k) = strB (fillL (leafK ++ (twoL no ++ d))) := by rw [strB_append, hk, hT]; rfl
  have HS := Lib.hid (Crc.ref_seal (strB T ++ strB (zer k)))
  rw [hf, strB_data, ← hf] at HS
  have HF : Hid ((strB T ++ strB (zer k)).size ≤ 9223372036854775000) := Lib.hid (by rw [hf, strB_size, fill_len (by rw [← hT]; exact hTl)]; omega)
  have C4 := Lib.hid (rg (Wire.rtwo_calls no) Y)
  have HY := Lib.hid hY
  have HB := Lib.hid hBY
  have HE := Lib.hid e
  have g4 : (strB (twoL no)).size ≤ 4 := by rw [strB_size, Wire.twoL_len]; omega
  have g5 : (strB d).size ≤ 240 := by rw [strB_size]; exact hd
  clear hY hBY hbY e hd hs hT hk hf hTl
  unfold lfV
  go_enter Tryz.func19, Tryz.ntmps19
  go_wp2_with fail
  rw [← HY.out]
  refine wp_region_quiet_below (by kernel_rfl) (by kernel_rfl) ?_
  (try simp only [List.append_eq, List.cons_append, List.nil_append])
  repeat (first | go_big_quiet_step (first | (with_reducible exact C4.out _ _)))
  refine wpQuiet_nil ?_
  intro _ hw'
  obtain ⟨⟨dq, osq⟩, hw''⟩ := hw'
  subst hw''
  dsimp only
  rw [HE.out]
  have HB2 := Lib.hid (Below.trans HB.out ((below_regrown Y dq osq).mono HB.out.size))
  generalize grow (redrawn Y dq) osq = W1 at *
  clear k0 k1 g4 g5
  go_wp2_with fail
  (with_reducible refine (HS.out _ HF.out).mono ?_)
  rintro e w2 ⟨rfl, hB2⟩
  go_wp2_with fail
  go_ret
  exact ⟨rfl, below_trans' (below_trans' HB2.out (below_one _ _)) hB2⟩

end Go.Proofs.YtnbbijpmkhdgpaaGreat.Ent

/- ERHome -/
namespace Go.Proofs.YtnbbijpmkhdgpaaGreat.Ent
open Go.RowKit Go.Sort
open Wire (TK TP But twoL fourL numS inside good markS)
open Crc (sealB Only)

theorem home_plain {s : List UInt8} {no : Int} (h0 : 0 ≤ no) (h1 : no ≤ 65535) (hz : (s == zer 256) = false) (hl : s.length = 256) (hk : s.take 4 = leafK) :
    homeB s no = (leafL no ((s.drop 6).take 208) == s) ∧ dataH s no = (s.drop 6).take 208 := by
  have hm : markS leafK ⟨s, false⟩ = ⟨s.drop 4, false⟩ := mark_good (by rw [hl]; decide) hk
  have hd : dataH s no = (s.drop 6).take 208 := by
    unfold dataH tapeH
    rw [hm]
    unfold numS
    rw [Wire.good_yes (by rw [List.length_drop, hl]; omega), if_pos rfl, List.drop_drop]
  refine ⟨?_, hd⟩
  unfold homeB
  rw [hz, hd, Bool.false_or]
  cases he : leafL no ((s.drop 6).take 208) == s with
  | false => rw [Bool.and_false]
  | true =>
    rw [beq_iff_eq] at he
    obtain ⟨z, ht⟩ := tape_leaf ((s.drop 6).take 208) h0 h1
    rw [he] at ht
    rw [ht]
    rfl
theorem home_len {s : List UInt8} {no : Int} (h : s.length ≠ 256) : homeB s no = false := by
  cases hb : homeB s no with
  | false => rfl
  | true =>
    rcases home_is hb with e | ⟨_, _, e⟩
    · exact absurd (by rw [e, zer_len]) h
    · exact absurd e h
theorem home_kind {s : List UInt8} {no : Int} (hz : (s == zer 256) = false) (h : s.take 4 ≠ leafK) : homeB s no = false := by
  cases hb : homeB s no with
  | false => rfl
  | true =>
    rcases home_is hb with e | ⟨e, _⟩
    · rw [e, beq_self_eq_true] at hz; cases hz
    · exact absurd e h

theorem zeros_made (n : Nat) (hn : n ≤ 1000) (w : World) : ∃ Y, (Instr.makeSlice 76 (.int .i64 (n : Nat)) (.int .i64 (n : Nat))).run Tryz.prog w = .ok (.slice (some ⟨w.heap.size, 0, none⟩) n n) Y ∧ (convert 76 9 (.slice (some ⟨w.heap.size, 0, none⟩) n n)).run Tryz.prog Y = .ok (.string (strB (zer n))) Y ∧ Below w.heap.size w Y :=
  ⟨_, Wire.make_zeros n (by omega) w, Wire.conv_zeros n w, below_one _ _⟩
theorem zeros256 (w : World) : ∃ Y, (Instr.makeSlice 76 (.int .i64 256) (.int .i64 256)).run Tryz.prog w = .ok (.slice (some ⟨w.heap.size, 0, none⟩) 256 256) Y ∧ (convert 76 9 (.slice (some ⟨w.heap.size, 0, none⟩) 256 256)).run Tryz.prog Y = .ok (.string (strB (zer 256))) Y ∧ Below w.heap.size w Y := zeros_made 256 (by omega) w
theorem zeros208 (w : World) : ∃ Y, (Instr.makeSlice 76 (.int .i64 208) (.int .i64 208)).run Tryz.prog w = .ok (.slice (some ⟨w.heap.size, 0, none⟩) 208 208) Y ∧ (convert 76 9 (.slice (some ⟨w.heap.size, 0, none⟩) 208 208)).run Tryz.prog Y = .ok (.string (strB (zer 208))) Y ∧ Below w.heap.size w Y := zeros_made 208 (by omega) w

theorem cut6 (s : List UInt8) (h : s.length = 256) (w : World) :
    Sem.run Tryz.prog (Instr.slice 9 (.string (strB s)) (some (.int .i64 6)) (some (.int .i64 214)) none) w = .ok (.string (strB ((s.drop 6).take 208))) w := by
  have h2 : (214 : Int) ≤ ((strB s).size : Int) := by rw [strB_size]; omega
  have := run_slice_string (P := Tryz.prog) w 9 (strB s) .i64 .i64 6 214 Tryz.underlying9 (by omega) (by omega) h2
  rw [this]
  have e : (strB s).extract 6 214 = strB ((s.drop 6).take 208) := by rw [strB_extract, List.drop_take]
  exact congrArg (fun b => Result.ok (Value.string b) w) e
theorem cut4 (s : List UInt8) (h : s.length = 256) (w : World) :
    Sem.run Tryz.prog (Instr.slice 9 (.string (strB s)) none (some (.int .i64 4)) none) w = .ok (.string (strB (s.take 4))) w := by
  have h2 : (4 : Int) ≤ ((strB s).size : Int) := by rw [strB_size]; omega
  have h3 : 4 ≤ (strB s).size := by rw [strB_size]; omega
  have e : (strB s).extract 0 4 = strB (s.take 4) := by rw [strB_extract, List.drop_zero]
  simp [go_sem, h2, h3, e]

theorem eqz_spell (a b : List UInt8) : ((strB a).toList == (strB b).toList) = (a == b) := by rw [strB_toList, strB_toList]

set_option maxRecDepth 100000 in
set_option maxHeartbeats 8000000 in
theorem rhome_calls (s : List UInt8) (no : Int) (w : World) (h0 : 0 ≤ no) (h1 : no ≤ 511) :
    Calls Tryz.prog 70 #[.string (strB s), .int .i64 no] w fun e w' => ∃ v, e = .returned (.tuple #[.string (strB v), .bool (homeB s no)]) ∧ (homeB s no = true → v = homeV s no) ∧ Below w.heap.size w w' := by
  obtain ⟨Z2, hZ2⟩ : ∃ Z, Z = zer 256 := ⟨_, rfl⟩
  obtain ⟨Z, hZ⟩ : ∃ Z, Z = zer 208 := ⟨_, rfl⟩
  have M2 := Lib.hid zeros256
  have M1 := Lib.hid zeros208
  rw [← hZ2] at M2
  rw [← hZ] at M1
  obtain ⟨Y1, m1, m2, m3⟩ := M2.out w
  obtain ⟨Y2, n1, n2, n3⟩ := M1.out Y1
  have HE := eqz_spell s Z2
  rw [hZ2] at HE
  rw [← hZ2] at HE
  have HB1 := Lib.hid m3
  have HB2 := Lib.hid (below_trans' m3 n3)
  have hs := strB_size s
  clear m3 n3 M1 M2
  cases hz : s == zer 256 with
  | true =>
    rw [hZ2, hz, ← hZ2] at HE
    have e1 : homeB s no = true := by unfold homeB; rw [hz]; rfl
    have e2 : Z = homeV s no := by unfold homeV; rw [hz, hZ]; rfl
    rw [e1]
    have E2 := Lib.hid e2
    clear e1 e2 hz hs hZ hZ2
    go_enter Tryz.func70, Tryz.ntmps70
    go_wp2_with fail
    go_ret2
    exact ⟨_, rfl, fun _ => E2.out, HB2.out⟩
  | false =>
    rw [hZ2, hz, ← hZ2] at HE
    by_cases hl : s.length = 256
    · have h256 : (strB s).size = 256 := by omega
      have hc4 := cut4 s hl
      have hc6 := cut6 s hl
      by_cases hk : s.take 4 = leafK
      · rw [hk] at hc4
        rw [show strB leafK = ⟨#[76, 69, 65, 70]⟩ from rfl] at hc4
        obtain ⟨e1, e2⟩ := home_plain h0 (show no ≤ 65535 by omega) hz hl hk
        obtain ⟨D, hD⟩ : ∃ D, D = (s.drop 6).take 208 := ⟨_, rfl⟩
        have hv : homeB s no = true → D = homeV s no := fun hb => by
          unfold homeB at hb
          rw [hz, Bool.false_or] at hb
          unfold homeV
          rw [hz, hb, e2, hD]
          rfl
        rw [← hD] at hc6 e1
        rw [e1] at hv ⊢
        have HV := Lib.hid hv
        have HL := Lib.hid (fun W => rleaf_calls no D W (by rw [hD, List.length_take]; omega))
        unfold lfV at HL
        have he := eqz_spell (leafL no D) s
        clear hv e1 e2 hD hk hz hl hs hZ hZ2 n1 n2 HB2 h0 h1
        go_enter Tryz.func70, Tryz.ntmps70
        go_wp2_with fail
        (with_reducible refine (HL.out _).mono ?_)
        rintro e w2 ⟨rfl, hB2⟩
        go_wp2_with fail
        go_ret2
        exact ⟨_, rfl, HV.out, below_trans' HB1.out hB2⟩
      · have hne : (s.take 4 == [76, 69, 65, 70]) = false := by rw [beq_eq_false_iff_ne]; exact hk
        have e1 := home_kind (no := no) hz hk
        obtain ⟨K, hK⟩ : ∃ K, K = s.take 4 := ⟨_, rfl⟩
        rw [← hK] at hc4 hne
        have ht := strB_toList K
        have hne' : ¬ K = [76, 69, 65, 70] := by rw [hK]; exact hk
        rw [e1]
        clear e1 hK hk hz hl hs hZ hZ2 n1 n2 HB2 h0 h1 hc6
        go_enter Tryz.func70, Tryz.ntmps70
        go_wp2_with fail
        go_ret2
        exact ⟨[], rfl, (fun h => by cases h), HB1.out⟩
    · have h256 : ((strB s).size == 256) = false := by rw [beq_eq_false_iff_ne, hs]; exact hl
      have h257 : (((strB s).size : Int) == 256) = false := by rw [beq_eq_false_iff_ne, hs]; omega
      have h258 : ¬ (strB s).size = 256 := by rw [hs]; exact hl
      rw [home_len hl]
      clear hz hl hs hZ hZ2 n1 n2 HB2 h0 h1
      go_enter Tryz.func70, Tryz.ntmps70
      go_wp2_with fail
      go_ret2
      exact ⟨[], rfl, (fun h => by cases h), HB1.out⟩

end Go.Proofs.YtnbbijpmkhdgpaaGreat.Ent

/- ASame -/
namespace Go.Proofs.YtnbbijpmkhdgpaaGreat
open Go.RowKit

theorem Sh.dec (x y : Sh) : decide (x = y) = (x.pages == y.pages && x.journal == y.journal) := by
  rw [Bool.eq_iff_iff]
  simp [Sh.eq_iff]

theorem equal23 (x y : Sh) (w : World) : (Op.equalIn 10000 30 (shV x) (shV y)).run Tryz.prog w = .ok (decide (x = y)) w := by
  unfold shV
  rw [Sh.dec]
  cases h1 : (x.pages == y.pages) with
  | false => go_simp
  | true =>
    cases h2 : (x.journal == y.journal) with
    | false => go_simp
    | true => go_simp

theorem eql23 (x y : Sh) (w : World) : (binOp .eql 30 (shV x) (shV y)).run Tryz.prog w = .ok (.bool (decide (x = y))) w := by
  have h := equal23 x y w
  unfold shV at h ⊢
  rw [run_eql_struct, h]
  rfl
theorem neq23 (x y : Sh) (w : World) : (binOp .neq 30 (shV x) (shV y)).run Tryz.prog w = .ok (.bool (!decide (x = y))) w := by
  have h := equal23 x y w
  unfold shV at h ⊢
  rw [run_neq_struct, h]
  rfl

end Go.Proofs.YtnbbijpmkhdgpaaGreat

/- VMem -/
namespace Go.Proofs.YtnbbijpmkhdgpaaGreat.Vlt
open Go.RowKit
open Dsk

/-- Pages' cells. -/
def lfCells (l : List Lf) : List Value := l.flatMap fun p => [.int .i64 p.no, .string (strB p.data)]
theorem lfCells_append (a b : List Lf) : lfCells (a ++ b) = lfCells a ++ lfCells b := by simp [lfCells]
theorem lfCells_one (o : Lf) : lfCells [o] = [.int .i64 o.no, .string (strB o.data)] := by simp [lfCells]
theorem lfCells_length (l : List Lf) : (lfCells l).length = l.length * 2 := by
  induction l with
  | nil => rfl
  | cons a l ih => simp [lfCells] at ih ⊢; omega
theorem lfCells_at (l : List Lf) : ∀ (k : Nat) (o : Lf), l[k]? = some o → (lfCells l)[k * 2]? = some (.int .i64 o.no) ∧ (lfCells l)[k * 2 + 1]? = some (.string (strB o.data)) := by
  induction l with
  | nil => intro k o h; cases h
  | cons a l ih =>
    intro k o h
    have e : lfCells (a :: l) = .int .i64 a.no :: .string (strB a.data) :: lfCells l := by simp [lfCells]
    rw [e]
    cases k with
    | zero => simp at h; subst h; exact ⟨rfl, rfl⟩
    | succ k =>
      have := ih k o (by simpa using h)
      rw [show (k + 1) * 2 = k * 2 + 2 by omega]
      exact this

/-- A slice reads as these pages. -/
def IsLfs (w : World) (v : Value) (l : List Lf) : Prop := SL w 52 2 v l.length (lfCells l)
theorem IsLfs.below {w w' : World} {v : Value} {l : List Lf} (h : IsLfs w v l) (hb : Below w.heap.size w w') : IsLfs w' v l := SL.below h hb
theorem IsLfs.nil (w : World) : IsLfs w (.slice none 0 0) [] := SL.nil w 52 2
theorem IsLfs.open_ {w : World} {v : Value} {l : List Lf} (h : IsLfs w v l) : ∃ A n c, v = .slice A n c ∧ n = l.length ∧ n ≤ c ∧ Reads w 52 2 A n (lfCells l) := by
  obtain ⟨A, c, rfl, hc, hr⟩ := h
  exact ⟨A, _, c, rfl, rfl, hc, hr⟩
/-- A page of it, in any world behind. -/
theorem lf_at {w w' : World} {A : Option Addr} {n : Nat} {l : List Lf} (h : Reads w 52 2 A n (lfCells l)) (hb : Below w.heap.size w w') {k : Nat} {o : Lf} (ho : l[k]? = some o) (hn : 0 < n) :
    ∃ b off, A = some ⟨b, off, none⟩ ∧ w'.cell? ⟨b, off + k * 2, none⟩ = some (.int .i64 o.no) ∧ w'.cell? ⟨b, off + k * 2 + 1, none⟩ = some (.string (strB o.data)) := by
  obtain ⟨b, off, e, hbl, hc⟩ := h.at_ hn
  obtain ⟨h0, h1⟩ := lfCells_at l k o ho
  exact ⟨b, off, e, (hb.cell (p := ⟨b, off + k * 2, none⟩) hbl).trans (hc _ _ h0), (hb.cell (p := ⟨b, off + k * 2 + 1, none⟩) hbl).trans (hc _ _ h1)⟩

/-- The value v is a vault that reads as k. -/
def IsVault (w : World) (v : Value) (k : VK) : Prop :=
  ∃ vs vw vd, v = .agg #[vs, vw, .bool k.disk.dead, .int .i64 k.disk.left, .int .i64 k.shape.pages, .int .i64 k.shape.journal, .int .i64 k.seq, vd] ∧
    IsDisk w (.agg #[vs, vw, .bool k.disk.dead, .int .i64 k.disk.left]) k.disk ∧ IsLfs w vd k.dirty
theorem IsVault.below {w w' : World} {v : Value} {k : VK} (h : IsVault w v k) (hb : Below w.heap.size w w') : IsVault w' v k := by
  obtain ⟨vs, vw, vd, e, h1, h2⟩ := h
  exact ⟨vs, vw, vd, e, h1.below hb, h2.below hb⟩
/-- A disk's value, by its parts. -/
theorem disk_parts {w : World} {v : Value} {d : DK} (h : IsDisk w v d) : ∃ vs vw, v = .agg #[vs, vw, .bool d.dead, .int .i64 d.left] := by
  obtain ⟨vs, vw, e, _⟩ := h
  exact ⟨vs, vw, e⟩

/-- Equality of pages. -/
theorem Lf.dec (x y : Lf) : decide (x = y) = (x.no == y.no && x.data == y.data) := by
  rw [Bool.eq_iff_iff]
  simp [Lf.eq_iff]
def lfVal (x : Lf) : Value := .agg #[.int .i64 x.no, .string (strB x.data)]
theorem equalLf (x y : Lf) (w : World) : (Op.equalIn 10000 52 (lfVal x) (lfVal y)).run Tryz.prog w = .ok (decide (x = y)) w := by
  have k1 := strB_toList x.data
  have k2 := strB_toList y.data
  unfold lfVal
  rw [Lf.dec]
  cases h1 : (x.no == y.no) with
  | false => go_simp
  | true =>
    cases h2 : (x.data == y.data) with
    | false => go_simp
    | true => go_simp
theorem neqLf (x y : Lf) (w : World) : (binOp .neq 52 (lfVal x) (lfVal y)).run Tryz.prog w = .ok (.bool (!decide (x = y))) w := by
  have h := equalLf x y w
  unfold lfVal at h ⊢
  rw [run_neq_struct, h]
  rfl

/-- Boxes of a vault. -/
def VBox (w : World) (g : Nat) (vs vw vd : Value) (k : VK) : Prop :=
  w.heap[g]? = some (.cells #[vs, vw, .bool k.disk.dead, .int .i64 k.disk.left, .int .i64 k.shape.pages, .int .i64 k.shape.journal, .int .i64 k.seq, vd] 33 (0, 0))
structure At8 (w : World) (b : Nat) (vs vw vd : Value) (k : VK) : Prop where
  c0 : w.cell? ⟨b, 0, none⟩ = some vs
  c1 : w.cell? ⟨b, 1, none⟩ = some vw
  c2 : w.cell? ⟨b, 2, none⟩ = some (.bool k.disk.dead)
  c3 : w.cell? ⟨b, 3, none⟩ = some (.int .i64 k.disk.left)
  c4 : w.cell? ⟨b, 4, none⟩ = some (.int .i64 k.shape.pages)
  c5 : w.cell? ⟨b, 5, none⟩ = some (.int .i64 k.shape.journal)
  c6 : w.cell? ⟨b, 6, none⟩ = some (.int .i64 k.seq)
  c7 : w.cell? ⟨b, 7, none⟩ = some vd
section
variable {w w' : World} {g : Nat} {vs vw vd : Value} {k : VK}
theorem VBox.at_ (h : VBox w g vs vw vd k) : At8 w g vs vw vd k := by
  refine ⟨?_, ?_, ?_, ?_, ?_, ?_, ?_, ?_⟩ <;> (rw [cell_of_row w g _ _ _ _ h]; rfl)
theorem VBox.lt (h : VBox w g vs vw vd k) : g < w.heap.size := (Array.getElem?_eq_some_iff.1 h).1
theorem VBox.keep (h : VBox w g vs vw vd k) (e : w'.heap[g]? = w.heap[g]?) : VBox w' g vs vw vd k := e.trans h
theorem VBox.below (h : VBox w g vs vw vd k) (hb : Below w.heap.size w w') : VBox w' g vs vw vd k := (hb.block g h.lt).trans h
theorem VBox.new (w : World) (vs vw vd : Value) (k : VK) : VBox (w.alloc (.cells #[vs, vw, .bool k.disk.dead, .int .i64 k.disk.left, .int .i64 k.shape.pages, .int .i64 k.shape.journal, .int .i64 k.seq, vd] 33)) w.heap.size vs vw vd k := heap_alloc_new w _
theorem VBox.free (h : VBox w g vs vw vd k) (i : Nat) : w.frozen? ⟨g, i, none⟩ = false := by unfold VBox at h; simp [World.frozen?, h]
end

set_option maxRecDepth 100000 in
set_option maxHeartbeats 4000000 in
/-- The law's page. -/
theorem page_calls (s : List UInt8) (w : World) (hs : s.length ≤ 208) :
    Calls Tryz.prog 16 #[.string (strB s)] w fun e w' => e = .returned (.string (strB (padP s))) ∧ Below w.heap.size w w' := by
  obtain ⟨k, hk⟩ : ∃ k, k = 208 - s.length := ⟨_, rfl⟩
  have hsz := strB_size s
  have hm : (208 : Int) - ((strB s).size : Int) = (k : Nat) := by omega
  have hm1 : (0 : Int) ≤ 208 - ((strB s).size : Int) := by omega
  have hm2 : ((strB s).size : Int) ≤ 208 := by omega
  have hm3 : ¬ (208 : Int) < ((strB s).size : Int) := by omega
  have hz0 : (strB s).size + (strB (Ent.zer k)).size ≤ 5000 := by rw [strB_size, strB_size, Ent.zer_len]; omega
  have hz : ¬ 9223372036854775807 < (strB s).size + (strB (Ent.zer k)).size := fun h => absurd (Nat.lt_of_lt_of_le h hz0) (by decide)
  have hmk := Wire.make_zeros k (by omega)
  have hc : ∀ W : World, (convert 76 9 (.slice (some ⟨W.heap.size, 0, none⟩) k k)).run Tryz.prog (W.alloc (.cells (madeCells #[.int .u8 0] k) 5)) = .ok (.string (strB (Ent.zer k))) (W.alloc (.cells (madeCells #[.int .u8 0] k) 5)) := Wire.conv_zeros k
  have hf := Lib.hid (show strB s ++ strB (Ent.zer k) = strB (padP s) by unfold padP; rw [strB_append, hk])
  clear hk hs hsz hz0
  go_enter Tryz.func16, Tryz.ntmps16
  go_wp2_with fail
  go_ret
  exact ⟨ret_str hf.out, below_one _ _⟩

set_option maxRecDepth 100000 in
set_option maxHeartbeats 4000000 in
theorem sameLeaves_calls (v u : Value) (l : List Lf) (w : World) (hv : IsLfs w v l) (hu : IsLfs w u l) (hl : l.length ≤ 1000000) :
    Calls Tryz.prog 36 #[v, u] w fun e w' => e = .returned (.bool true) ∧ Below w.heap.size w w' := by
  obtain ⟨A, n, c, rfl, hn, _, hr⟩ := hv.open_
  obtain ⟨B, m, e, rfl, hm, _, hq⟩ := hu.open_
  obtain rfl : m = n := by omega
  have hmm : m ≤ 1000000 := by omega
  have HN := Lib.hid hn
  have HR := Lib.hid hr
  have HQ := Lib.hid hq
  clear hn hm hr hq hv hu
  go_enter Tryz.func36, Tryz.ntmps36
  go_wp2_with fail
  go_loopw [5] (fun u wr => ∃ i : Nat, i ≤ m ∧ u = .int .i64 i ∧ Below w.heap.size w wr) (fun u _ => m - (intOf u).toNat)
  case atStart => exact ⟨0, Nat.zero_le _, rfl, Below.refl _ _⟩
  case round =>
    obtain ⟨i, hi, rfl, hbr⟩ := hrel
    have HBR := Lib.hid hbr
    clear hbr
    by_cases hlt : i < m
    · obtain ⟨o, ho⟩ : ∃ o, l[i]? = some o := ⟨_, List.getElem?_eq_getElem (by have := HN.out; omega)⟩
      obtain ⟨b, off, rfl, x0, x1⟩ := lf_at HR.out HBR.out ho (by omega)
      obtain ⟨b', off', rfl, y0, y1⟩ := lf_at HQ.out HBR.out ho (by omega)
      have hi1 : (0 : Int) ≤ (i : Int) := by omega
      have hi2 : (i : Int) < (m : Int) := by omega
      have hne := neqLf o o
      rw [decide_eq_true rfl] at hne
      unfold lfVal at hne
      clear ho
      go_wp2_with fail
      go_quiet (fail)
      go_wp2_with fail
      exact ⟨⟨i + 1, by omega, by go_num, HBR.out.trans ⟨rfl, rfl, rfl, Nat.le_refl _, fun _ _ => rfl⟩⟩, by simp [intOf]; omega⟩
    · have hnl : decide ((i : Int) < (m : Int)) = false := by simp; omega
      go_wp2_with fail
      go_ret
      exact ⟨rfl, HBR.out⟩

set_option maxRecDepth 100000 in
set_option maxHeartbeats 4000000 in
theorem same_calls (v u : Value) (k : VK) (w : World) (hv : IsVault w v k) (hu : IsVault w u k) (hs : k.disk.sure.length ≤ 1000000) (hw : k.disk.wet.length ≤ 1000000) (hl : k.dirty.length ≤ 1000000) :
    Calls Tryz.prog 13 #[v, u] w fun e w' => e = .returned (.bool true) ∧ Below w.heap.size w w' := by
  obtain ⟨vs, vw, vd, rfl, h1, h2⟩ := hv
  obtain ⟨us, uw, ud, rfl, h3, h4⟩ := hu
  obtain ⟨Y, hY, b1, b2, hB⟩ : ∃ Y, Y = (w.alloc (.cells #[vs, vw, .bool k.disk.dead, .int .i64 k.disk.left, .int .i64 k.shape.pages, .int .i64 k.shape.journal, .int .i64 k.seq, vd] 33)).alloc (.cells #[us, uw, .bool k.disk.dead, .int .i64 k.disk.left, .int .i64 k.shape.pages, .int .i64 k.shape.journal, .int .i64 k.seq, ud] 33) ∧ VBox Y w.heap.size vs vw vd k ∧ VBox Y (w.heap.size + 1) us uw ud k ∧ Below w.heap.size w Y := by
    refine ⟨_, rfl, (VBox.new w vs vw vd k).below (below_one _ _), ?_, Dsk.below_trans' (below_one _ _) (below_one _ _)⟩
    have := VBox.new (w.alloc (.cells #[vs, vw, .bool k.disk.dead, .int .i64 k.disk.left, .int .i64 k.shape.pages, .int .i64 k.shape.journal, .int .i64 k.seq, vd] 33)) us uw ud k
    simpa using this
  have HY := Lib.hid hY
  have B1 := Lib.hid b1
  have B2 := Lib.hid b2
  have HB := Lib.hid hB
  have CS := Lib.hid (Dsk.rsame_calls _ _ k.disk Y (h1.below hB) (h3.below hB) hs hw)
  have CL := Lib.hid (fun W (hb : Below Y.heap.size Y W) => sameLeaves_calls vd ud k.dirty W ((h2.below hB).below hb) ((h4.below hB).below hb) hl)
  have hq := eql23 k.shape k.shape
  rw [decide_eq_true rfl] at hq
  unfold shV at hq
  obtain ⟨i0, i1, i2, i3, i4, i5, i6, i7⟩ := b1.at_
  obtain ⟨j0, j1, j2, j3, j4, j5, j6, j7⟩ := b2.at_
  clear hY b1 b2 hB h1 h2 h3 h4 hs hw hl
  go_enter Tryz.func13, Tryz.ntmps13
  go_wp2_with fail
  rw [← HY.out]
  go_wp2_with fail
  (with_reducible refine CS.out.mono ?_)
  rintro e w1 ⟨rfl, hB1⟩
  have HB1 := Lib.hid hB1
  clear i0 i1 i2 i3 i4 i5 i6 i7 j0 j1 j2 j3 j4 j5 j6 j7 hB1
  obtain ⟨i0, i1, i2, i3, i4, i5, i6, i7⟩ := (B1.out.below HB1.out).at_
  obtain ⟨j0, j1, j2, j3, j4, j5, j6, j7⟩ := (B2.out.below HB1.out).at_
  go_wp2_with fail
  (with_reducible refine (CL.out _ HB1.out).mono ?_)
  rintro e w2 ⟨rfl, hB2⟩
  go_wp2_with fail
  go_ret
  exact ⟨rfl, Dsk.below_trans' (Dsk.below_trans' HB.out HB1.out) hB2⟩

end Go.Proofs.YtnbbijpmkhdgpaaGreat.Vlt

/- VRRead -/
namespace Go.Proofs.YtnbbijpmkhdgpaaGreat.Vlt
open Go.RowKit Go.Sort
open Dsk
open Ent (homeB homeV)

/-- A vault that the calls are asked of. -/
structure VGood (k : VK) : Prop where
  pl : ∃ n i, Pl n i k.disk ∧ n ≤ 2000 ∧ i ≤ 2000
  pages : k.shape.pages ≤ 512
  dirty : k.dirty.length ≤ 1000
theorem VGood.ok {k : VK} (h : VGood k) : k.disk.ok ∧ Rising k.disk.wet ∧ WetIn k.disk := by
  obtain ⟨n, i, hp, h1, h2⟩ := h.pl
  exact ⟨hp.ok h1 h2, hp.rise, hp.inn⟩

theorem find_hitL {l : List Lf} {no : Int} {i : Nat} {o : Lf} (h : ∀ q x, q < i → l[q]? = some x → x.no ≠ no) (ho : l[i]? = some o) (hn : o.no = no) : findL l no = some o := by
  unfold findL
  induction l generalizing i with
  | nil => cases ho
  | cons y l ih =>
    cases i with
    | zero =>
      simp at ho
      subst ho
      rw [List.find?_cons_of_pos (by simpa using hn)]
    | succ i =>
      have h0 := h 0 y (by omega) rfl
      rw [List.find?_cons_of_neg (by simpa using h0)]
      exact ih (i := i) (fun q x hq hx => h (q + 1) x (by omega) (by simpa using hx)) (by simpa using ho)
theorem find_missL {l : List Lf} {no : Int} (h : ∀ (q : Nat) x, l[q]? = some x → x.no ≠ no) : findL l no = none := by
  unfold findL
  rw [List.find?_eq_none]
  intro x hx
  obtain ⟨q, hq, e⟩ := List.getElem_of_mem hx
  simpa using h q x (by rw [List.getElem?_eq_getElem hq, e])

theorem read_end {k : VK} {no : Int} {a : List UInt8} {b : Int} (h : readV k no = (a, b)) : Ending.returned (.tuple #[.string (strB a), .int .i64 b]) = .returned (.tuple #[.string (strB (readV k no).1), .int .i64 (readV k no).2]) := by rw [h]

set_option maxRecDepth 100000 in
set_option maxHeartbeats 16000000 in
theorem rread_calls (v : Value) (k : VK) (no : Int) (w : World) (hv : IsVault w v k) (hg : VGood k) :
    Calls Tryz.prog 39 #[v, .int .i64 no] w fun e w' => e = .returned (.tuple #[.string (strB (readV k no).1), .int .i64 (readV k no).2]) ∧ Below w.heap.size w w' := by
  obtain ⟨vs, vw, vd, rfl, h1, h2⟩ := hv
  obtain ⟨A, n, c, rfl, hn, _, hr⟩ := h2.open_
  obtain ⟨hok, hri, hin⟩ := hg.ok
  have hdl := hg.dirty
  have hpg := hg.pages
  obtain ⟨Y, hY, b1, hB⟩ : ∃ Y, Y = w.alloc (.cells #[vs, vw, .bool k.disk.dead, .int .i64 k.disk.left, .int .i64 k.shape.pages, .int .i64 k.shape.journal, .int .i64 k.seq, .slice A n c] 33) ∧ VBox Y w.heap.size vs vw (.slice A n c) k ∧ Below w.heap.size w Y := ⟨_, rfl, VBox.new _ _ _ _ _, below_one _ _⟩
  have HY := Lib.hid hY
  have B1 := Lib.hid b1
  have HB := Lib.hid hB
  obtain ⟨i0, i1, i2, i3, i4, i5, i6, i7⟩ := b1.at_
  rw [hY] at i0 i1 i2 i3 i4 i5 i6 i7
  have H1 := Lib.hid h1
  have HOK := Lib.hid (And.intro hok hri)
  have HR := Lib.hid hr
  have HN := Lib.hid hn
  clear hY b1 hB h1 h2 hok hri hin hr hn
  by_cases hlo : no < 0
  · have E : Hid (readV k no = ([], 1)) := Lib.hid (by unfold readV; rw [if_pos (by intro h; have := h.1; omega)])
    go_enter Tryz.func39, Tryz.ntmps39
    go_wp2_with fail
    exact bodyPost_ret (v := .tuple #[.string ⟨#[]⟩, .int .i64 1]) (by simp [results, Tryz.results39, go_sem]) rfl ⟨read_end E.out, below_one _ _⟩
  by_cases hhi : k.shape.pages ≤ no
  · have E : Hid (readV k no = ([], 1)) := Lib.hid (by unfold readV; rw [if_pos (by intro h; have := h.2; omega)])
    go_enter Tryz.func39, Tryz.ntmps39
    go_wp2_with fail
    exact bodyPost_ret (v := .tuple #[.string ⟨#[]⟩, .int .i64 1]) (by simp [results, Tryz.results39, go_sem]) rfl ⟨read_end E.out, below_one _ _⟩
  have hlo' : 0 ≤ no := by omega
  have hhi' : no < k.shape.pages := by omega
  have hH : hasP k no := ⟨hlo', hhi'⟩
  rcases Bool.eq_false_or_eq_true k.disk.dead with hd | hd
  · have E : Hid (readV k no = ([], 12)) := Lib.hid (by unfold readV; rw [if_neg (by simp [hH]), if_pos hd])
    rw [hd] at i2 ⊢
    clear hH
    go_enter Tryz.func39, Tryz.ntmps39
    go_wp2_with fail
    exact bodyPost_ret (v := .tuple #[.string ⟨#[]⟩, .int .i64 12]) (by simp [results, Tryz.results39, go_sem]) rfl ⟨read_end E.out, below_one _ _⟩
  have HHit : Hid (∀ o, findL k.dirty no = some o → readV k no = (o.data, 0)) := Lib.hid (fun o ho => by unfold readV; rw [if_neg (by simp [hH]), if_neg (by simp [hd]), ho])
  have HMiss : Hid (findL k.dirty no = none → readV k no = if rdE k.disk (placeN k.shape no) ≠ 0 then ([], rdE k.disk (placeN k.shape no)) else
      if homeB (rdS k.disk (placeN k.shape no)).data.toList no = true then (homeV (rdS k.disk (placeN k.shape no)).data.toList no, 0) else ([], 2)) := Lib.hid (fun ho => by unfold readV; rw [if_neg (by simp [hH]), if_neg (by simp [hd]), ho])
  have HD := Lib.hid hd
  rw [hd] at i2
  clear hH hd hg
  have hpage : no ≤ 511 := by omega
  rw [HD.out]
  rw [HD.out] at HY
  go_enter Tryz.func39, Tryz.ntmps39
  go_wp2_with fail
  rw [← HY.out]
  clear i0 i1 i2 i3 i4 i5 i6 i7
  go_loopw [6] (fun u wr => ∃ i : Nat, i ≤ n ∧ u = .int .i64 i ∧ Below Y.heap.size Y wr ∧ (∀ q x, q < i → k.dirty[q]? = some x → x.no ≠ no)) (fun u _ => n - (intOf u).toNat)
  case atStart => exact ⟨0, Nat.zero_le _, rfl, Below.refl _ _, fun q x hq => absurd hq (by omega)⟩
  case round =>
    obtain ⟨i, hi, rfl, hbr, hno⟩ := hrel
    have HBR := Lib.hid hbr
    have HNO := Lib.hid hno
    clear hbr hno
    obtain ⟨i0, i1, i2, i3, i4, i5, i6, i7⟩ := (B1.out.below HBR.out).at_
    rw [HD.out] at i2
    have hnm : n ≤ 1000 := by have := HN.out; omega
    by_cases hlt : i < n
    · obtain ⟨o, ho⟩ : ∃ o, k.dirty[i]? = some o := ⟨_, List.getElem?_eq_getElem (by have := HN.out; omega)⟩
      obtain ⟨b, off, rfl, x0, x1⟩ := lf_at HR.out (Dsk.below_trans' HB.out HBR.out) ho (by omega)
      have HO := Lib.hid ho
      have hi1 : (0 : Int) ≤ (i : Int) := by omega
      have hi2 : (i : Int) < (n : Int) := by omega
      clear ho
      by_cases ha : o.no = no
      · have ha2 : (o.no == no) = true := by simpa using ha
        have E := Lib.hid (HHit.out o (find_hitL HNO.out HO.out ha))
        clear ha
        go_wp2_with fail
        exact bodyPost_ret (v := .tuple #[.string (strB o.data), .int .i64 0]) (by simp [results, Tryz.results39, go_sem]) rfl ⟨read_end E.out, Dsk.below_trans' HB.out HBR.out⟩
      · have hf : (o.no == no) = false := by simpa using ha
        go_wp2_with fail
        refine ⟨⟨i + 1, by omega, by go_num, HBR.out, fun q x hq hx => ?_⟩, by simp [intOf]; omega⟩
        by_cases e : q = i
        · subst e
          rw [HO.out] at hx
          injection hx with hx
          subst hx
          exact ha
        · exact HNO.out q x (by omega) hx
    · have hnl : decide ((i : Int) < (n : Int)) = false := by simp; omega
      have E := Lib.hid (HMiss.out (find_missL fun q x hx => HNO.out q x (by have := (List.getElem?_eq_some_iff.1 hx).1; have := HN.out; omega) hx))
      have q := fun d os => Dsk.below_trans' HBR.out (below_regrown wr d os)
      have i0 := fun d os => ((B1.out.below (q d os)).at_).c0
      have i1 := fun d os => ((B1.out.below (q d os)).at_).c1
      have i2 := fun d os => ((B1.out.below (q d os)).at_).c2
      have i3 := fun d os => ((B1.out.below (q d os)).at_).c3
      have i4 := fun d os => ((B1.out.below (q d os)).at_).c4
      have i5 := fun d os => ((B1.out.below (q d os)).at_).c5
      rw [HD.out] at i2
      obtain ⟨PL, hPL⟩ : ∃ p, p = placeN k.shape no := ⟨_, rfl⟩
      have D1 := rg (rplace_calls k.shape no) wr
      unfold shV at D1
      rw [← hPL] at D1 E
      have D2 := fun d os => Calls.regrown_of (rrd_calls _ k.disk PL (grow (redrawn wr d) os) (H1.out.below (Dsk.below_trans' HB.out (q d os))) HOK.out.1 HOK.out.2)
      rw [HD.out] at D2
      have D1 := Lib.hid D1
      have D2 := Lib.hid D2
      clear q hPL
      go_wp2_with fail
      refine wp_region_quiet_below (by kernel_rfl) (by kernel_rfl) ?_
      (try simp only [List.append_eq, List.cons_append, List.nil_append])
      repeat (first | go_big_quiet_step (first | (with_reducible exact D1.out _ _) | (with_reducible exact D2.out _ _)))
      refine wpQuiet_nil ?_
      intro _ hw'
      obtain ⟨⟨dq, osq⟩, hw''⟩ := hw'
      subst hw''
      have HB2 := Lib.hid (Dsk.below_trans' (Dsk.below_trans' HB.out HBR.out) (below_regrown wr dq osq))
      generalize grow (redrawn wr dq) osq = W1 at *
      clear i0 i1 i2 i3 i4 i5 D1 D2
      by_cases he : rdE k.disk PL = 0
      · rw [if_neg (by omega)] at E
        rw [he]
        obtain ⟨S, hS⟩ : ∃ S, S = (rdS k.disk PL).data.toList := ⟨_, rfl⟩
        have hS2 : rdS k.disk PL = strB S := by rw [hS, strB_of]
        rw [← hS] at E
        rw [hS2]
        clear hS hS2
        go_wp2_with fail
        (with_reducible refine (Ent.rhome_calls S no _ hlo' hpage).mono ?_)
        rintro e w3 ⟨x, rfl, hx, hB3⟩
        have HX := Lib.hid hx
        clear hx
        rcases Bool.eq_false_or_eq_true (homeB S no) with hb | hb
        · rw [hb, if_pos rfl] at E
          rw [hb] at HX ⊢
          have hx := HX.out rfl
          subst hx
          go_wp2_with fail
          exact bodyPost_ret (v := .tuple #[.string (strB (homeV S no)), .int .i64 0]) (by simp [results, Tryz.results39, go_sem]) rfl ⟨read_end E.out, Dsk.below_trans' HB2.out hB3⟩
        · rw [hb, if_neg (by simp)] at E
          rw [hb]
          go_wp2_with fail
          exact bodyPost_ret (v := .tuple #[.string ⟨#[]⟩, .int .i64 2]) (by simp [results, Tryz.results39, go_sem]) rfl ⟨read_end E.out, Dsk.below_trans' HB2.out hB3⟩
      · rw [if_pos he] at E
        obtain ⟨R, hR⟩ : ∃ R, R = rdE k.disk PL := ⟨_, rfl⟩
        rw [← hR] at E he
        rw [← hR]
        have he2 : (R == 0) = false := by simpa using he
        clear hR
        go_wp2_with fail
        exact bodyPost_ret (v := .tuple #[.string ⟨#[]⟩, .int .i64 R]) (by simp [results, Tryz.results39, go_sem]) rfl ⟨read_end E.out, HB2.out⟩

end Go.Proofs.YtnbbijpmkhdgpaaGreat.Vlt
