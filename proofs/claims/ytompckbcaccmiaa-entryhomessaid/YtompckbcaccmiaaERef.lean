/- The document's own entry: Right, Print, Leaf: what each call does. No statement is proved here. -/
import Derived.Test.YtompckbcaccmiaaERight
namespace Go.Proofs.Ytompckbcaccmiaa
open Go.RowKit Go.Sort
open Wire (TK TP But twoL fourL)
open Crc (sealB Only)

set_option maxRecDepth 100000 in
set_option maxHeartbeats 8000000 in
theorem rright_calls (x : En) (w : World) :
    Calls Try.prog 11 #[enV x] w fun e w' => e = .returned (.bool (rightE x)) ∧ Below w.heap.size w w' := by
  by_cases h0 : x.seq < 1
  · have E : Hid (false = rightE x) := Lib.hid (by
      symm
      rw [Bool.eq_false_iff]
      intro h
      have := right_iff.1 h
      omega)
    unfold enV
    go_enter Try.func11, Try.ntmps11
    go_wp2_with fail
    go_ret
    exact ⟨ret_bool E.out, below_one _ _⟩
  · have h0' : 1 ≤ x.seq := by omega
    by_cases h1 : 2147483648 ≤ x.seq
    · have E : Hid (false = rightE x) := Lib.hid (by
        symm
        rw [Bool.eq_false_iff]
        intro h
        have := right_iff.1 h
        omega)
      unfold enV
      go_enter Try.func11, Try.ntmps11
      go_wp2_with fail
      go_ret
      exact ⟨ret_bool E.out, below_one _ _⟩
    · have h1' : x.seq < 2147483648 := by omega
      by_cases h2 : x.index < 0
      · have E : Hid (false = rightE x) := Lib.hid (by
          symm
          rw [Bool.eq_false_iff]
          intro h
          have := right_iff.1 h
          omega)
        unfold enV
        go_enter Try.func11, Try.ntmps11
        go_wp2_with fail
        go_ret
        exact ⟨ret_bool E.out, below_one _ _⟩
      · have h2' : 0 ≤ x.index := by omega
        by_cases h3 : 256 ≤ x.index
        · have E : Hid (false = rightE x) := Lib.hid (by
            symm
            rw [Bool.eq_false_iff]
            intro h
            have := right_iff.1 h
            omega)
          unfold enV
          go_enter Try.func11, Try.ntmps11
          go_wp2_with fail
          go_ret
          exact ⟨ret_bool E.out, below_one _ _⟩
        · have h3' : x.index < 256 := by omega
          by_cases h4 : x.no < 0
          · have E : Hid (false = rightE x) := Lib.hid (by
              symm
              rw [Bool.eq_false_iff]
              intro h
              have := right_iff.1 h
              omega)
            unfold enV
            go_enter Try.func11, Try.ntmps11
            go_wp2_with fail
            go_ret
            exact ⟨ret_bool E.out, below_one _ _⟩
          · have h4' : 0 ≤ x.no := by omega
            by_cases h5 : 512 ≤ x.no
            · have E : Hid (false = rightE x) := Lib.hid (by
                symm
                rw [Bool.eq_false_iff]
                intro h
                have := right_iff.1 h
                omega)
              unfold enV
              go_enter Try.func11, Try.ntmps11
              go_wp2_with fail
              go_ret
              exact ⟨ret_bool E.out, below_one _ _⟩
            · have h5' : x.no < 512 := by omega
              have hR : rightE x = decide (x.data.length = dataN x.last) := by
                rw [Bool.eq_iff_iff, right_iff, decide_eq_true_iff]
                omega
              have HR := Lib.hid hR
              clear hR
              have e6 := strB_toList x.data
              have hsz := strB_size x.data
              cases hl : x.last with
              | true =>
                rw [hl] at HR
                unfold enV
                rw [hl]
                go_enter Try.func11, Try.ntmps11
                go_wp2_with fail
                all_goals
                  rename_i hd
                  go_ret
                  refine ⟨ret_bool ?_, below_one _ _⟩
                  rw [HR.out, Bool.eq_iff_iff]
                  simp [dataN, hd]
              | false =>
                rw [hl] at HR
                unfold enV
                rw [hl]
                go_enter Try.func11, Try.ntmps11
                go_wp2_with fail
                go_ret
                refine ⟨ret_bool ?_, below_one _ _⟩
                rw [HR.out, Bool.eq_iff_iff]
                simp [dataN] <;> omega

set_option maxRecDepth 100000 in
set_option maxHeartbeats 8000000 in
theorem rprint_calls (x : En) (w : World) (hx : x.data.length ≤ 240) :
    Calls Try.prog 13 #[enV x] w fun e w' => e = .returned (.string (strB (printL x))) ∧ Below w.heap.size w w' := by
  obtain ⟨Y, hY, hbY, hBY⟩ : ∃ Y, Y = w.alloc (.cells (enC x) 23) ∧ EBox Y w.heap.size x ∧ Below w.heap.size w Y := ⟨_, rfl, EBox.new _ _, below_one _ _⟩
  unfold enC at hY
  have k0 := fun d os => cell_regrown hbY.at_.c0 d os
  have k1 := fun d os => cell_regrown hbY.at_.c1 d os
  have k3 := fun d os => cell_regrown hbY.at_.c3 d os
  have k4 := fun d os => cell_regrown hbY.at_.c4 d os
  have e : strB (kindL x.last) ++ strB (fourL x.seq) ++ strB (twoL x.index) ++ strB (twoL x.no) ++ strB x.data = strB (headL x) := by
    simp only [strB_append, headL, restL, List.append_assoc]
  obtain ⟨T, hT⟩ : ∃ T, T = headL x := ⟨_, rfl⟩
  rw [← hT] at e
  have hTl : T.length ≤ 252 := by rw [hT, headL_len]; omega
  obtain ⟨k, hk⟩ : ∃ k, k = 252 - T.length := ⟨_, rfl⟩
  have hs := strB_size T
  have hm : (252 : Int) - ((strB T).size : Int) = (k : Nat) := by omega
  have hm1 : (0 : Int) ≤ 252 - ((strB T).size : Int) := by omega
  have hm2 : ((strB T).size : Int) ≤ 252 := by omega
  have hm3 : ¬ (252 : Int) < ((strB T).size : Int) := by omega
  have hz : ¬ 9223372036854775807 < (strB T).size + (strB (zer k)).size := by rw [strB_size, strB_size, zer_len]; omega
  have hmk := Wire.make_zeros k (by omega)
  have hc : ∀ W : World, (convert 39 9 (.slice (some ⟨W.heap.size, 0, none⟩) k k)).run Try.prog (W.alloc (.cells (madeCells #[.int .u8 0] k) 5)) = .ok (.string (strB (zer k))) (W.alloc (.cells (madeCells #[.int .u8 0] k) 5)) := Wire.conv_zeros k
  have hf : strB T ++ strB (zer k) = strB (fillL (headL x)) := by rw [strB_append, hk, hT]; rfl
  have HS := Lib.hid (Crc.ref_seal (strB T ++ strB (zer k)))
  rw [hf, strB_data, ← hf] at HS
  have HF : Hid ((strB T ++ strB (zer k)).size ≤ 9223372036854775000) := Lib.hid (by rw [hf, strB_size, fill_len (by rw [← hT]; exact hTl)]; omega)
  have C2 := Lib.hid (rg (Wire.rfour_calls x.seq) Y)
  have C3 := Lib.hid (rg (Wire.rtwo_calls x.index) Y)
  have C4 := Lib.hid (rg (Wire.rtwo_calls x.no) Y)
  have HY := Lib.hid hY
  have HB := Lib.hid hBY
  have HE := Lib.hid e
  have g1 : (strB (kindL x.last)).size ≤ 4 := by rw [strB_size, kindL_len]; exact Nat.le_refl _
  have g2 : (strB (fourL x.seq)).size ≤ 4 := by rw [strB_size]; exact Nat.le_refl _
  have g3 : (strB (twoL x.index)).size ≤ 4 := by rw [strB_size, Wire.twoL_len]; omega
  have g4 : (strB (twoL x.no)).size ≤ 4 := by rw [strB_size, Wire.twoL_len]; omega
  have g5 : (strB x.data).size ≤ 240 := by rw [strB_size]; exact hx
  clear hY hBY e hx hs hT hk hf hTl
  rcases Bool.eq_false_or_eq_true x.last with hl | hl
  · rw [hl] at HE g1
    rw [show strB (kindL true) = ⟨#[74, 69, 78, 68]⟩ from rfl] at HE g1
    have k2 := hbY.at_.c2
    rw [hl, HY.out] at k2
    unfold enV
    rw [hl]
    rw [hl] at HY
    rw [hl] at k2
    clear hbY
    go_enter Try.func13, Try.ntmps13
    go_wp2_with fail
    rw [← HY.out]
    clear k2
    refine wp_region_quiet_below (by kernel_rfl) (by kernel_rfl) ?_
    (try simp only [List.append_eq, List.cons_append, List.nil_append])
    repeat (first | go_big_quiet_step (first | (with_reducible exact C2.out _ _) | (with_reducible exact C3.out _ _) | (with_reducible exact C4.out _ _)))
    refine wpQuiet_nil ?_
    intro _ hw'
    obtain ⟨⟨dq, osq⟩, hw''⟩ := hw'
    subst hw''
    dsimp only
    rw [HE.out]
    have HB2 := Lib.hid (Below.trans HB.out ((below_regrown Y dq osq).mono HB.out.size))
    generalize grow (redrawn Y dq) osq = W1 at *
    clear k0 k1 k3 k4 g1 g2 g3 g4 g5
    go_wp2_with fail
    (with_reducible refine (HS.out _ HF.out).mono ?_)
    rintro e w2 ⟨rfl, hB2⟩
    go_wp2_with fail
    go_ret
    exact ⟨rfl, below_trans' (below_trans' HB2.out (below_one _ _)) hB2⟩
  · rw [hl] at HE g1
    rw [show strB (kindL false) = ⟨#[74, 80, 65, 71]⟩ from rfl] at HE g1
    have k2 := hbY.at_.c2
    rw [hl, HY.out] at k2
    unfold enV
    rw [hl]
    rw [hl] at HY
    rw [hl] at k2
    clear hbY
    go_enter Try.func13, Try.ntmps13
    go_wp2_with fail
    rw [← HY.out]
    clear k2
    refine wp_region_quiet_below (by kernel_rfl) (by kernel_rfl) ?_
    (try simp only [List.append_eq, List.cons_append, List.nil_append])
    repeat (first | go_big_quiet_step (first | (with_reducible exact C2.out _ _) | (with_reducible exact C3.out _ _) | (with_reducible exact C4.out _ _)))
    refine wpQuiet_nil ?_
    intro _ hw'
    obtain ⟨⟨dq, osq⟩, hw''⟩ := hw'
    subst hw''
    dsimp only
    rw [HE.out]
    have HB2 := Lib.hid (Below.trans HB.out ((below_regrown Y dq osq).mono HB.out.size))
    generalize grow (redrawn Y dq) osq = W1 at *
    clear k0 k1 k3 k4 g1 g2 g3 g4 g5
    go_wp2_with fail
    (with_reducible refine (HS.out _ HF.out).mono ?_)
    rintro e w2 ⟨rfl, hB2⟩
    go_wp2_with fail
    go_ret
    exact ⟨rfl, below_trans' (below_trans' HB2.out (below_one _ _)) hB2⟩

set_option maxRecDepth 100000 in
set_option maxHeartbeats 8000000 in
theorem rleaf_calls (no : Int) (d : List UInt8) (w : World) (hd : d.length ≤ 240) :
    Calls Try.prog 17 #[lfV no d] w fun e w' => e = .returned (.string (strB (leafL no d))) ∧ Below w.heap.size w w' := by
  obtain ⟨Y, hY, hbY, hBY⟩ : ∃ Y, Y = w.alloc (.cells #[.int .i64 no, .string (strB d)] 31) ∧ LBox Y w.heap.size no d ∧ Below w.heap.size w Y := ⟨_, rfl, LBox.new _ _ _, below_one _ _⟩
  have k0 := fun d os => cell_regrown hbY.c0 d os
  have k1 := fun d os => cell_regrown hbY.c1 d os
  obtain ⟨T, hT⟩ : ∃ T, T = leafK ++ (twoL no ++ d) := ⟨_, rfl⟩
  have e : (⟨#[76, 69, 65, 70]⟩ : ByteArray) ++ strB (twoL no) ++ strB d = strB T := by
    rw [hT, show (⟨#[76, 69, 65, 70]⟩ : ByteArray) = strB leafK from rfl]
    simp only [strB_append, List.append_assoc]
  have hTl : T.length ≤ 252 := by rw [hT, List.length_append, List.length_append, Wire.twoL_len]; show 4 + _ ≤ _; omega
  obtain ⟨k, hk⟩ : ∃ k, k = 252 - T.length := ⟨_, rfl⟩
  have hs := strB_size T
  have hm : (252 : Int) - ((strB T).size : Int) = (k : Nat) := by omega
  have hm1 : (0 : Int) ≤ 252 - ((strB T).size : Int) := by omega
  have hm2 : ((strB T).size : Int) ≤ 252 := by omega
  have hm3 : ¬ (252 : Int) < ((strB T).size : Int) := by omega
  have hz : ¬ 9223372036854775807 < (strB T).size + (strB (zer k)).size := by rw [strB_size, strB_size, zer_len]; omega
  have hmk := Wire.make_zeros k (by omega)
  have hc : ∀ W : World, (convert 39 9 (.slice (some ⟨W.heap.size, 0, none⟩) k k)).run Try.prog (W.alloc (.cells (madeCells #[.int .u8 0] k) 5)) = .ok (.string (strB (zer k))) (W.alloc (.cells (madeCells #[.int .u8 0] k) 5)) := Wire.conv_zeros k
  have hf : strB T ++ strB (zer k) = strB (fillL (leafK ++ (twoL no ++ d))) := by rw [strB_append, hk, hT]; rfl
  have HS := Lib.hid (Crc.ref_seal (strB T ++ strB (zer k)))
  rw [hf, strB_data, ← hf] at HS
  have HF : Hid ((strB T ++ strB (zer k)).size ≤ 9223372036854775000) := Lib.hid (by rw [hf, strB_size, fill_len (by rw [← hT]; exact hTl)]; omega)
  have C4 := Lib.hid (rg (Wire.rtwo_calls no) Y)
  have HY := Lib.hid hY
  have HB := Lib.hid hBY
  have HE := Lib.hid e
  have g4 : (strB (twoL no)).size ≤ 4 := by rw [strB_size, Wire.twoL_len]; omega
  have g5 : (strB d).size ≤ 240 := by rw [strB_size]; exact hd
  clear hY hBY hbY e hd hs hT hk hf hTl
  unfold lfV
  go_enter Try.func17, Try.ntmps17
  go_wp2_with fail
  rw [← HY.out]
  refine wp_region_quiet_below (by kernel_rfl) (by kernel_rfl) ?_
  (try simp only [List.append_eq, List.cons_append, List.nil_append])
  repeat (first | go_big_quiet_step (first | (with_reducible exact C4.out _ _)))
  refine wpQuiet_nil ?_
  intro _ hw'
  obtain ⟨⟨dq, osq⟩, hw''⟩ := hw'
  subst hw''
  dsimp only
  rw [HE.out]
  have HB2 := Lib.hid (Below.trans HB.out ((below_regrown Y dq osq).mono HB.out.size))
  generalize grow (redrawn Y dq) osq = W1 at *
  clear k0 k1 g4 g5
  go_wp2_with fail
  (with_reducible refine (HS.out _ HF.out).mono ?_)
  rintro e w2 ⟨rfl, hB2⟩
  go_wp2_with fail
  go_ret
  exact ⟨rfl, below_trans' (below_trans' HB2.out (below_one _ _)) hB2⟩

end Go.Proofs.Ytompckbcaccmiaa
