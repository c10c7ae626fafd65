/- The document's own Home: what each call does. No statement is proved here. -/
import Derived.Test.YtompckbcaccmiaaERef
namespace Go.Proofs.Ytompckbcaccmiaa
open Go.RowKit Go.Sort
open Wire (TK TP But twoL fourL numS inside good markS)
open Crc (sealB Only)

theorem home_plain {s : List UInt8} {no : Int} (h0 : 0 ≤ no) (h1 : no ≤ 65535) (hz : (s == zer 256) = false) (hl : s.length = 256) (hk : s.take 4 = leafK) :
    homeB s no = (leafL no ((s.drop 6).take 208) == s) ∧ dataH s no = (s.drop 6).take 208 := by
  have hm : markS leafK ⟨s, false⟩ = ⟨s.drop 4, false⟩ := mark_good (by rw [hl]; decide) hk
  have hd : dataH s no = (s.drop 6).take 208 := by
    unfold dataH tapeH
    rw [hm]
    unfold numS
    rw [Wire.good_yes (by rw [List.length_drop, hl]; omega), if_pos rfl, List.drop_drop]
  refine ⟨?_, hd⟩
  unfold homeB
  rw [hz, hd, Bool.false_or]
  cases he : leafL no ((s.drop 6).take 208) == s with
  | false => rw [Bool.and_false]
  | true =>
    rw [beq_iff_eq] at he
    obtain ⟨z, ht⟩ := tape_leaf ((s.drop 6).take 208) h0 h1
    rw [he] at ht
    rw [ht]
    rfl
theorem home_len {s : List UInt8} {no : Int} (h : s.length ≠ 256) : homeB s no = false := by
  cases hb : homeB s no with
  | false => rfl
  | true =>
    rcases home_is hb with e | ⟨_, _, e⟩
    · exact absurd (by rw [e, zer_len]) h
    · exact absurd e h
theorem home_kind {s : List UInt8} {no : Int} (hz : (s == zer 256) = false) (h : s.take 4 ≠ leafK) : homeB s no = false := by
  cases hb : homeB s no with
  | false => rfl
  | true =>
    rcases home_is hb with e | ⟨e, _⟩
    · rw [e, beq_self_eq_true] at hz; cases hz
    · exact absurd e h

theorem zeros_made (n : Nat) (hn : n ≤ 1000) (w : World) : ∃ Y, (Instr.makeSlice 39 (.int .i64 (n : Nat)) (.int .i64 (n : Nat))).run Try.prog w = .ok (.slice (some ⟨w.heap.size, 0, none⟩) n n) Y ∧ (convert 39 9 (.slice (some ⟨w.heap.size, 0, none⟩) n n)).run Try.prog Y = .ok (.string (strB (zer n))) Y ∧ Below w.heap.size w Y :=
  ⟨_, Wire.make_zeros n (by omega) w, Wire.conv_zeros n w, below_one _ _⟩
theorem zeros256 (w : World) : ∃ Y, (Instr.makeSlice 39 (.int .i64 256) (.int .i64 256)).run Try.prog w = .ok (.slice (some ⟨w.heap.size, 0, none⟩) 256 256) Y ∧ (convert 39 9 (.slice (some ⟨w.heap.size, 0, none⟩) 256 256)).run Try.prog Y = .ok (.string (strB (zer 256))) Y ∧ Below w.heap.size w Y := zeros_made 256 (by omega) w
theorem zeros208 (w : World) : ∃ Y, (Instr.makeSlice 39 (.int .i64 208) (.int .i64 208)).run Try.prog w = .ok (.slice (some ⟨w.heap.size, 0, none⟩) 208 208) Y ∧ (convert 39 9 (.slice (some ⟨w.heap.size, 0, none⟩) 208 208)).run Try.prog Y = .ok (.string (strB (zer 208))) Y ∧ Below w.heap.size w Y := zeros_made 208 (by omega) w

theorem cut6 (s : List UInt8) (h : s.length = 256) (w : World) :
    Sem.run Try.prog (Instr.slice 9 (.string (strB s)) (some (.int .i64 6)) (some (.int .i64 214)) none) w = .ok (.string (strB ((s.drop 6).take 208))) w := by
  have h2 : (214 : Int) ≤ ((strB s).size : Int) := by rw [strB_size]; omega
  have := run_slice_string (P := Try.prog) w 9 (strB s) .i64 .i64 6 214 Try.underlying9 (by omega) (by omega) h2
  rw [this]
  have e : (strB s).extract 6 214 = strB ((s.drop 6).take 208) := by rw [strB_extract, List.drop_take]
  exact congrArg (fun b => Result.ok (Value.string b) w) e
theorem cut4 (s : List UInt8) (h : s.length = 256) (w : World) :
    Sem.run Try.prog (Instr.slice 9 (.string (strB s)) none (some (.int .i64 4)) none) w = .ok (.string (strB (s.take 4))) w := by
  have h2 : (4 : Int) ≤ ((strB s).size : Int) := by rw [strB_size]; omega
  have h3 : 4 ≤ (strB s).size := by rw [strB_size]; omega
  have e : (strB s).extract 0 4 = strB (s.take 4) := by rw [strB_extract, List.drop_zero]
  simp [go_sem, h2, h3, e]

theorem eqz_spell (a b : List UInt8) : ((strB a).toList == (strB b).toList) = (a == b) := by rw [strB_toList, strB_toList]

set_option maxRecDepth 100000 in
set_option maxHeartbeats 8000000 in
theorem rhome_calls (s : List UInt8) (no : Int) (w : World) (h0 : 0 ≤ no) (h1 : no ≤ 511) :
    Calls Try.prog 15 #[.string (strB s), .int .i64 no] w fun e w' => ∃ v, e = .returned (.tuple #[.string (strB v), .bool (homeB s no)]) ∧ (homeB s no = true → v = homeV s no) ∧ Below w.heap.size w w' := by
  obtain ⟨Z2, hZ2⟩ : ∃ Z, Z = zer 256 := ⟨_, rfl⟩
  obtain ⟨Z, hZ⟩ : ∃ Z, Z = zer 208 := ⟨_, rfl⟩
  have M2 := Lib.hid zeros256
  have M1 := Lib.hid zeros208
  rw [← hZ2] at M2
  rw [← hZ] at M1
  obtain ⟨Y1, m1, m2, m3⟩ := M2.out w
  obtain ⟨Y2, n1, n2, n3⟩ := M1.out Y1
  have HE := eqz_spell s Z2
  rw [hZ2] at HE
  rw [← hZ2] at HE
  have HB1 := Lib.hid m3
  have HB2 := Lib.hid (below_trans' m3 n3)
  have hs := strB_size s
  clear m3 n3 M1 M2
  cases hz : s == zer 256 with
  | true =>
    rw [hZ2, hz, ← hZ2] at HE
    have e1 : homeB s no = true := by unfold homeB; rw [hz]; rfl
    have e2 : Z = homeV s no := by unfold homeV; rw [hz, hZ]; rfl
    rw [e1]
    have E2 := Lib.hid e2
    clear e1 e2 hz hs hZ hZ2
    go_enter Try.func15, Try.ntmps15
    go_wp2_with fail
    go_ret2
    exact ⟨_, rfl, fun _ => E2.out, HB2.out⟩
  | false =>
    rw [hZ2, hz, ← hZ2] at HE
    by_cases hl : s.length = 256
    · have h256 : (strB s).size = 256 := by omega
      have hc4 := cut4 s hl
      have hc6 := cut6 s hl
      by_cases hk : s.take 4 = leafK
      · rw [hk] at hc4
        rw [show strB leafK = ⟨#[76, 69, 65, 70]⟩ from rfl] at hc4
        obtain ⟨e1, e2⟩ := home_plain h0 (show no ≤ 65535 by omega) hz hl hk
        obtain ⟨D, hD⟩ : ∃ D, D = (s.drop 6).take 208 := ⟨_, rfl⟩
        have hv : homeB s no = true → D = homeV s no := fun hb => by
          unfold homeB at hb
          rw [hz, Bool.false_or] at hb
          unfold homeV
          rw [hz, hb, e2, hD]
          rfl
        rw [← hD] at hc6 e1
        rw [e1] at hv ⊢
        have HV := Lib.hid hv
        have HL := Lib.hid (fun W => rleaf_calls no D W (by rw [hD, List.length_take]; omega))
        unfold lfV at HL
        have he := eqz_spell (leafL no D) s
        clear hv e1 e2 hD hk hz hl hs hZ hZ2 n1 n2 HB2 h0 h1
        go_enter Try.func15, Try.ntmps15
        go_wp2_with fail
        (with_reducible refine (HL.out _).mono ?_)
        rintro e w2 ⟨rfl, hB2⟩
        go_wp2_with fail
        go_ret2
        exact ⟨_, rfl, HV.out, below_trans' HB1.out hB2⟩
      · have hne : (s.take 4 == [76, 69, 65, 70]) = false := by rw [beq_eq_false_iff_ne]; exact hk
        have e1 := home_kind (no := no) hz hk
        obtain ⟨K, hK⟩ : ∃ K, K = s.take 4 := ⟨_, rfl⟩
        rw [← hK] at hc4 hne
        have ht := strB_toList K
        have hne' : ¬ K = [76, 69, 65, 70] := by rw [hK]; exact hk
        rw [e1]
        clear e1 hK hk hz hl hs hZ hZ2 n1 n2 HB2 h0 h1 hc6
        go_enter Try.func15, Try.ntmps15
        go_wp2_with fail
        go_ret2
        exact ⟨[], rfl, (fun h => by cases h), HB1.out⟩
    · have h256 : ((strB s).size == 256) = false := by rw [beq_eq_false_iff_ne, hs]; exact hl
      have h257 : (((strB s).size : Int) == 256) = false := by rw [beq_eq_false_iff_ne, hs]; omega
      have h258 : ¬ (strB s).size = 256 := by rw [hs]; exact hl
      rw [home_len hl]
      clear hz hl hs hZ hZ2 n1 n2 HB2 h0 h1
      go_enter Try.func15, Try.ntmps15
      go_wp2_with fail
      go_ret2
      exact ⟨[], rfl, (fun h => by cases h), HB1.out⟩

end Go.Proofs.Ytompckbcaccmiaa
