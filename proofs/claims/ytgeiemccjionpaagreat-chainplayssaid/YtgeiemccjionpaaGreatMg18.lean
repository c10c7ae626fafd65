/- Contracts and plain mathematics that the statement's proof wants: no statement is proved here, nothing is assumed. -/
import Derived.Laws.StructEq
import Derived.Test.YtgeiemccjionpaaGreatMg10
/- ERight -/
namespace Go.Proofs.YtgeiemccjionpaaGreat.Ent
open Go.RowKit Go.Sort
open Wire (TK TP But twoL fourL)
open Crc (sealB Only)

set_option maxRecDepth 100000 in
set_option maxHeartbeats 1000000 in
theorem sector_calls (l : List UInt8) (w : World) (h : l.length ≤ 252) :
    Calls Tryz.prog 98 #[.string (strB l)] w fun e w' => e = .returned (.string (strB (sectorL l))) ∧ Below w.heap.size w w' := by
  have hs := strB_size l
  have hm : max ((252 : Int) - ((strB l).size : Int)) 0 = ((252 - l.length : Nat) : Int) := by omega
  have hz : ¬ 9223372036854775807 < (strB l).size + (strB (zer (252 - l.length))).size := by rw [strB_size, strB_size, zer_len]; omega
  have hz1 : (0 : Int) ≤ 252 - ((strB l).size : Int) := by omega
  have hz2 : ((strB l).size : Int) ≤ 252 := by omega
  have HS := Lib.hid (Crc.seal_calls (strB (fillL l)))
  have HF : Hid ((strB (fillL l)).size ≤ 9223372036854775000) := Lib.hid (by rw [strB_size, fill_len h]; omega)
  rw [strB_data] at HS
  clear hs
  go_enter Tryz.func98, Tryz.ntmps98
  go_wp2_with fail
  (with_reducible refine (noughts_calls (252 - l.length) _ (by omega)).mono ?_)
  rintro e w1 ⟨rfl, hB⟩
  go_wp2_with fail
  rw [strB_append, show l ++ zer (252 - l.length) = fillL l from rfl]
  (with_reducible refine (HS.out _ HF.out).mono ?_)
  rintro e w2 ⟨rfl, hB2⟩
  go_wp2_with fail
  go_ret
  exact ⟨rfl, below_trans' hB hB2⟩

theorem page_is (l : List UInt8) (h : l.length ≤ 208) : (l ++ zer (208 - l.length)).length = 208 := by rw [List.length_append, zer_len]; omega

set_option maxRecDepth 100000 in
set_option maxHeartbeats 8000000 in
theorem leaf_calls (no : Int) (d : List UInt8) (w : World) (hd : d.length ≤ 240) :
    Calls Tryz.prog 87 #[lfV no d] w fun e w' => e = .returned (.string (strB (leafL no d))) ∧ Below w.heap.size w w' := by
  obtain ⟨Y, hY, hbY, hBY⟩ : ∃ Y, Y = w.alloc (.cells #[.int .i64 no, .string (strB d)] 98) ∧ LBox Y w.heap.size no d ∧ Below w.heap.size w Y := ⟨_, rfl, LBox.new _ _ _, below_one _ _⟩
  have k0 := fun d os => cell_regrown hbY.c0 d os
  have k1 := fun d os => cell_regrown hbY.c1 d os
  have e : (⟨#[76, 69, 65, 70]⟩ : ByteArray) ++ strB (twoL no) ++ strB d = strB (leafK ++ (twoL no ++ d)) := by
    rw [show (⟨#[76, 69, 65, 70]⟩ : ByteArray) = strB leafK from rfl]
    simp only [strB_append, List.append_assoc]
  have CS := sector_calls (leafK ++ (twoL no ++ d))
  rw [← e] at CS
  have C4 := Lib.hid (rg (Wire.two_calls no) Y)
  have C5 := Lib.hid (rg (fun W => CS W (by rw [List.length_append, List.length_append, Wire.twoL_len]; show 4 + _ ≤ _; omega)) Y)
  have HY := Lib.hid hY
  have HB := Lib.hid hBY
  have g4 : (strB (twoL no)).size ≤ 4 := by rw [strB_size, Wire.twoL_len]; omega
  have g5 : (strB d).size ≤ 240 := by rw [strB_size]; exact hd
  clear hY hbY hBY e CS hd
  unfold lfV
  go_enter Tryz.func87, Tryz.ntmps87
  go_wp2_with fail
  rw [← HY.out]
  refine wp_region_quiet_below (by kernel_rfl) (by kernel_rfl) ?_
  (try simp only [List.append_eq, List.cons_append, List.nil_append])
  repeat (first | go_big_quiet_step (first | (with_reducible exact C4.out _ _) | (with_reducible exact C5.out _ _)))
  refine wpQuiet_nil ?_
  intro _ hw'
  obtain ⟨⟨dq, osq⟩, hw''⟩ := hw'
  subst hw''
  go_wp2_with fail
  go_ret
  exact ⟨rfl, Below.trans HB.out ((below_regrown Y dq osq).mono HB.out.size)⟩


end Go.Proofs.YtgeiemccjionpaaGreat.Ent

/- ERef -/
namespace Go.Proofs.YtgeiemccjionpaaGreat.Ent
open Go.RowKit Go.Sort
open Wire (TK TP But twoL fourL)
open Crc (sealB Only)

set_option maxRecDepth 100000 in
set_option maxHeartbeats 8000000 in
theorem rleaf_calls (no : Int) (d : List UInt8) (w : World) (hd : d.length ≤ 240) :
    Calls Tryz.prog 76 #[lfV no d] w fun e w' => e = .returned (.string (strB (leafL no d))) ∧ Below w.heap.size w w' := by
  obtain ⟨Y, hY, hbY, hBY⟩ : ∃ Y, Y = w.alloc (.cells #[.int .i64 no, .string (strB d)] 98) ∧ LBox Y w.heap.size no d ∧ Below w.heap.size w Y := ⟨_, rfl, LBox.new _ _ _, below_one _ _⟩
  have k0 := fun d os => cell_regrown hbY.c0 d os
  have k1 := fun d os => cell_regrown hbY.c1 d os
  obtain ⟨T, hT⟩ : ∃ T, T = leafK ++ (twoL no ++ d) := ⟨_, rfl⟩
  have e : (⟨#[76, 69, 65, 70]⟩ : ByteArray) ++ strB (twoL no) ++ strB d = strB T := by
    rw [hT, show (⟨#[76, 69, 65, 70]⟩ : ByteArray) = strB leafK from rfl]
    simp only [strB_append, List.append_assoc]
  have hTl : T.length ≤ 252 := by rw [hT, List.length_append, List.length_append, Wire.twoL_len]; show 4 + _ ≤ _; omega
  obtain ⟨k, hk⟩ : ∃ k, k = 252 - T.length := ⟨_, rfl⟩
  have hs := strB_size T
  have hm : (252 : Int) - ((strB T).size : Int) = (k : Nat) := by omega
  have hm1 : (0 : Int) ≤ 252 - ((strB T).size : Int) := by omega
  have hm2 : ((strB T).size : Int) ≤ 252 := by omega
  have hm3 : ¬ (252 : Int) < ((strB T).size : Int) := by omega
  have hz : ¬ 9223372036854775807 < (strB T).size + (strB (zer k)).size := by rw [strB_size, strB_size, zer_len]; omega
  have hmk := Wire.make_zeros k (by omega)
  have hc : ∀ W : World, (convert 70 9 (.slice (some ⟨W.heap.size, 0, none⟩) k k)).run Tryz.prog (W.alloc (.cells (madeCells #[.int .u8 0] k) 5)) = .ok (.string (strB (zer k))) (W.alloc (.cells (madeCells #[.int .u8 0] k) 5)) := Wire.conv_zeros k
  have hf : strB T ++ strB (zer k) = strB (fillL (leafK ++ (twoL no ++ d))) := by rw [strB_append, hk, hT]; rfl
  have HS := Lib.hid (Crc.ref_seal (strB T ++ strB (zer k)))
  rw [hf, strB_data, ← hf] at HS
  have HF : Hid ((strB T ++ strB (zer k)).size ≤ 9223372036854775000) := Lib.hid (by rw [hf, strB_size, fill_len (by rw [← hT]; exact hTl)]; omega)
  have C4 := Lib.hid (rg (Wire.rtwo_calls no) Y)
  have HY := Lib.hid hY
  have HB := Lib.hid hBY
  have HE := Lib.hid e
  have g4 : (strB (twoL no)).size ≤ 4 := by rw [strB_size, Wire.twoL_len]; omega
  have g5 : (strB d).size ≤ 240 := by rw [strB_size]; exact hd
  clear hY hBY hbY e hd hs hT hk hf hTl
  unfold lfV
  go_enter Tryz.func76, Tryz.ntmps76
  go_wp2_with fail
  rw [← HY.out]
  refine wp_region_quiet_below (by kernel_rfl) (by kernel_rfl) ?_
  (try simp only [List.append_eq, List.cons_append, List.nil_append])
  repeat (first | go_big_quiet_step (first | (with_reducible exact C4.out _ _)))
  refine wpQuiet_nil ?_
  intro _ hw'
  obtain ⟨⟨dq, osq⟩, hw''⟩ := hw'
  subst hw''
  dsimp only
  rw [HE.out]
  have HB2 := Lib.hid (Below.trans HB.out ((below_regrown Y dq osq).mono HB.out.size))
  generalize grow (redrawn Y dq) osq = W1 at *
  clear k0 k1 g4 g5
  go_wp2_with fail
  (with_reducible refine (HS.out _ HF.out).mono ?_)
  rintro e w2 ⟨rfl, hB2⟩
  go_wp2_with fail
  go_ret
  exact ⟨rfl, below_trans' (below_trans' HB2.out (below_one _ _)) hB2⟩

end Go.Proofs.YtgeiemccjionpaaGreat.Ent

/- ERHome -/
namespace Go.Proofs.YtgeiemccjionpaaGreat.Ent
open Go.RowKit Go.Sort
open Wire (TK TP But twoL fourL numS inside good markS)
open Crc (sealB Only)

theorem home_plain {s : List UInt8} {no : Int} (h0 : 0 ≤ no) (h1 : no ≤ 65535) (hz : (s == zer 256) = false) (hl : s.length = 256) (hk : s.take 4 = leafK) :
    homeB s no = (leafL no ((s.drop 6).take 208) == s) ∧ dataH s no = (s.drop 6).take 208 := by
  have hm : markS leafK ⟨s, false⟩ = ⟨s.drop 4, false⟩ := mark_good (by rw [hl]; decide) hk
  have hd : dataH s no = (s.drop 6).take 208 := by
    unfold dataH tapeH
    rw [hm]
    unfold numS
    rw [Wire.good_yes (by rw [List.length_drop, hl]; omega), if_pos rfl, List.drop_drop]
  refine ⟨?_, hd⟩
  unfold homeB
  rw [hz, hd, Bool.false_or]
  cases he : leafL no ((s.drop 6).take 208) == s with
  | false => rw [Bool.and_false]
  | true =>
    rw [beq_iff_eq] at he
    obtain ⟨z, ht⟩ := tape_leaf ((s.drop 6).take 208) h0 h1
    rw [he] at ht
    rw [ht]
    rfl
theorem home_len {s : List UInt8} {no : Int} (h : s.length ≠ 256) : homeB s no = false := by
  cases hb : homeB s no with
  | false => rfl
  | true =>
    rcases home_is hb with e | ⟨_, _, e⟩
    · exact absurd (by rw [e, zer_len]) h
    · exact absurd e h
theorem home_kind {s : List UInt8} {no : Int} (hz : (s == zer 256) = false) (h : s.take 4 ≠ leafK) : homeB s no = false := by
  cases hb : homeB s no with
  | false => rfl
  | true =>
    rcases home_is hb with e | ⟨e, _⟩
    · rw [e, beq_self_eq_true] at hz; cases hz
    · exact absurd e h

theorem zeros_made (n : Nat) (hn : n ≤ 1000) (w : World) : ∃ Y, (Instr.makeSlice 70 (.int .i64 (n : Nat)) (.int .i64 (n : Nat))).run Tryz.prog w = .ok (.slice (some ⟨w.heap.size, 0, none⟩) n n) Y ∧ (convert 70 9 (.slice (some ⟨w.heap.size, 0, none⟩) n n)).run Tryz.prog Y = .ok (.string (strB (zer n))) Y ∧ Below w.heap.size w Y :=
  ⟨_, Wire.make_zeros n (by omega) w, Wire.conv_zeros n w, below_one _ _⟩
theorem zeros256 (w : World) : ∃ Y, (Instr.makeSlice 70 (.int .i64 256) (.int .i64 256)).run Tryz.prog w = .ok (.slice (some ⟨w.heap.size, 0, none⟩) 256 256) Y ∧ (convert 70 9 (.slice (some ⟨w.heap.size, 0, none⟩) 256 256)).run Tryz.prog Y = .ok (.string (strB (zer 256))) Y ∧ Below w.heap.size w Y := zeros_made 256 (by omega) w
theorem zeros208 (w : World) : ∃ Y, (Instr.makeSlice 70 (.int .i64 208) (.int .i64 208)).run Tryz.prog w = .ok (.slice (some ⟨w.heap.size, 0, none⟩) 208 208) Y ∧ (convert 70 9 (.slice (some ⟨w.heap.size, 0, none⟩) 208 208)).run Tryz.prog Y = .ok (.string (strB (zer 208))) Y ∧ Below w.heap.size w Y := zeros_made 208 (by omega) w

theorem cut6 (s : List UInt8) (h : s.length = 256) (w : World) :
    Sem.run Tryz.prog (Instr.slice 9 (.string (strB s)) (some (.int .i64 6)) (some (.int .i64 214)) none) w = .ok (.string (strB ((s.drop 6).take 208))) w := by
  have h2 : (214 : Int) ≤ ((strB s).size : Int) := by rw [strB_size]; omega
  have := run_slice_string (P := Tryz.prog) w 9 (strB s) .i64 .i64 6 214 Tryz.underlying9 (by omega) (by omega) h2
  rw [this]
  have e : (strB s).extract 6 214 = strB ((s.drop 6).take 208) := by rw [strB_extract, List.drop_take]
  exact congrArg (fun b => Result.ok (Value.string b) w) e
theorem cut4 (s : List UInt8) (h : s.length = 256) (w : World) :
    Sem.run Tryz.prog (Instr.slice 9 (.string (strB s)) none (some (.int .i64 4)) none) w = .ok (.string (strB (s.take 4))) w := by
  have h2 : (4 : Int) ≤ ((strB s).size : Int) := by rw [strB_size]; omega
  have h3 : 4 ≤ (strB s).size := by rw [strB_size]; omega
  have e : (strB s).extract 0 4 = strB (s.take 4) := by rw [strB_extract, List.drop_zero]
  simp [go_sem, h2, e]

theorem eqz_spell (a b : List UInt8) : ((strB a).toList == (strB b).toList) = (a == b) := by rw [strB_toList, strB_toList]

set_option maxRecDepth 100000 in
set_option maxHeartbeats 8000000 in
theorem rhome_calls (s : List UInt8) (no : Int) (w : World) (h0 : 0 ≤ no) (h1 : no ≤ 511) :
    Calls Tryz.prog 54 #[.string (strB s), .int .i64 no] w fun e w' => ∃ v, e = .returned (.tuple #[.string (strB v), .bool (homeB s no)]) ∧ (homeB s no = true → v = homeV s no) ∧ Below w.heap.size w w' := by
  obtain ⟨Z2, hZ2⟩ : ∃ Z, Z = zer 256 := ⟨_, rfl⟩
  obtain ⟨Z, hZ⟩ : ∃ Z, Z = zer 208 := ⟨_, rfl⟩
  have M2 := Lib.hid zeros256
  have M1 := Lib.hid zeros208
  rw [← hZ2] at M2
  rw [← hZ] at M1
  obtain ⟨Y1, m1, m2, m3⟩ := M2.out w
  obtain ⟨Y2, n1, n2, n3⟩ := M1.out Y1
  have HE := eqz_spell s Z2
  rw [hZ2] at HE
  rw [← hZ2] at HE
  have HB1 := Lib.hid m3
  have HB2 := Lib.hid (below_trans' m3 n3)
  have hs := strB_size s
  clear m3 n3 M1 M2
  cases hz : s == zer 256 with
  | true =>
    rw [hZ2, hz, ← hZ2] at HE
    have e1 : homeB s no = true := by unfold homeB; rw [hz]; rfl
    have e2 : Z = homeV s no := by unfold homeV; rw [hz, hZ]; rfl
    rw [e1]
    have E2 := Lib.hid e2
    clear e1 e2 hz hs hZ hZ2
    go_enter Tryz.func54, Tryz.ntmps54
    go_wp2_with fail
    go_ret2
    exact ⟨_, rfl, fun _ => E2.out, HB2.out⟩
  | false =>
    rw [hZ2, hz, ← hZ2] at HE
    by_cases hl : s.length = 256
    · have h256 : (strB s).size = 256 := by omega
      have hc4 := cut4 s hl
      have hc6 := cut6 s hl
      by_cases hk : s.take 4 = leafK
      · rw [hk] at hc4
        rw [show strB leafK = ⟨#[76, 69, 65, 70]⟩ from rfl] at hc4
        obtain ⟨e1, e2⟩ := home_plain h0 (show no ≤ 65535 by omega) hz hl hk
        obtain ⟨D, hD⟩ : ∃ D, D = (s.drop 6).take 208 := ⟨_, rfl⟩
        have hv : homeB s no = true → D = homeV s no := fun hb => by
          unfold homeB at hb
          rw [hz, Bool.false_or] at hb
          unfold homeV
          rw [hz, hb, e2, hD]
          rfl
        rw [← hD] at hc6 e1
        rw [e1] at hv ⊢
        have HV := Lib.hid hv
        have HL := Lib.hid (fun W => rleaf_calls no D W (by rw [hD, List.length_take]; omega))
        unfold lfV at HL
        have he := eqz_spell (leafL no D) s
        clear hv e1 e2 hD hk hz hl hs hZ hZ2 n1 n2 HB2 h0 h1
        go_enter Tryz.func54, Tryz.ntmps54
        go_wp2_with fail
        (with_reducible refine (HL.out _).mono ?_)
        rintro e w2 ⟨rfl, hB2⟩
        go_wp2_with fail
        go_ret2
        exact ⟨_, rfl, HV.out, below_trans' HB1.out hB2⟩
      · have hne : (s.take 4 == [76, 69, 65, 70]) = false := by rw [beq_eq_false_iff_ne]; exact hk
        have e1 := home_kind (no := no) hz hk
        obtain ⟨K, hK⟩ : ∃ K, K = s.take 4 := ⟨_, rfl⟩
        rw [← hK] at hc4 hne
        have ht := strB_toList K
        have hne' : ¬ K = [76, 69, 65, 70] := by rw [hK]; exact hk
        rw [e1]
        clear e1 hK hk hz hl hs hZ hZ2 n1 n2 HB2 h0 h1 hc6
        go_enter Tryz.func54, Tryz.ntmps54
        go_wp2_with fail
        go_ret2
        exact ⟨[], rfl, (fun h => by cases h), HB1.out⟩
    · have h256 : ((strB s).size == 256) = false := by rw [beq_eq_false_iff_ne, hs]; exact hl
      have h257 : (((strB s).size : Int) == 256) = false := by rw [beq_eq_false_iff_ne, hs]; omega
      have h258 : ¬ (strB s).size = 256 := by rw [hs]; exact hl
      rw [home_len hl]
      clear hz hl hs hZ hZ2 n1 n2 HB2 h0 h1
      go_enter Tryz.func54, Tryz.ntmps54
      go_wp2_with fail
      go_ret2
      exact ⟨[], rfl, (fun h => by cases h), HB1.out⟩

end Go.Proofs.YtgeiemccjionpaaGreat.Ent

/- ASame -/
namespace Go.Proofs.YtgeiemccjionpaaGreat
open Go.RowKit

theorem Sh.dec (x y : Sh) : decide (x = y) = (x.pages == y.pages && x.journal == y.journal) := by
  rw [Bool.eq_iff_iff]
  simp [Sh.eq_iff]

theorem equal23 (x y : Sh) (w : World) : (Op.equalIn 10000 29 (shV x) (shV y)).run Tryz.prog w = .ok (decide (x = y)) w := by
  unfold shV
  rw [Sh.dec]
  cases h1 : (x.pages == y.pages) with
  | false => go_simp
  | true =>
    cases h2 : (x.journal == y.journal) with
    | false => go_simp
    | true => go_simp

theorem eql23 (x y : Sh) (w : World) : (binOp .eql 29 (shV x) (shV y)).run Tryz.prog w = .ok (.bool (decide (x = y))) w := by
  have h := equal23 x y w
  unfold shV at h ⊢
  rw [run_eql_struct, h]
  rfl
theorem neq23 (x y : Sh) (w : World) : (binOp .neq 29 (shV x) (shV y)).run Tryz.prog w = .ok (.bool (!decide (x = y))) w := by
  have h := equal23 x y w
  unfold shV at h ⊢
  rw [run_neq_struct, h]
  rfl

end Go.Proofs.YtgeiemccjionpaaGreat

/- EHome -/
namespace Go.Proofs.YtgeiemccjionpaaGreat.Ent
open Go.RowKit Go.Sort
open Wire (TK TP But twoL fourL numV numS markS)
open Crc (sealB Only)

theorem noughts256 (w : World) : Calls Tryz.prog 84 #[.int .i64 256] w fun e w' => e = .returned (.string (strB (zer 256))) ∧ Below w.heap.size w w' := noughts_calls 256 w (by omega)
theorem noughts208 (w : World) : Calls Tryz.prog 84 #[.int .i64 208] w fun e w' => e = .returned (.string (strB (zer 208))) ∧ Below w.heap.size w w' := noughts_calls 208 w (by omega)
theorem first208 (l : List UInt8) (w : World) : Calls Tryz.prog 86 #[.string (strB l), .int .i64 208] w fun e w' => e = .returned (.string (strB (l.take 208))) ∧ w' = w := first_calls l 208 w (by omega)
theorem mark_leaf (b : Nat) (t : TK) (w : World) (ht : TP 118 w b t) :
    Calls Tryz.prog 85 #[.pointer (some ⟨b, 0, none⟩), .string ⟨#[76, 69, 65, 70]⟩] w fun e w' => e = .returned (.tuple #[]) ∧ TP 118 w' b (markS leafK t) ∧ But b w w' := Wire.mark_calls b leafK t w ht
theorem eqs_spell (a b : List UInt8) : ((strB a).toList == (strB b).toList) = (a == b) := by rw [strB_toList, strB_toList]
theorem home_end {s : List UInt8} {no : Int} {b : Bool} {d : List UInt8} (hd : d = homeV s no) (hb : b = homeB s no) : Ending.returned (.tuple #[.string (strB d), .bool b]) = .returned (.tuple #[.string (strB (homeV s no)), .bool (homeB s no)]) := by rw [hd, hb]

set_option maxRecDepth 100000 in
set_option maxHeartbeats 8000000 in
theorem home_calls (s : List UInt8) (no : Int) (w : World) :
    Calls Tryz.prog 62 #[.string (strB s), .int .i64 no] w fun e w' => e = .returned (.tuple #[.string (strB (homeV s no)), .bool (homeB s no)]) ∧ Below w.heap.size w w' := by
  have HE := Lib.hid (eqs_spell s (zer 256))
  go_enter Tryz.func62, Tryz.ntmps62
  go_wp2_with fail
  (with_reducible refine (noughts256 _).mono ?_)
  rintro e w1 ⟨rfl, hB1⟩
  cases hz : s == zer 256 with
  | true =>
    have hz' := HE.out.trans hz
    have e1 : true = homeB s no := by unfold homeB; rw [hz]; rfl
    have e2 : zer 208 = homeV s no := by unfold homeV; rw [hz]; rfl
    have E := Lib.hid (home_end e2 e1)
    clear e1 e2 hz
    go_wp2_with fail
    (with_reducible refine (noughts208 _).mono ?_)
    rintro e w2 ⟨rfl, hB2⟩
    go_wp2_with fail
    go_ret2
    exact ⟨E.out, below_trans' hB1 hB2⟩
  | false =>
    have hz' := HE.out.trans hz
    have HZ := Lib.hid hz
    have HT : Hid (TP 118 (w1.alloc (.cells #[.string (strB s), .bool false] 118)) w1.heap.size ⟨s, false⟩) := Lib.hid (TP.new 118 w1 s false)
    have HB : Hid (Below w.heap.size w (w1.alloc (.cells #[.string (strB s), .bool false] 118))) := Lib.hid (below_trans' hB1 (below_one _ _))
    have hw1 : w.heap.size ≤ w1.heap.size := hB1.size
    have HW := Lib.hid hw1
    clear hB1 hz hw1
    go_wp2_with fail
    (with_reducible refine (mark_leaf w1.heap.size ⟨s, false⟩ _ HT.out).mono ?_)
    rintro e w2 ⟨rfl, hT2, hB2⟩
    replace HT := Lib.hid hT2
    replace HB := Lib.hid (HB.out.trans (hB2.below HW.out HB.out.size))
    clear hT2 hB2 hz' HE
    go_wp2_with fail
    (with_reducible refine (Wire.ttwo_calls w1.heap.size no no (markS leafK ⟨s, false⟩) _ HT.out).mono ?_)
    rintro e w3 ⟨rfl, hT3, hB3⟩
    replace HT : Hid (TP 118 w3 w1.heap.size (tapeH s no)) := Lib.hid hT3
    replace HB := Lib.hid (HB.out.trans (hB3.below HW.out HB.out.size))
    clear hT3 hB3
    have t0 := HT.out.rest
    have t1 := HT.out.bad
    go_wp2_with fail
    (with_reducible refine (first208 _ _).mono ?_)
    rintro e w4 ⟨rfl, rfl⟩
    obtain ⟨D, hD⟩ : ∃ D, D = dataH s no := ⟨_, rfl⟩
    rw [show (tapeH s no).rest.take 208 = D from hD.symm]
    have HD := Lib.hid hD
    have CL := Lib.hid (fun W => leaf_calls no D W (by rw [hD]; unfold dataH; rw [List.length_take]; omega))
    unfold lfV at CL
    clear hD
    cases hb : (tapeH s no).bad with
    | true =>
      rw [hb] at t1
      have e1 : false = homeB s no := by unfold homeB; rw [HZ.out, hb]; rfl
      have e2 : [] = homeV s no := by unfold homeV; rw [HZ.out, hb]; rfl
      have E := Lib.hid (home_end e2 e1)
      clear e1 e2 hb
      go_wp2_with fail
      go_ret2
      exact ⟨E.out, HB.out⟩
    | false =>
      rw [hb] at t1
      have HBB := Lib.hid hb
      clear hb
      go_wp2_with fail
      (with_reducible refine (CL.out _).mono ?_)
      rintro e w5 ⟨rfl, hB5⟩
      have HE2 := Lib.hid (eqs_spell (leafL no D) s)
      clear CL
      cases hp : leafL no D == s with
      | true =>
        have hp' := HE2.out.trans hp
        have e1 : true = homeB s no := by unfold homeB; rw [HZ.out, HBB.out, ← HD.out, hp]; rfl
        have e2 : D = homeV s no := by unfold homeV; rw [HZ.out, HBB.out, ← HD.out, hp]; rfl
        have E := Lib.hid (home_end e2 e1)
        clear e1 e2 hp
        go_wp2_with fail
        go_ret2
        exact ⟨E.out, below_trans' HB.out hB5⟩
      | false =>
        have hp' := HE2.out.trans hp
        have e1 : false = homeB s no := by unfold homeB; rw [HZ.out, HBB.out, ← HD.out, hp]; rfl
        have e2 : [] = homeV s no := by unfold homeV; rw [HZ.out, HBB.out, ← HD.out, hp]; rfl
        have E := Lib.hid (home_end e2 e1)
        clear e1 e2 hp
        go_wp2_with fail
        go_ret2
        exact ⟨E.out, below_trans' HB.out hB5⟩

end Go.Proofs.YtgeiemccjionpaaGreat.Ent
