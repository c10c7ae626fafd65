/- The law's own examples (awake) are true. No statement is proved here. -/
import Derived.Test.YtjlcmmidbeikdaaMark
import Derived.Test.YtjlcmmidbeikdaaSome
import Derived.Test.YtjlcmmidbeikdaaRoot
import Derived.Laws.OwnMore
namespace Go.Proofs.Ytjlcmmidbeikdaa
open Go.RowKit Go.Sort

theorem info5 : (Try.prog.info? 5).map (fun i => (i.zero, i.size, i.bytes)) = some (some (.int .u8 0), 1, 1) := by kernel_rfl

theorem zerosN (n : Nat) (hn : n ≤ 1000) (w : World) : ∃ Y, (Instr.makeSlice 44 (.int .i64 (n : Nat)) (.int .i64 (n : Nat))).run Try.prog w = .ok (.slice (some ⟨w.heap.size, 0, none⟩) n n) Y ∧ Below w.heap.size w Y ∧
    (convert 44 9 (.slice (some ⟨w.heap.size, 0, none⟩) n n)).run Try.prog Y = .ok (.string (strB (List.replicate n 0))) Y := by
  obtain ⟨i1, hi, hz0, hz1, hz2⟩ := info_parts info5
  obtain ⟨Y, hr, ho, hg⟩ := run_make_full (P := Try.prog) w w.heap.size 44 5 i1 (.int .u8 0) 1 Try.underlying44 hi hz0 hz1 .i64 .i64 n (by rw [hz2]; omega) (Nat.le_trans hn (by decide)) (Nat.le_refl _)
  refine ⟨Y, hr, ⟨hg.os, hg.tape, hg.output, hg.size, fun k hk => hg.block k hk (by simp)⟩, ?_⟩
  have key := run_convert_bytes_back Y 44 9 5 ⟨w.heap.size, 0, none⟩ n (List.replicate n 0) Try.underlying44 Try.underlying5 Try.underlying9 fun j hj => by
    have hp : (⟨w.heap.size, 0, none⟩ : Addr).add j = ⟨w.heap.size, j, none⟩ := by unfold Addr.add; split <;> simp_all
    rw [hp]
    rcases ho.2 with ⟨h0, _⟩ | ⟨g, cap, cur, h0, _, hgb, _, _, hcs, ht⟩
    · cases h0
    · injection h0 with h1 h2 h3
      injection h1 with h4
      injection h4 with h5
      subst h5
      rw [cell_of_row _ _ _ _ _ _ hgb]
      have hj' : j < n := by simpa using hj
      have e : (cur.toList.take (n * 1))[j]? = (madeCells #[Value.int .u8 0] (n * 1)).toList[j]? := by rw [ht]; rfl
      rw [List.getElem?_take, if_pos (by omega), toList_madeCells_one, List.getElem?_replicate, if_pos (by omega)] at e
      simpa using e
  rw [List.length_replicate] at key
  exact key
theorem zeros (w : World) : ∃ Y, (Instr.makeSlice 44 (.int .i64 208) (.int .i64 208)).run Try.prog w = .ok (.slice (some ⟨w.heap.size, 0, none⟩) 208 208) Y ∧ Below w.heap.size w Y ∧
    (convert 44 9 (.slice (some ⟨w.heap.size, 0, none⟩) 208 208)).run Try.prog Y = .ok (.string (strB (List.replicate 208 0))) Y := zerosN 208 (by omega) w

/-- The example's bytes. -/
def M : List UInt8 := markL (List.replicate 208 0) true [(0, 1), (9, 2)]
theorem M_len : M.length = 208 := markL_len _ _ _
theorem M_0 : M.getD 0 0 = 128 := by kernel_rfl
theorem M_1 : M.getD 1 0 = 96 := by kernel_rfl
theorem M_t9 : tkI M 9 = true := by kernel_rfl
theorem M_t8 : tkI M 8 = false := by kernel_rfl
theorem M_free : freeN M (capN 20) = 17 := by kernel_rfl
theorem M_s8 : sideV M 20 8 = (1, 8) := by kernel_rfl
theorem M_b8 : sideB M 20 8 = true := by kernel_rfl
theorem M_b10 : sideB M 20 10 = false := by kernel_rfl
theorem M_v10 : someV M 20 10 = [(1, 8), (11, 2)] := by kernel_rfl
theorem M_o10 : someB M 20 10 = true := by kernel_rfl
theorem M_o18 : someB M 20 18 = false := by kernel_rfl
theorem M_r : rootN M = 0 := by kernel_rfl
theorem M_r3 : rootN (setR M 300) = 300 := rootN_set M 300 (by rw [M_len]; omega) (by omega)
theorem M_9 : tkI (markL M false [(9, 1)]) 9 = false := by kernel_rfl

/-- The bytes that the example begins with. -/
def Z0 : List UInt8 := List.replicate 208 0
theorem Z0_len : Z0.length = 208 := List.length_replicate

theorem Sps.two (w : World) (a b c d : Int) : Sps (w.alloc (.cells #[.int .i64 a, .int .i64 b, .int .i64 c, .int .i64 d] 26)) (.slice (some ⟨w.heap.size, 0, none⟩) 2 2) [(a, b), (c, d)] := by
  refine ⟨_, _, rfl, Nat.le_refl _, fun _ => ⟨w.heap.size, 0, rfl, by simp, fun j x hj => ?_⟩⟩
  rw [cell_of_row _ _ _ _ _ _ (heap_alloc_new w _), cell_of_row _ _ _ _ _ _ (heap_alloc_new w _)]
  match j, hj with
  | 0, hj => obtain rfl : (a, b) = x := by simpa using hj
             exact ⟨rfl, rfl⟩
  | 1, hj => obtain rfl : (c, d) = x := by simpa using hj
             exact ⟨rfl, rfl⟩

theorem ret_tup {a b : Value} {p q : Bool} (h : a = b) (k : p = q) : Ending.returned (.tuple #[a, .bool p]) = .returned (.tuple #[b, .bool q]) := by rw [h, k]

theorem M_few : M.length ≤ 300 := by rw [M_len]; omega
theorem aw_side8 (w : World) : Calls Try.prog 8 #[.string (strB M), .int .i64 20, .int .i64 8] w fun e w' => e = .returned (.tuple #[.agg #[.int .i64 1, .int .i64 8], .bool true]) ∧ Below w.heap.size w w' := by
  have h := side_calls M 20 8 w M_few (by omega)
  rw [M_s8, M_b8] at h
  exact h
theorem aw_side10 (w : World) : Calls Try.prog 8 #[.string (strB M), .int .i64 20, .int .i64 10] w fun e w' => ∃ a b : Int, e = .returned (.tuple #[.agg #[.int .i64 a, .int .i64 b], .bool false]) ∧ Below w.heap.size w w' := by
  have h := side_calls M 20 10 w M_few (by omega)
  rw [M_b10] at h
  exact h.mono fun e w' hh => ⟨_, _, hh.1, hh.2⟩
theorem aw_some10 (w : World) : Calls Try.prog 10 #[.string (strB M), .int .i64 20, .int .i64 10] w fun e w' => ∃ A c, e = .returned (.tuple #[.slice A 2 c, .bool true]) ∧ Sps w' (.slice A 2 c) [(1, 8), (11, 2)] ∧ Below w.heap.size w w' := by
  have h := some_calls M 20 10 w M_few (by omega)
  rw [M_o10, M_v10] at h
  refine h.mono fun e w' hh => ?_
  obtain ⟨v, he, ho, hb⟩ := hh
  obtain ⟨A, c, hv⟩ := ho.sps.form
  subst hv
  exact ⟨A, c, he, ho.sps, hb⟩
theorem aw_some18 (w : World) : Calls Try.prog 10 #[.string (strB M), .int .i64 20, .int .i64 18] w fun e w' => ∃ v, e = .returned (.tuple #[v, .bool false]) ∧ Below w.heap.size w w' := by
  have h := some_calls M 20 18 w M_few (by omega)
  rw [M_o18] at h
  refine h.mono fun e w' hh => ?_
  obtain ⟨v, he, ho, hb⟩ := hh
  exact ⟨v, he, hb⟩
theorem aw_taken9 (w : World) : Calls Try.prog 12 #[.string (strB M), .int .i64 9] w fun e w' => e = .returned (.bool true) ∧ Below w.heap.size w w' := by
  have h := taken_calls M 9 w M_few
  rw [M_t9] at h
  exact h
theorem aw_taken8 (w : World) : Calls Try.prog 12 #[.string (strB M), .int .i64 8] w fun e w' => e = .returned (.bool false) ∧ Below w.heap.size w w' := by
  have h := taken_calls M 8 w M_few
  rw [M_t8] at h
  exact h
theorem aw_free (w : World) : Calls Try.prog 16 #[.string (strB M), .int .i64 20] w fun e w' => e = .returned (.int .i64 17) ∧ Below w.heap.size w w' := by
  have h := free_calls M 20 w M_few
  rw [M_free] at h
  exact h
theorem aw_set (w : World) : Calls Try.prog 21 #[.string (strB M), .int .i64 300] w fun e w' => e = .returned (.string (strB (setR M 300))) ∧ Below w.heap.size w w' := setRoot_calls M 300 w M_few
theorem aw_root3 (w : World) : Calls Try.prog 19 #[.string (strB (setR M 300))] w fun e w' => e = .returned (.int .i64 300) ∧ Below w.heap.size w w' := by
  have h := root_calls (setR M 300) w (by rw [setR_len]; exact M_few)
  rw [M_r3] at h
  exact h
theorem aw_root (w : World) : Calls Try.prog 19 #[.string (strB M)] w fun e w' => e = .returned (.int .i64 0) ∧ Below w.heap.size w w' := by
  have h := root_calls M w M_few
  rw [M_r] at h
  exact h
theorem aw_taken (w : World) : Calls Try.prog 12 #[.string (strB (markL M false [(9, 1)])), .int .i64 9] w fun e w' => e = .returned (.bool false) ∧ Below w.heap.size w w' := by
  have h := taken_calls (markL M false [(9, 1)]) 9 w (by rw [markL_len]; exact M_few)
  rw [M_9] at h
  exact h

set_option maxRecDepth 100000 in
set_option maxHeartbeats 4000000 in
theorem awake_true (w : World) : Calls Try.prog 7 #[] w fun e w' => e = .returned (.bool true) ∧ Below w.heap.size w w' := by
  obtain ⟨Y, hmk, hBY, hcv⟩ := zeros w
  have HBY := Lib.hid hBY
  rw [show List.replicate 208 (0 : UInt8) = Z0 from rfl] at hcv
  have HM : Hid (markL Z0 true [(0, 1), (9, 2)] = M) := Lib.hid rfl
  have hml := M_len
  have hms := strB_size M
  rw [hml] at hms
  have HL : Hid (M.length ≤ 300) := Lib.hid (by rw [hml]; omega)
  clear hBY hml
  have i0 : ∀ W, (Instr.index 9 (.string (strB M)) (.int .i64 0)).run Try.prog W = .ok (.int .u8 128) W := fun W => by
    have := ix_run M 0 (by rw [M_len]; omega) W
    rw [M_0] at this
    exact this
  have i1 : ∀ W, (Instr.index 9 (.string (strB M)) (.int .i64 1)).run Try.prog W = .ok (.int .u8 96) W := fun W => by
    have := ix_run M 1 (by rw [M_len]; omega) W
    rw [M_1] at this
    exact this
  go_enter Try.func7, Try.ntmps7
  go_wp2_with fail
  (with_reducible refine (mark_calls Z0 true [(0, 1), (9, 2)] _ _ _ _ (by rw [Z0_len]; omega) (Sps.two _ 0 1 9 2) (by omega) (by decide)).mono ?_)
  rintro e w1 ⟨rfl, hB1⟩
  rw [HM.out]
  have HB := Lib.hid (below_trans2 HBY.out (below_trans2 (below_one _ _) hB1))
  clear hB1 hmk hcv
  go_wp2_with fail
  (with_reducible refine (aw_side8 _).mono ?_)
  rintro e w2 ⟨rfl, hB2⟩
  replace HB := Lib.hid (below_trans2 HB.out hB2)
  clear hB2
  go_wp2_with fail
  (with_reducible refine (aw_side10 _).mono ?_)
  rintro e w3 ⟨a, b, rfl, hB3⟩
  have HX := Lib.hid ((SBox.new w2 (1, 8)).below hB3)
  replace HB := Lib.hid (below_trans2 HB.out (below_trans2 (below_one _ _) hB3))
  clear hB3
  go_wp2_with fail
  (with_reducible refine (aw_some10 _).mono ?_)
  rintro e w4 ⟨A, c, rfl, hS, hB4⟩
  replace HX := Lib.hid (HX.out.below (below_trans2 (below_one _ _) hB4))
  replace HB := Lib.hid (below_trans2 HB.out (below_trans2 (below_one _ _) hB4))
  have HS := Lib.hid hS
  clear hB4 hS
  go_wp2_with fail
  (with_reducible refine (aw_some18 _).mono ?_)
  rintro e w5 ⟨v, rfl, hB5⟩
  replace HX := Lib.hid (HX.out.below hB5)
  replace HB := Lib.hid (below_trans2 HB.out hB5)
  replace HS := Lib.hid (HS.out.below hB5)
  clear hB5
  go_wp2_with fail
  (with_reducible refine (aw_taken9 _).mono ?_)
  rintro e w6 ⟨rfl, hB6⟩
  replace HX := Lib.hid (HX.out.below hB6)
  replace HB := Lib.hid (below_trans2 HB.out hB6)
  replace HS := Lib.hid (HS.out.below hB6)
  clear hB6
  go_wp2_with fail
  (with_reducible refine (aw_taken8 _).mono ?_)
  rintro e w7 ⟨rfl, hB7⟩
  replace HX := Lib.hid (HX.out.below hB7)
  replace HB := Lib.hid (below_trans2 HB.out hB7)
  replace HS := Lib.hid (HS.out.below hB7)
  clear hB7
  go_wp2_with fail
  (with_reducible refine (aw_free _).mono ?_)
  rintro e w8 ⟨rfl, hB8⟩
  have c0 := (HX.out.below hB8).c0
  have c1 := (HX.out.below hB8).c1
  obtain ⟨g, off, rfl, hgl, hc⟩ := (HS.out.below hB8).at_.2.2 (by omega)
  have d0 := (hc 1 (11, 2) rfl).1
  have d1 := (hc 1 (11, 2) rfl).2
  rw [show off + 1 * 2 = off + 2 by omega] at d0
  rw [show off + 1 * 2 + 1 = off + 2 + 1 by omega] at d1
  replace HB := Lib.hid (below_trans2 HB.out hB8)
  clear hB8 hc
  go_wp2_with fail
  clear c0 c1 d0 d1
  (with_reducible refine (aw_set _).mono ?_)
  rintro e w9 ⟨rfl, hB9⟩
  replace HB := Lib.hid (below_trans2 HB.out hB9)
  clear hB9
  go_wp2_with fail
  (with_reducible refine (aw_root3 _).mono ?_)
  rintro e w10 ⟨rfl, hB9⟩
  replace HB := Lib.hid (below_trans2 HB.out hB9)
  clear hB9
  go_wp2_with fail
  (with_reducible refine (aw_root _).mono ?_)
  rintro e w11 ⟨rfl, hB9⟩
  replace HB := Lib.hid (below_trans2 HB.out hB9)
  clear hB9
  go_wp2_with fail
  (with_reducible refine (mark_calls M false [(9, 1)] _ _ _ _ M_few (Sps.new _ 9 1) (by omega) (by decide)).mono ?_)
  rintro e w12 ⟨rfl, hB9⟩
  replace HB := Lib.hid (below_trans2 HB.out (below_trans2 (below_one _ _) hB9))
  clear hB9
  go_wp2_with fail
  (with_reducible refine (aw_taken _).mono ?_)
  rintro e w13 ⟨rfl, hB9⟩
  replace HB := Lib.hid (below_trans2 HB.out hB9)
  clear hB9
  go_wp2_with fail
  go_ret
  exact ⟨rfl, HB.out⟩
end Go.Proofs.Ytjlcmmidbeikdaa
