/- The law's own examples answer true. No statement is proved here. -/
import Derived.Test.YtkfjbhikibidiaaREx
namespace Go.Proofs.Ytkfjbhikibidiaa
open Go.RowKit

theorem aw_x (w : World) : Calls Try.prog 9 #[.string ⟨#[120]⟩] w fun e w' => ∃ A n c, e = .returned (.tuple #[recV zeroR (.slice A n c), .bool false]) ∧ Below w.heap.size w w' := none_calls [120] (by decide) x_none w
theorem aw_mark (w : World) : Calls Try.prog 8 #[.agg #[.string ⟨#[97]⟩, .int .i64 1, .int .i64 0, .bool true, .string ⟨#[]⟩, .string ⟨#[]⟩, .string ⟨#[]⟩, .int .i64 0, .slice none 0 0]] w fun e w' => e = .returned (.string (strB (printL markR))) ∧ Below w.heap.size w w' := print_calls markR none 0 0 w (Sps.nil w) (by omega)

theorem some_long : 4 ≤ (strB (printL someR)).size := by rw [strB_size]; have := (right_len some_right).1; omega
theorem some_kind : (((strB (printL someR)).extract 0 4).toList == (⟨#[79, 66, 74, 50]⟩ : ByteArray).toList) = true := by
  rw [strB_extract, strB_toList, List.drop_zero, show (⟨#[79, 66, 74, 50]⟩ : ByteArray) = strB kindL from rfl, strB_toList, show (printL someR).take 4 = kindL from rfl]
  rfl

/-- What the examples have laid. -/
structure AW (w W : World) (b1 b5 b6 b8 : Nat) (A1 A6 A8 : Option Addr) (n1 c1 n6 c6 c8 : Nat) : Prop where
  x1 : RBox W b1 someR (.slice A1 n1 c1)
  s1 : Sps W (.slice A1 n1 c1) someR.spans
  x5 : RBox W b5 markR (.slice none 0 0)
  x6 : RBox W b6 markR (.slice A6 n6 c6)
  s6 : Sps W (.slice A6 n6 c6) markR.spans
  x8 : RBox W b8 shortR (.slice A8 1 c8)
  s8 : Sps W (.slice A8 1 c8) shortR.spans
  below : Below w.heap.size w W

theorem AW.more {w W W' : World} {b1 b5 b6 b8 : Nat} {A1 A6 A8 : Option Addr} {n1 c1 n6 c6 c8 : Nat} (h : AW w W b1 b5 b6 b8 A1 A6 A8 n1 c1 n6 c6 c8) (hb : Below W.heap.size W W') : AW w W' b1 b5 b6 b8 A1 A6 A8 n1 c1 n6 c6 c8 :=
  ⟨h.x1.below hb, h.s1.below hb, h.x5.below hb, h.x6.below hb, h.s6.below hb, h.x8.below hb, h.s8.below hb, below_trans' h.below hb⟩

set_option maxRecDepth 100000 in
set_option maxHeartbeats 8000000 in
theorem awake_true (w : World) : Calls Try.prog 7 #[] w fun e w' => e = .returned (.bool true) ∧ Below w.heap.size w w' := by
  go_enter Try.func7, Try.ntmps7
  go_wp2_with fail
  with_reducible refine (some_calls _).mono ?_
  rintro e w1 ⟨A, c, rfl, hS, hB1⟩
  go_wp2_with fail
  with_reducible refine (print_calls someR A 1 c _ hS (by omega)).mono ?_
  rintro e w2 ⟨rfl, hB2⟩
  go_wp2_with fail
  with_reducible refine (back_calls someR some_right _).mono ?_
  rintro e w3 ⟨A1, n1, c1, rfl, hS1, hB3⟩
  have HX1 := Lib.hid (RBox.new w3 someR (.slice A1 n1 c1))
  have HS1 := Lib.hid (hS1.below (below_one w3 (.cells (recC someR (.slice A1 n1 c1)) 26)))
  have HB := Lib.hid (below_trans' (below_trans' (below_trans' hB1 hB2) hB3) (below_one w3 (.cells (recC someR (.slice A1 n1 c1)) 26)))
  clear hS hB1 hB2 hS1 hB3
  unfold recC at HX1 HS1 HB
  unfold recV
  go_wp2_with fail
  with_reducible refine (aw_x _).mono ?_
  rintro e w4 ⟨A3, n3, c3, rfl, hB4⟩
  replace HX1 := Lib.hid (RBox.below (r := someR) HX1.out hB4)
  replace HS1 := Lib.hid (HS1.out.below hB4)
  replace HB := Lib.hid (below_trans' HB.out hB4)
  clear hB4
  unfold recV
  obtain ⟨Y5, hY5, hX5, hB5⟩ : ∃ Y, Y = (w4.alloc (.cells #[.string (strB zeroR.it.key), .int .i64 zeroR.it.seq, .int .i64 zeroR.it.ver, .bool zeroR.it.mark, .string (strB zeroR.it.mt), .string (strB zeroR.it.tag), .string (strB zeroR.it.body), .int .i64 zeroR.size, .slice A3 n3 c3] 26)).alloc (.cells #[.string ⟨#[97]⟩, .int .i64 1, .int .i64 0, .bool true, .string ⟨#[]⟩, .string ⟨#[]⟩, .string ⟨#[]⟩, .int .i64 0, .slice none 0 0] 26) ∧ RBox Y (w4.heap.size + 1) markR (.slice none 0 0) ∧ Below w4.heap.size w4 Y := by
    refine ⟨_, rfl, ?_, below_trans' (below_one _ _) (below_one _ _)⟩
    have := RBox.new (w4.alloc (.cells (recC zeroR (.slice A3 n3 c3)) 26)) markR (.slice none 0 0)
    rw [show (w4.alloc (.cells (recC zeroR (.slice A3 n3 c3)) 26)).heap.size = w4.heap.size + 1 by simp] at this
    exact this
  have HY5 := Lib.hid hY5
  have HX5 := Lib.hid hX5
  replace HX1 := Lib.hid (HX1.out.below hB5)
  replace HS1 := Lib.hid (HS1.out.below hB5)
  replace HB := Lib.hid (below_trans' HB.out hB5)
  clear hY5 hX5 hB5
  go_wp2_with fail
  rw [← HY5.out]
  clear HY5
  with_reducible refine (aw_mark _).mono ?_
  rintro e w5 ⟨rfl, hB5⟩
  replace HX1 := Lib.hid (HX1.out.below hB5)
  replace HS1 := Lib.hid (HS1.out.below hB5)
  replace HX5 := Lib.hid (HX5.out.below hB5)
  replace HB := Lib.hid (below_trans' HB.out hB5)
  clear hB5
  go_wp2_with fail
  with_reducible refine (back_calls markR mark_right _).mono ?_
  rintro e w6 ⟨A6, n6, c6, rfl, hS6, hB6⟩
  have HX6 := Lib.hid (RBox.new w6 markR (.slice A6 n6 c6))
  have HS6 := Lib.hid (hS6.below (below_one w6 (.cells (recC markR (.slice A6 n6 c6)) 26)))
  have hB6' := below_trans' hB6 (below_one w6 (.cells (recC markR (.slice A6 n6 c6)) 26))
  replace HX1 := Lib.hid (HX1.out.below hB6')
  replace HS1 := Lib.hid (HS1.out.below hB6')
  replace HX5 := Lib.hid (HX5.out.below hB6')
  replace HB := Lib.hid (below_trans' HB.out hB6')
  clear hS6 hB6 hB6'
  unfold recC at HX1 HS1 HB HX5 HX6 HS6
  unfold recV
  go_wp2_with fail
  with_reducible refine (some_calls _).mono ?_
  rintro e w7 ⟨A, c, rfl, hS, hB7⟩
  replace HX1 := Lib.hid (HX1.out.below hB7)
  replace HS1 := Lib.hid (HS1.out.below hB7)
  replace HX5 := Lib.hid (HX5.out.below hB7)
  replace HX6 := Lib.hid (RBox.below (r := markR) HX6.out hB7)
  replace HS6 := Lib.hid (HS6.out.below hB7)
  replace HB := Lib.hid (below_trans' HB.out hB7)
  clear hS hB7
  -- SCRIPT
  obtain ⟨Y8, hY8, hX8, hS8, hB8⟩ : ∃ Y, Y = (w7.alloc (.cells #[.string (strB someR.it.key), .int .i64 someR.it.seq, .int .i64 someR.it.ver, .bool someR.it.mark, .string (strB someR.it.mt), .string (strB someR.it.tag), .string (strB someR.it.body), .int .i64 someR.size, .slice (some ⟨w7.heap.size + 1, 0, none⟩) 1 1] 26)).alloc (.cells #[.int .i64 9, .int .i64 1] 41) ∧ RBox Y w7.heap.size shortR (.slice (some ⟨w7.heap.size + 1, 0, none⟩) 1 1) ∧ Sps Y (.slice (some ⟨w7.heap.size + 1, 0, none⟩) 1 1) shortR.spans ∧ Below w7.heap.size w7 Y := by
    refine ⟨_, rfl, (RBox.new w7 shortR (.slice (some ⟨w7.heap.size + 1, 0, none⟩) 1 1)).below (below_one _ _), ?_, below_trans' (below_one _ _) (below_one _ _)⟩
    have hs := Sps.new (w7.alloc (.cells (recC shortR (.slice (some ⟨w7.heap.size + 1, 0, none⟩) 1 1)) 26)) 9 1
    rw [show (w7.alloc (.cells (recC shortR (.slice (some ⟨w7.heap.size + 1, 0, none⟩) 1 1)) 26)).heap.size = w7.heap.size + 1 by simp] at hs
    exact hs
  have HAW : Hid (AW w Y8.drew w3.heap.size (w4.heap.size + 1) w6.heap.size w7.heap.size A1 A6 (some ⟨w7.heap.size + 1, 0, none⟩) n1 c1 n6 c6 1) := Lib.hid ((AW.mk (HX1.out.below hB8) (HS1.out.below hB8) (HX5.out.below hB8) (HX6.out.below hB8) (HS6.out.below hB8) hX8 hS8 (below_trans' HB.out hB8)).more (bdrew (Below.refl _ _)))
  have hn1 : n1 ≤ 1000 := by have := HS1.out.at_.1; rw [← this]; decide
  have hn6 : n6 ≤ 1000 := by have := HS6.out.at_.1; rw [← this]; decide
  have HY8 := Lib.hid hY8
  clear hY8 hX8 hS8 hB8 HX1 HS1 HX5 HX6 HS6 HB
  unfold recV
  go_wp2_with fail
  rw [← HY8.out]
  clear HY8
  refine region_start (S := fun W => AW w W w3.heap.size (w4.heap.size + 1) w6.heap.size w7.heap.size A1 A6 (some ⟨w7.heap.size + 1, 0, none⟩) n1 c1 n6 c6 1) (by kernel_rfl) (by kernel_rfl) 38 #[false, false, false, false, false, false, false, false, false, false, false, false, false, false, false, false, false, false, false, false, false, false, false, false, false, false, false, false, false, false, false, false, false, false, false, false, false, false] rfl rfl HAW.out (fun hsel => ?_)
  have hS := HAW.out
  refine take_call 0 31 14 #[] rfl rfl (by kernel_rfl) (rfl) rfl enters14 (Array.map_empty) ?_
  refine (some_calls _).mono ?_
  rintro e y0 ⟨Aa, ca, rfl, hSa, hB⟩
  refine ⟨_, rfl, hS.more hB, ?_⟩
  replace hS := hS.more hB
  clear hB
  simp only [Act.put, List.setIfInBounds_toArray, List.set_cons_zero, List.set_cons_succ]
  refine take_call 1 32 6 #[recV someR (.slice Aa 1 ca)] rfl rfl (by kernel_rfl) (rfl) rfl enters6 (by simp only [List.map_toArray, List.map_cons, List.map_nil]; rfl) ?_
  refine (right_calls someR Aa 1 ca _ hSa (by omega)).mono ?_
  rintro e y1 ⟨rfl, hB⟩
  rw [some_right]
  refine ⟨_, rfl, hS.more hB, ?_⟩
  replace hS := hS.more hB
  clear hB
  simp only [Act.put, List.setIfInBounds_toArray, List.set_cons_zero, List.set_cons_succ]
  clear hSa
  refine take_yes 2 33 (.bool true) rfl rfl hsel (by kernel_rfl) (by kernel_rfl) (fun _ _ _ h => h) (rfl) (fun W hW => ex_move rfl rfl) hS ?_
  simp only [Act.put, List.setIfInBounds_toArray, List.set_cons_zero, List.set_cons_succ]
  refine take_yes 3 34 (.bool true) rfl rfl hsel (by kernel_rfl) (by kernel_rfl) (fun _ _ _ h => h) (want_yes rfl rfl rfl (by simp only [List.getElem?_toArray, List.getElem?_cons_succ, List.getElem?_cons_zero])) (fun W hW => ex_move rfl rfl) hS ?_
  simp only [Act.put, List.setIfInBounds_toArray, List.set_cons_zero, List.set_cons_succ]
  refine take_yes 4 35 (.bool true) rfl rfl hsel (by kernel_rfl) (by kernel_rfl) (fun _ _ _ h => h) (rfl) (fun W hW => ex_pick rfl rfl rfl rfl rfl) hS ?_
  simp only [Act.put, List.setIfInBounds_toArray, List.set_cons_zero, List.set_cons_succ]
  refine take_yes 5 36 (.bool true) rfl rfl hsel (by kernel_rfl) (by kernel_rfl) (fun _ _ _ h => h) (rfl) (fun W hW => ex_move rfl rfl) hS ?_
  simp only [Act.put, List.setIfInBounds_toArray, List.set_cons_zero, List.set_cons_succ]
  refine take_yes 6 37 (recV someR (.slice A1 n1 c1)) rfl rfl hsel (by kernel_rfl) (by kernel_rfl) (fun _ _ _ h => h) (want_yes rfl rfl rfl (by simp only [List.getElem?_toArray, List.getElem?_cons_succ, List.getElem?_cons_zero])) (fun W hW => ex_load26 rfl rfl hW.x1) hS ?_
  simp only [Act.put, List.setIfInBounds_toArray, List.set_cons_zero, List.set_cons_succ]
  refine take_call 7 38 14 #[] rfl rfl (by kernel_rfl) (want_yes rfl rfl rfl (by simp only [List.getElem?_toArray, List.getElem?_cons_succ, List.getElem?_cons_zero])) rfl enters14 (Array.map_empty) ?_
  refine (some_calls _).mono ?_
  rintro e y7 ⟨Ab, cb, rfl, hSb, hB⟩
  refine ⟨_, rfl, hS.more hB, ?_⟩
  replace hS := hS.more hB
  clear hB
  simp only [Act.put, List.setIfInBounds_toArray, List.set_cons_zero, List.set_cons_succ]
  refine take_call 8 39 10 #[recV someR (.slice A1 n1 c1), recV someR (.slice Ab 1 cb)] rfl rfl (by kernel_rfl) (want_yes rfl rfl rfl (by simp only [List.getElem?_toArray, List.getElem?_cons_succ, List.getElem?_cons_zero])) rfl enters10 (by simp only [List.map_toArray, List.map_cons, List.map_nil]; rfl) ?_
  refine (same_calls someR someR A1 n1 c1 Ab 1 cb _ hS.s1 hSb hn1).mono ?_
  rintro e y8 ⟨rfl, hB⟩
  rw [decide_eq_true (rfl : someR = someR)]
  refine ⟨_, rfl, hS.more hB, ?_⟩
  replace hS := hS.more hB
  clear hB
  simp only [Act.put, List.setIfInBounds_toArray, List.set_cons_zero, List.set_cons_succ]
  clear hSb
  refine take_yes 9 40 (.bool true) rfl rfl hsel (by kernel_rfl) (by kernel_rfl) (fun _ _ _ h => h) (rfl) (fun W hW => ex_pick rfl rfl rfl rfl rfl) hS ?_
  simp only [Act.put, List.setIfInBounds_toArray, List.set_cons_zero, List.set_cons_succ]
  refine take_yes 10 41 (.bool true) rfl rfl hsel (by kernel_rfl) (by kernel_rfl) (fun _ _ _ h => h) (rfl) (fun W hW => ex_move rfl rfl) hS ?_
  simp only [Act.put, List.setIfInBounds_toArray, List.set_cons_zero, List.set_cons_succ]
  refine take_yes 11 42 (.bool false) rfl rfl hsel (by kernel_rfl) (by kernel_rfl) (fun _ _ _ h => h) (want_yes rfl rfl rfl (by simp only [List.getElem?_toArray, List.getElem?_cons_succ, List.getElem?_cons_zero])) (fun W hW => ex_move rfl rfl) hS ?_
  simp only [Act.put, List.setIfInBounds_toArray, List.set_cons_zero, List.set_cons_succ]
  refine take_yes 12 43 (.bool true) rfl rfl hsel (by kernel_rfl) (by kernel_rfl) (fun _ _ _ h => h) (want_yes rfl rfl rfl (by simp only [List.getElem?_toArray, List.getElem?_cons_succ, List.getElem?_cons_zero])) (fun W hW => ex_not (b := false) rfl rfl) hS ?_
  simp only [Act.put, List.setIfInBounds_toArray, List.set_cons_zero, List.set_cons_succ]
  refine take_yes 13 44 (.bool true) rfl rfl hsel (by kernel_rfl) (by kernel_rfl) (fun _ _ _ h => h) (rfl) (fun W hW => ex_pick rfl rfl rfl rfl rfl) hS ?_
  simp only [Act.put, List.setIfInBounds_toArray, List.set_cons_zero, List.set_cons_succ]
  refine take_yes 14 45 (.bool true) rfl rfl hsel (by kernel_rfl) (by kernel_rfl) (fun _ _ _ h => h) (rfl) (fun W hW => ex_move rfl rfl) hS ?_
  simp only [Act.put, List.setIfInBounds_toArray, List.set_cons_zero, List.set_cons_succ]
  refine take_yes 15 46 (recV markR (.slice none 0 0)) rfl rfl hsel (by kernel_rfl) (by kernel_rfl) (fun _ _ _ h => h) (want_yes rfl rfl rfl (by simp only [List.getElem?_toArray, List.getElem?_cons_succ, List.getElem?_cons_zero])) (fun W hW => ex_load26 rfl rfl hW.x5) hS ?_
  simp only [Act.put, List.setIfInBounds_toArray, List.set_cons_zero, List.set_cons_succ]
  refine take_call 16 47 6 #[recV markR (.slice none 0 0)] rfl rfl (by kernel_rfl) (want_yes rfl rfl rfl (by simp only [List.getElem?_toArray, List.getElem?_cons_succ, List.getElem?_cons_zero])) rfl enters6 (by simp only [List.map_toArray, List.map_cons, List.map_nil]; rfl) ?_
  refine (right_calls markR none 0 0 _ (Sps.nil _) (by omega)).mono ?_
  rintro e y16 ⟨rfl, hB⟩
  rw [mark_right]
  refine ⟨_, rfl, hS.more hB, ?_⟩
  replace hS := hS.more hB
  clear hB
  simp only [Act.put, List.setIfInBounds_toArray, List.set_cons_zero, List.set_cons_succ]
  refine take_yes 17 48 (.bool true) rfl rfl hsel (by kernel_rfl) (by kernel_rfl) (fun _ _ _ h => h) (rfl) (fun W hW => ex_pick rfl rfl rfl rfl rfl) hS ?_
  simp only [Act.put, List.setIfInBounds_toArray, List.set_cons_zero, List.set_cons_succ]
  refine take_yes 18 49 (.bool true) rfl rfl hsel (by kernel_rfl) (by kernel_rfl) (fun _ _ _ h => h) (rfl) (fun W hW => ex_move rfl rfl) hS ?_
  simp only [Act.put, List.setIfInBounds_toArray, List.set_cons_zero, List.set_cons_succ]
  refine take_yes 19 50 (.bool true) rfl rfl hsel (by kernel_rfl) (by kernel_rfl) (fun _ _ _ h => h) (want_yes rfl rfl rfl (by simp only [List.getElem?_toArray, List.getElem?_cons_succ, List.getElem?_cons_zero])) (fun W hW => ex_move rfl rfl) hS ?_
  simp only [Act.put, List.setIfInBounds_toArray, List.set_cons_zero, List.set_cons_succ]
  refine take_yes 20 51 (.bool true) rfl rfl hsel (by kernel_rfl) (by kernel_rfl) (fun _ _ _ h => h) (rfl) (fun W hW => ex_pick rfl rfl rfl rfl rfl) hS ?_
  simp only [Act.put, List.setIfInBounds_toArray, List.set_cons_zero, List.set_cons_succ]
  refine take_yes 21 52 (.bool true) rfl rfl hsel (by kernel_rfl) (by kernel_rfl) (fun _ _ _ h => h) (rfl) (fun W hW => ex_move rfl rfl) hS ?_
  simp only [Act.put, List.setIfInBounds_toArray, List.set_cons_zero, List.set_cons_succ]
  refine take_yes 22 53 (recV markR (.slice A6 n6 c6)) rfl rfl hsel (by kernel_rfl) (by kernel_rfl) (fun _ _ _ h => h) (want_yes rfl rfl rfl (by simp only [List.getElem?_toArray, List.getElem?_cons_succ, List.getElem?_cons_zero])) (fun W hW => ex_load26 rfl rfl hW.x6) hS ?_
  simp only [Act.put, List.setIfInBounds_toArray, List.set_cons_zero, List.set_cons_succ]
  refine take_yes 23 54 (recV markR (.slice none 0 0)) rfl rfl hsel (by kernel_rfl) (by kernel_rfl) (fun _ _ _ h => h) (want_yes rfl rfl rfl (by simp only [List.getElem?_toArray, List.getElem?_cons_succ, List.getElem?_cons_zero])) (fun W hW => ex_load26 rfl rfl hW.x5) hS ?_
  simp only [Act.put, List.setIfInBounds_toArray, List.set_cons_zero, List.set_cons_succ]
  refine take_call 24 55 10 #[recV markR (.slice A6 n6 c6), recV markR (.slice none 0 0)] rfl rfl (by kernel_rfl) (want_yes rfl rfl rfl (by simp only [List.getElem?_toArray, List.getElem?_cons_succ, List.getElem?_cons_zero])) rfl enters10 (by simp only [List.map_toArray, List.map_cons, List.map_nil]; rfl) ?_
  refine (same_calls markR markR A6 n6 c6 none 0 0 _ hS.s6 (Sps.nil _) hn6).mono ?_
  rintro e y24 ⟨rfl, hB⟩
  rw [decide_eq_true (rfl : markR = markR)]
  refine ⟨_, rfl, hS.more hB, ?_⟩
  replace hS := hS.more hB
  clear hB
  simp only [Act.put, List.setIfInBounds_toArray, List.set_cons_zero, List.set_cons_succ]
  refine take_yes 25 56 (.bool true) rfl rfl hsel (by kernel_rfl) (by kernel_rfl) (fun _ _ _ h => h) (rfl) (fun W hW => ex_pick rfl rfl rfl rfl rfl) hS ?_
  simp only [Act.put, List.setIfInBounds_toArray, List.set_cons_zero, List.set_cons_succ]
  refine take_yes 26 57 (.bool true) rfl rfl hsel (by kernel_rfl) (by kernel_rfl) (fun _ _ _ h => h) (rfl) (fun W hW => ex_move rfl rfl) hS ?_
  simp only [Act.put, List.setIfInBounds_toArray, List.set_cons_zero, List.set_cons_succ]
  refine take_yes 27 58 (recV shortR (.slice (some ⟨w7.heap.size + 1, 0, none⟩) 1 1)) rfl rfl hsel (by kernel_rfl) (by kernel_rfl) (fun _ _ _ h => h) (want_yes rfl rfl rfl (by simp only [List.getElem?_toArray, List.getElem?_cons_succ, List.getElem?_cons_zero])) (fun W hW => ex_load26 rfl rfl hW.x8) hS ?_
  simp only [Act.put, List.setIfInBounds_toArray, List.set_cons_zero, List.set_cons_succ]
  refine take_call 28 59 6 #[recV shortR (.slice (some ⟨w7.heap.size + 1, 0, none⟩) 1 1)] rfl rfl (by kernel_rfl) (want_yes rfl rfl rfl (by simp only [List.getElem?_toArray, List.getElem?_cons_succ, List.getElem?_cons_zero])) rfl enters6 (by simp only [List.map_toArray, List.map_cons, List.map_nil]; rfl) ?_
  refine (right_calls shortR _ 1 1 _ hS.s8 (by omega)).mono ?_
  rintro e y28 ⟨rfl, hB⟩
  rw [short_right]
  refine ⟨_, rfl, hS.more hB, ?_⟩
  replace hS := hS.more hB
  clear hB
  simp only [Act.put, List.setIfInBounds_toArray, List.set_cons_zero, List.set_cons_succ]
  refine take_yes 29 60 (.bool true) rfl rfl hsel (by kernel_rfl) (by kernel_rfl) (fun _ _ _ h => h) (want_yes rfl rfl rfl (by simp only [List.getElem?_toArray, List.getElem?_cons_succ, List.getElem?_cons_zero])) (fun W hW => ex_not (b := false) rfl rfl) hS ?_
  simp only [Act.put, List.setIfInBounds_toArray, List.set_cons_zero, List.set_cons_succ]
  refine take_yes 30 61 (.bool true) rfl rfl hsel (by kernel_rfl) (by kernel_rfl) (fun _ _ _ h => h) (rfl) (fun W hW => ex_pick rfl rfl rfl rfl rfl) hS ?_
  simp only [Act.put, List.setIfInBounds_toArray, List.set_cons_zero, List.set_cons_succ]
  refine take_yes 31 62 (.bool true) rfl rfl hsel (by kernel_rfl) (by kernel_rfl) (fun _ _ _ h => h) (rfl) (fun W hW => ex_move rfl rfl) hS ?_
  simp only [Act.put, List.setIfInBounds_toArray, List.set_cons_zero, List.set_cons_succ]
  refine take_call 32 63 14 #[] rfl rfl (by kernel_rfl) (want_yes rfl rfl rfl (by simp only [List.getElem?_toArray, List.getElem?_cons_succ, List.getElem?_cons_zero])) rfl enters14 (Array.map_empty) ?_
  refine (some_calls _).mono ?_
  rintro e y32 ⟨Ad, cd, rfl, hSd, hB⟩
  refine ⟨_, rfl, hS.more hB, ?_⟩
  replace hS := hS.more hB
  clear hB
  simp only [Act.put, List.setIfInBounds_toArray, List.set_cons_zero, List.set_cons_succ]
  refine take_call 33 64 8 #[recV someR (.slice Ad 1 cd)] rfl rfl (by kernel_rfl) (want_yes rfl rfl rfl (by simp only [List.getElem?_toArray, List.getElem?_cons_succ, List.getElem?_cons_zero])) rfl enters8 (by simp only [List.map_toArray, List.map_cons, List.map_nil]; rfl) ?_
  refine (print_calls someR Ad 1 cd _ hSd (by omega)).mono ?_
  rintro e y33 ⟨rfl, hB⟩
  refine ⟨_, rfl, hS.more hB, ?_⟩
  replace hS := hS.more hB
  clear hB
  simp only [Act.put, List.setIfInBounds_toArray, List.set_cons_zero, List.set_cons_succ]
  refine take_yes 34 65 (.string ((strB (printL someR)).extract 0 4)) rfl rfl hsel (by kernel_rfl) (by kernel_rfl) (fun _ _ _ h => h) (want_yes rfl rfl rfl (by simp only [List.getElem?_toArray, List.getElem?_cons_succ, List.getElem?_cons_zero])) (fun W hW => ex_cut rfl rfl some_long) hS ?_
  simp only [Act.put, List.setIfInBounds_toArray, List.set_cons_zero, List.set_cons_succ]
  refine take_yes 35 66 (.bool true) rfl rfl hsel (by kernel_rfl) (by kernel_rfl) (fun _ _ _ h => h) (want_yes rfl rfl rfl (by simp only [List.getElem?_toArray, List.getElem?_cons_succ, List.getElem?_cons_zero])) (fun W hW => ex_eqs rfl rfl rfl some_kind) hS ?_
  simp only [Act.put, List.setIfInBounds_toArray, List.set_cons_zero, List.set_cons_succ]
  refine take_yes 36 67 (.bool true) rfl rfl hsel (by kernel_rfl) (by kernel_rfl) (fun _ _ _ h => h) (rfl) (fun W hW => ex_pick rfl rfl rfl rfl rfl) hS ?_
  simp only [Act.put, List.setIfInBounds_toArray, List.set_cons_zero, List.set_cons_succ]
  refine take_yes 37 0 (.bool true) rfl rfl hsel (by kernel_rfl) (by kernel_rfl) (fun _ _ _ h => h) (rfl) (fun W hW => ex_assign rfl rfl) hS ?_
  simp only [Act.put, List.setIfInBounds_toArray, List.set_cons_zero, List.set_cons_succ]
  refine wpAnyH_done (by kernel_rfl) ?_ _
  go_wp2_with fail
  go_ret
  exact ⟨rfl, hS.below⟩

end Go.Proofs.Ytkfjbhikibidiaa
