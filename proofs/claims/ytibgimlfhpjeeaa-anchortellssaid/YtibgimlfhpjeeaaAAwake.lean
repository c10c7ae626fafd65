/- The law's own examples: what the call does. No statement is proved here. -/
import Derived.Test.YtibgimlfhpjeeaaAParse
import Derived.Test.YtibgimlfhpjeeaaASame
namespace Go.Proofs.Ytibgimlfhpjeeaa
open Go.RowKit Go.Sort

def x1 : Sh := ⟨16, 8⟩
theorem right_x1 : rightS x1 = true := by decide
theorem right_n1 : rightS ⟨15, 8⟩ = false := by decide
theorem is_x : isS [120] = false := by
  cases h : isS [120] with
  | false => rfl
  | true =>
    have h2 := (is_right h).2
    have := congrArg List.length h2
    rw [print_len] at this
    simp at this

section
variable (w : World)
theorem aw_print : Calls Try.prog 11 #[.agg #[.int .i64 16, .int .i64 8]] w fun e w' => e = .returned (.string (strB (printL x1))) ∧ Below w.heap.size w w' := print_calls x1 w
theorem aw_parse : Calls Try.prog 8 #[.string (strB (printL x1))] w fun e w' => e = .returned (.tuple #[.agg #[.int .i64 16, .int .i64 8], .bool true]) ∧ Below w.heap.size w w' := by
  have h := parse_calls (printL x1) w
  rw [parse_print right_x1, is_print right_x1] at h
  exact h
theorem aw_parsex : Calls Try.prog 8 #[.string ⟨#[120]⟩] w fun e w' => e = .returned (.tuple #[.agg #[.int .i64 0, .int .i64 0], .bool false]) ∧ Below w.heap.size w w' := by
  have h := parse_calls [120] w
  have e2 : parseS [120] = zeroS := by unfold parseS; rw [is_x]; rfl
  rw [is_x, e2] at h
  exact h
theorem aw_right : Calls Try.prog 7 #[.agg #[.int .i64 16, .int .i64 8]] w fun e w' => e = .returned (.bool true) ∧ Below w.heap.size w w' := right_calls x1 w
theorem aw_right2 : Calls Try.prog 7 #[.agg #[.int .i64 15, .int .i64 8]] w fun e w' => e = .returned (.bool false) ∧ Below w.heap.size w w' := right_calls ⟨15, 8⟩ w
theorem aw_size : Calls Try.prog 13 #[.agg #[.int .i64 16, .int .i64 8]] w fun e w' => e = .returned (.int .i64 25) ∧ Below w.heap.size w w' := by
  have h := size_calls x1 w
  rw [show placeN x1 x1.pages = 25 by decide +kernel] at h
  exact h
theorem aw_log : Calls Try.prog 15 #[.int .i64 2] w fun e w' => e = .returned (.int .i64 3) ∧ w' = w := by
  have h := log_calls 2 w
  rw [show logN 2 = 3 by decide +kernel] at h
  exact h
theorem aw_place : Calls Try.prog 17 #[.agg #[.int .i64 16, .int .i64 8], .int .i64 3] w fun e w' => e = .returned (.int .i64 12) ∧ Below w.heap.size w w' := by
  have h := place_calls x1 3 w
  rw [show placeN x1 3 = 12 by decide +kernel] at h
  exact h
end

theorem aw_cut : (strB (printL x1)).extract 0 8 = ⟨#[65, 82, 67, 72, 73, 86, 69, 49]⟩ := by
  rw [strB_extract]
  obtain ⟨z, hz⟩ := print_is x1
  rw [hz, Wire.take_app _ _ 8 rfl]
  rfl

/-- The boxes of the examples. -/
structure AW (w W : World) : Prop where
  x : SBox W w.heap.size x1
  below : Below w.heap.size w W
theorem AW.more {w W W' : World} (h : AW w W) (k : Below W.heap.size W W') : AW w W' := ⟨h.x.below k, below_trans' h.below k⟩
theorem AW.new (w : World) : AW w (w.alloc (.cells #[.int .i64 16, .int .i64 8] 23)) := ⟨SBox.new w x1, below_one _ _⟩

set_option maxRecDepth 100000 in
set_option maxHeartbeats 16000000 in
theorem awake_true (w : World) : Calls Try.prog 6 #[] w fun e w' => e = .returned (.bool true) ∧ Below w.heap.size w w' := by
  obtain ⟨S, hS⟩ : ∃ s, s = strB (printL x1) := ⟨_, rfl⟩
  have q1 : S.size = 256 := by rw [hS, strB_size]; exact print_len x1
  have q3 : S.extract 0 8 = ⟨#[65, 82, 67, 72, 73, 86, 69, 49]⟩ := by rw [hS]; exact aw_cut
  have Q1 := Lib.hid q1
  have Q3 := Lib.hid q3
  have C1 := Lib.hid aw_print
  have C2 := Lib.hid aw_parse
  have C3 := Lib.hid aw_parsex
  have C4 := Lib.hid aw_right
  have C5 := Lib.hid aw_right2
  have C6 := Lib.hid aw_size
  have C7 := Lib.hid aw_log
  have C8 := Lib.hid aw_place
  rw [← hS] at C1 C2
  clear hS q1 q3
  have HA := Lib.hid (AW.new w)
  go_enter Try.func6, Try.ntmps6
  go_wp2_with fail
  (with_reducible refine (C1.out _).mono ?_)
  rintro e w1 ⟨rfl, hB⟩
  replace HA := Lib.hid (HA.out.more hB)
  clear hB
  go_wp2_with fail
  (with_reducible refine (C2.out _).mono ?_)
  rintro e w2 ⟨rfl, hB⟩
  replace HA := Lib.hid (HA.out.more (below_trans' hB (below_one w2 (.cells #[.int .i64 16, .int .i64 8] 23))))
  have HB := Lib.hid (SBox.new w2 x1)
  obtain ⟨W3, hW3⟩ : ∃ W3, W3 = w2.alloc (.cells #[.int .i64 16, .int .i64 8] 23) := ⟨_, rfl⟩
  replace HA : Hid (AW w W3) := by rw [hW3]; exact HA
  replace HB : Hid (SBox W3 w2.heap.size x1) := by rw [hW3]; exact HB
  have HW3 := Lib.hid hW3
  clear hB hW3
  go_wp2_with fail
  rw [← HW3.out]
  clear HW3
  (with_reducible refine (C3.out _).mono ?_)
  rintro e w3 ⟨rfl, hB⟩
  have hB' := below_trans' hB (below_one w3 (.cells #[.int .i64 0, .int .i64 0] 23))
  replace HA := Lib.hid (HA.out.more hB')
  replace HB := Lib.hid (HB.out.below hB')
  obtain ⟨W4, hW4⟩ : ∃ W4, W4 = w3.alloc (.cells #[.int .i64 0, .int .i64 0] 23) := ⟨_, rfl⟩
  rw [← hW4] at HA HB
  have k0 : W4.cell? ⟨w.heap.size, 0, none⟩ = some (.int .i64 16) := HA.out.x.c0
  have k1 : W4.cell? ⟨w.heap.size, 1, none⟩ = some (.int .i64 8) := HA.out.x.c1
  rw [hW4] at k0 k1
  have HW4 := Lib.hid hW4
  clear hB hB' hW4
  go_wp2_with fail
  rw [← HW4.out]
  (with_reducible refine (C4.out _).mono ?_)
  rintro e w4 ⟨rfl, hB⟩
  replace HA := Lib.hid (HA.out.more hB)
  replace HB := Lib.hid (HB.out.below hB)
  clear hB HW4 k0 k1
  go_wp2_with fail
  (with_reducible refine (C5.out _).mono ?_)
  rintro e w5 ⟨rfl, hB⟩
  replace HA := Lib.hid (HA.out.more hB)
  replace HB := Lib.hid (HB.out.below hB)
  have k0 : w5.cell? ⟨w.heap.size, 0, none⟩ = some (.int .i64 16) := HA.out.x.c0
  have k1 : w5.cell? ⟨w.heap.size, 1, none⟩ = some (.int .i64 8) := HA.out.x.c1
  have l0 : w5.cell? ⟨w2.heap.size, 0, none⟩ = some (.int .i64 16) := HB.out.c0
  have l1 : w5.cell? ⟨w2.heap.size, 1, none⟩ = some (.int .i64 8) := HB.out.c1
  clear hB
  go_wp2_with fail
  (with_reducible refine (C6.out _).mono ?_)
  rintro e w6 ⟨rfl, hB⟩
  replace HA := Lib.hid (HA.out.more hB)
  clear hB k0 k1 l0 l1
  go_wp2_with fail
  (with_reducible refine (C7.out _).mono ?_)
  rintro e w7 ⟨rfl, hw⟩
  rw [hw]
  clear hw w7
  have k0 : w6.cell? ⟨w.heap.size, 0, none⟩ = some (.int .i64 16) := HA.out.x.c0
  have k1 : w6.cell? ⟨w.heap.size, 1, none⟩ = some (.int .i64 8) := HA.out.x.c1
  go_wp2_with fail
  (with_reducible refine (C8.out _).mono ?_)
  rintro e w8 ⟨rfl, hB⟩
  replace HA := Lib.hid (HA.out.more hB)
  clear hB k0 k1
  have k0 : w8.cell? ⟨w.heap.size, 0, none⟩ = some (.int .i64 16) := HA.out.x.c0
  have k1 : w8.cell? ⟨w.heap.size, 1, none⟩ = some (.int .i64 8) := HA.out.x.c1
  go_wp2_with fail
  (with_reducible refine (C1.out _).mono ?_)
  rintro e w9 ⟨rfl, hB⟩
  replace HA := Lib.hid (HA.out.more hB)
  clear hB k0 k1
  have q1 := Q1.out
  have q3 := Q3.out
  go_wp2_with fail
  go_ret
  exact ⟨rfl, HA.out.below⟩

end Go.Proofs.Ytibgimlfhpjeeaa
