/- The law's own examples: what the call does. No statement is proved here. -/
import Derived.Test.YtompckbcaccmiaaEParse
import Derived.Test.YtompckbcaccmiaaEHome
namespace Go.Proofs.Ytompckbcaccmiaa
open Go.RowKit Go.Sort
open Wire (TK TP But twoL fourL numV numS markS)
open Crc (sealB Only)

def pab : List UInt8 := [97, 98] ++ zer 206
def x1 : En := ⟨3, 1, false, 7, pab⟩
def y1 : En := ⟨3, 2, true, 1, []⟩
theorem right_x1 : rightE x1 = true := by decide +kernel
theorem right_y1 : rightE y1 = true := by decide +kernel
theorem right_n1 : rightE ⟨1, 0, false, 0, []⟩ = false := by decide +kernel
theorem right_n2 : rightE ⟨0, 0, true, 0, []⟩ = false := by decide +kernel

theorem page_ab (w : World) : Calls Try.prog 18 #[.string ⟨#[97, 98]⟩] w fun e w' => e = .returned (.string (strB pab)) ∧ Below w.heap.size w w' := page_calls [97, 98] w (by decide)
theorem page_no (w : World) : Calls Try.prog 18 #[.string ⟨#[]⟩] w fun e w' => e = .returned (.string (strB (zer 208))) ∧ Below w.heap.size w w' := page_calls [] w (by decide)

/-- 256 noughts, made. -/
theorem make256 (w : World) : ∃ Y, (Instr.makeSlice 39 (.int .i64 256) (.int .i64 256)).run Try.prog w = .ok (.slice (some ⟨w.heap.size, 0, none⟩) 256 256) Y ∧ (convert 39 9 (.slice (some ⟨w.heap.size, 0, none⟩) 256 256)).run Try.prog Y = .ok (.string (strB (zer 256))) Y ∧ Below w.heap.size w Y :=
  ⟨_, Wire.make_zeros 256 (by omega) w, Wire.conv_zeros 256 w, below_one _ _⟩

section
variable (w : World)
theorem aw_printx : Calls Try.prog 12 #[.agg #[.int .i64 3, .int .i64 1, .bool false, .int .i64 7, .string (strB pab)]] w fun e w' => e = .returned (.string (strB (printL x1))) ∧ Below w.heap.size w w' := print_calls x1 w (by show pab.length ≤ 240; decide +kernel)
theorem aw_printy : Calls Try.prog 12 #[.agg #[.int .i64 3, .int .i64 2, .bool true, .int .i64 1, .string ⟨#[]⟩]] w fun e w' => e = .returned (.string (strB (printL y1))) ∧ Below w.heap.size w w' := print_calls y1 w (by decide)
theorem aw_parsex : Calls Try.prog 9 #[.string (strB (printL x1))] w fun e w' => e = .returned (.tuple #[.agg #[.int .i64 3, .int .i64 1, .bool false, .int .i64 7, .string (strB pab)], .bool true]) ∧ Below w.heap.size w w' := by
  have h := parse_calls (printL x1) w
  rw [parse_print right_x1, is_print right_x1] at h
  exact h
theorem aw_parsey : Calls Try.prog 9 #[.string (strB (printL y1))] w fun e w' => e = .returned (.tuple #[.agg #[.int .i64 3, .int .i64 2, .bool true, .int .i64 1, .string ⟨#[]⟩], .bool true]) ∧ Below w.heap.size w w' := by
  have h := parse_calls (printL y1) w
  rw [parse_print right_y1, is_print right_y1] at h
  exact h
theorem aw_parsez : Calls Try.prog 9 #[.string (strB (zer 256))] w fun e w' => e = .returned (.tuple #[.agg #[.int .i64 0, .int .i64 0, .bool false, .int .i64 0, .string ⟨#[]⟩], .bool false]) ∧ Below w.heap.size w w' := by
  have h := parse_calls (zer 256) w
  have e1 := is_zer 256
  have e2 : parseE (zer 256) = zeroE := by unfold parseE; rw [e1]; rfl
  rw [e1, e2] at h
  exact h
theorem aw_leaf : Calls Try.prog 16 #[.agg #[.int .i64 5, .string (strB pab)]] w fun e w' => e = .returned (.string (strB (leafL 5 pab))) ∧ Below w.heap.size w w' := leaf_calls 5 pab w (by decide +kernel)
theorem pab_len : pab.length = 208 := by decide +kernel
theorem aw_home5 : Calls Try.prog 14 #[.string (strB (leafL 5 pab)), .int .i64 5] w fun e w' => e = .returned (.tuple #[.string (strB pab), .bool true]) ∧ Below w.heap.size w w' := by
  have h := home_calls (leafL 5 pab) 5 w
  obtain ⟨e1, e2⟩ := home_leaf (no := 5) (d := pab) (by omega) (by omega) pab_len
  rw [e1, e2] at h
  exact h
theorem aw_home6 : Calls Try.prog 14 #[.string (strB (leafL 5 pab)), .int .i64 6] w fun e w' => ∃ d, e = .returned (.tuple #[.string (strB d), .bool false]) ∧ Below w.heap.size w w' := by
  have h := home_calls (leafL 5 pab) 6 w
  rw [home_other (no := 5) (m := 6) (d := pab) (by omega) (by omega) (by omega)] at h
  exact h.mono fun _ _ ⟨a, b⟩ => ⟨_, a, b⟩
theorem aw_homez : Calls Try.prog 14 #[.string (strB (zer 256)), .int .i64 6] w fun e w' => e = .returned (.tuple #[.string (strB (zer 208)), .bool true]) ∧ Below w.heap.size w w' := by
  have h := home_calls (zer 256) 6 w
  have e1 : homeB (zer 256) 6 = true := by unfold homeB; simp only [beq_self_eq_true, Bool.true_or]
  have e2 : homeV (zer 256) 6 = zer 208 := by unfold homeV; simp only [beq_self_eq_true, if_true]
  rw [e1, e2] at h
  exact h
theorem aw_rightx : Calls Try.prog 8 #[.agg #[.int .i64 3, .int .i64 1, .bool false, .int .i64 7, .string (strB pab)]] w fun e w' => e = .returned (.bool true) ∧ Below w.heap.size w w' := by
  have h := right_calls x1 w
  rw [right_x1] at h
  exact h
theorem aw_righty : Calls Try.prog 8 #[.agg #[.int .i64 3, .int .i64 2, .bool true, .int .i64 1, .string ⟨#[]⟩]] w fun e w' => e = .returned (.bool true) ∧ Below w.heap.size w w' := by
  have h := right_calls y1 w
  rw [right_y1] at h
  exact h
theorem aw_right1 : Calls Try.prog 8 #[.agg #[.int .i64 1, .int .i64 0, .bool false, .int .i64 0, .string ⟨#[]⟩]] w fun e w' => e = .returned (.bool false) ∧ Below w.heap.size w w' := by
  have h := right_calls ⟨1, 0, false, 0, []⟩ w
  rw [right_n1] at h
  exact h
theorem aw_right2 : Calls Try.prog 8 #[.agg #[.int .i64 0, .int .i64 0, .bool true, .int .i64 0, .string ⟨#[]⟩]] w fun e w' => e = .returned (.bool false) ∧ Below w.heap.size w w' := by
  have h := right_calls ⟨0, 0, true, 0, []⟩ w
  rw [right_n2] at h
  exact h
end

theorem aw_cut1 : (strB (leafL 5 pab)).extract 0 8 = ⟨#[76, 69, 65, 70, 0, 5, 97, 98]⟩ := by
  rw [strB_extract]
  have : (leafL 5 pab).take 8 = [76, 69, 65, 70, 0, 5, 97, 98] := by decide +kernel
  rw [this]; rfl
theorem aw_cut2 : (strB (printL x1)).extract 0 14 = ⟨#[74, 80, 65, 71, 0, 0, 0, 3, 0, 1, 0, 7, 97, 98]⟩ := by
  rw [strB_extract]
  have : (printL x1).take 14 = [74, 80, 65, 71, 0, 0, 0, 3, 0, 1, 0, 7, 97, 98] := by decide +kernel
  rw [this]; rfl

/-- A box of an example. -/
def BX (W : World) (g : Nat) (a b : Int) (c : Bool) (d : Int) (P : ByteArray) : Prop := W.heap[g]? = some (.cells #[.int .i64 a, .int .i64 b, .bool c, .int .i64 d, .string P] 23 (0, 0))
section
variable {W W' : World} {g : Nat} {a b d : Int} {c : Bool} {P : ByteArray}
theorem BX.lt (h : BX W g a b c d P) : g < W.heap.size := (Array.getElem?_eq_some_iff.1 h).1
theorem BX.below (h : BX W g a b c d P) (k : Below W.heap.size W W') : BX W' g a b c d P := (k.block g h.lt).trans h
theorem BX.new (W : World) (a b : Int) (c : Bool) (d : Int) (P : ByteArray) : BX (W.alloc (.cells #[.int .i64 a, .int .i64 b, .bool c, .int .i64 d, .string P] 23)) W.heap.size a b c d P := heap_alloc_new W _
theorem BX.at_ (h : BX W g a b c d P) : W.cell? ⟨g, 0, none⟩ = some (.int .i64 a) ∧ W.cell? ⟨g, 1, none⟩ = some (.int .i64 b) ∧ W.cell? ⟨g, 2, none⟩ = some (.bool c) ∧ W.cell? ⟨g, 3, none⟩ = some (.int .i64 d) ∧ W.cell? ⟨g, 4, none⟩ = some (.string P) := by
  refine ⟨?_, ?_, ?_, ?_, ?_⟩ <;> (rw [cell_of_row W g _ _ _ _ h]; rfl)
end

/-- The boxes of the examples. -/
structure AW (w W : World) (P : ByteArray) (gx ga gb : Nat) : Prop where
  x : BX W gx 3 1 false 7 P
  y : BX W (gx + 1) 3 2 true 1 ⟨#[]⟩
  a : BX W ga 3 1 false 7 P
  b : BX W gb 3 2 true 1 ⟨#[]⟩
  below : Below w.heap.size w W
theorem AW.more {w W W' : World} {P : ByteArray} {gx ga gb : Nat} (h : AW w W P gx ga gb) (k : Below W.heap.size W W') : AW w W' P gx ga gb := ⟨h.x.below k, h.y.below k, h.a.below k, h.b.below k, below_trans' h.below k⟩
/-- The first two of them. -/
structure AV (w W : World) (P : ByteArray) (gx : Nat) : Prop where
  x : BX W gx 3 1 false 7 P
  y : BX W (gx + 1) 3 2 true 1 ⟨#[]⟩
  below : Below w.heap.size w W
theorem AV.more {w W W' : World} {P : ByteArray} {gx : Nat} (h : AV w W P gx) (k : Below W.heap.size W W') : AV w W' P gx := ⟨h.x.below k, h.y.below k, below_trans' h.below k⟩
theorem AV.new {w W : World} (P : ByteArray) (h : Below w.heap.size w W) : AV w ((W.alloc (.cells #[.int .i64 3, .int .i64 1, .bool false, .int .i64 7, .string P] 23)).alloc (.cells #[.int .i64 3, .int .i64 2, .bool true, .int .i64 1, .string ⟨#[]⟩] 23)) P W.heap.size := by
  refine ⟨(BX.new W _ _ _ _ _).below (below_one _ _), ?_, below_trans' (below_trans' h (below_one _ _)) (below_one _ _)⟩
  have := BX.new (W.alloc (.cells #[.int .i64 3, .int .i64 1, .bool false, .int .i64 7, .string P] 23)) 3 2 true 1 ⟨#[]⟩
  rw [show (W.alloc (.cells #[.int .i64 3, .int .i64 1, .bool false, .int .i64 7, .string P] 23)).heap.size = W.heap.size + 1 by simp] at this
  exact this

set_option maxRecDepth 100000 in
set_option maxHeartbeats 16000000 in
theorem awake_true (w : World) : Calls Try.prog 7 #[] w fun e w' => e = .returned (.bool true) ∧ Below w.heap.size w w' := by
  obtain ⟨S1, hS1⟩ : ∃ s, s = strB (printL x1) := ⟨_, rfl⟩
  obtain ⟨S2, hS2⟩ : ∃ s, s = strB (printL y1) := ⟨_, rfl⟩
  obtain ⟨L5, hL5⟩ : ∃ s, s = strB (leafL 5 pab) := ⟨_, rfl⟩
  obtain ⟨P, hP⟩ : ∃ s, s = strB pab := ⟨_, rfl⟩
  obtain ⟨Z, hZ⟩ : ∃ s, s = strB (zer 208) := ⟨_, rfl⟩
  obtain ⟨Z2, hZ2⟩ : ∃ s, s = strB (zer 256) := ⟨_, rfl⟩
  have q1 : L5.size = 256 := by rw [hL5, strB_size]; exact leaf_len (by rw [pab_len]; omega)
  have q2 : S1.size = 256 := by rw [hS1, strB_size]; exact print_len right_x1
  have q3 : L5.extract 0 8 = ⟨#[76, 69, 65, 70, 0, 5, 97, 98]⟩ := by rw [hL5]; exact aw_cut1
  have q4 : S1.extract 0 14 = ⟨#[74, 80, 65, 71, 0, 0, 0, 3, 0, 1, 0, 7, 97, 98]⟩ := by rw [hS1]; exact aw_cut2
  have Q1 := Lib.hid q1
  have Q2 := Lib.hid q2
  have Q3 := Lib.hid q3
  have Q4 := Lib.hid q4
  have C1 := Lib.hid page_ab
  have C2 := Lib.hid page_no
  have C3 := Lib.hid aw_printx
  have C4 := Lib.hid aw_printy
  have C5 := Lib.hid aw_parsex
  have C6 := Lib.hid aw_parsey
  have C7 := Lib.hid aw_parsez
  have C8 := Lib.hid aw_leaf
  have C9 := Lib.hid aw_home5
  have C10 := Lib.hid aw_home6
  have C11 := Lib.hid aw_homez
  have C12 := Lib.hid aw_rightx
  have C13 := Lib.hid aw_righty
  have C14 := Lib.hid aw_right1
  have C15 := Lib.hid aw_right2
  have M := Lib.hid make256
  rw [← hP] at C1 C3 C5 C8 C9 C12
  rw [← hZ] at C2 C11
  rw [← hS1] at C3 C5
  rw [← hS2] at C4 C6
  rw [← hL5] at C8 C9 C10
  rw [← hZ2] at C7 C11 M
  clear hS1 hS2 hL5 hP hZ hZ2 q1 q2 q3 q4
  go_enter Try.func7, Try.ntmps7
  go_wp2_with fail
  (with_reducible refine (C1.out _).mono ?_)
  rintro e w1 ⟨rfl, hB1⟩
  have HV := Lib.hid (AV.new P hB1)
  clear hB1
  go_wp2_with fail
  (with_reducible refine (C3.out _).mono ?_)
  rintro e w2 ⟨rfl, hB2⟩
  replace HV := Lib.hid (HV.out.more hB2)
  clear hB2
  go_wp2_with fail
  (with_reducible refine (C5.out _).mono ?_)
  rintro e w3 ⟨rfl, hB3⟩
  replace HV := Lib.hid (HV.out.more (below_trans' hB3 (below_one _ (.cells #[.int .i64 3, .int .i64 1, .bool false, .int .i64 7, .string P] 23))))
  have HA := Lib.hid (BX.new w3 3 1 false 7 P)
  obtain ⟨y0, y1', y2, y3, y4⟩ := HV.out.y.at_
  clear hB3
  go_wp2_with fail
  (with_reducible refine (C4.out _).mono ?_)
  rintro e w4 ⟨rfl, hB4⟩
  replace HV := Lib.hid (HV.out.more hB4)
  replace HA := Lib.hid (HA.out.below hB4)
  clear hB4 y0 y1' y2 y3 y4
  go_wp2_with fail
  (with_reducible refine (C6.out _).mono ?_)
  rintro e w5 ⟨rfl, hB5⟩
  have hB5' := below_trans' hB5 (below_one _ (.cells #[.int .i64 3, .int .i64 2, .bool true, .int .i64 1, .string ⟨#[]⟩] 23))
  have HW : Hid (AW w _ P w1.heap.size w3.heap.size w5.heap.size) := Lib.hid ⟨(HV.out.more hB5').x, (HV.out.more hB5').y, HA.out.below hB5', BX.new w5 3 2 true 1 ⟨#[]⟩, (HV.out.more hB5').below⟩
  obtain ⟨Y6, m1, m2, m3⟩ := M.out (w5.alloc (.cells #[.int .i64 3, .int .i64 2, .bool true, .int .i64 1, .string ⟨#[]⟩] 23))
  replace HW := Lib.hid (HW.out.more m3)
  rw [show (w5.alloc (.cells #[.int .i64 3, .int .i64 2, .bool true, .int .i64 1, .string ⟨#[]⟩] 23)).heap.size = w5.heap.size + 1 by simp] at m1 m2
  clear hB5 hB5' HV HA m3
  go_wp2_with fail
  (with_reducible refine (C7.out _).mono ?_)
  rintro e w7 ⟨rfl, hB7⟩
  replace HW := Lib.hid (HW.out.more (below_trans' hB7 (below_one _ (.cells #[.int .i64 0, .int .i64 0, .bool false, .int .i64 0, .string ⟨#[]⟩] 23))))
  clear hB7 m1 m2
  go_wp2_with fail
  (with_reducible refine (C1.out _).mono ?_)
  rintro e w8 ⟨rfl, hB8⟩
  replace HW := Lib.hid (HW.out.more hB8)
  clear hB8
  go_wp2_with fail
  (with_reducible refine (C8.out _).mono ?_)
  rintro e w9 ⟨rfl, hB9⟩
  replace HW := Lib.hid (HW.out.more hB9)
  clear hB9
  go_wp2_with fail
  (with_reducible refine (C9.out _).mono ?_)
  rintro e w10 ⟨rfl, hB10⟩
  replace HW := Lib.hid (HW.out.more hB10)
  clear hB10
  go_wp2_with fail
  (with_reducible refine (C10.out _).mono ?_)
  rintro e w11 ⟨d6, rfl, hB11⟩
  replace HW := Lib.hid (HW.out.more hB11)
  obtain ⟨Y12, m1, m2, m3⟩ := M.out w11
  replace HW := Lib.hid (HW.out.more m3)
  clear hB11 m3
  go_wp2_with fail
  (with_reducible refine (C11.out _).mono ?_)
  rintro e Y ⟨rfl, hB12⟩
  replace HW := Lib.hid (HW.out.more hB12)
  clear hB12 m1 m2
  obtain ⟨i0, i1, i2, i3, i4⟩ := HW.out.x.at_
  go_wp2_with fail
  (with_reducible refine (C12.out _).mono ?_)
  rintro e w13 ⟨rfl, hB13⟩
  replace HW := Lib.hid (HW.out.more hB13)
  clear hB13
  clear i0 i1 i2 i3 i4
  obtain ⟨j0, j1, j2, j3, j4⟩ := HW.out.y.at_
  go_wp2_with fail
  (with_reducible refine (C13.out _).mono ?_)
  rintro e w14 ⟨rfl, hB14⟩
  replace HW := Lib.hid (HW.out.more hB14)
  clear hB14
  clear j0 j1 j2 j3 j4
  go_wp2_with fail
  (with_reducible refine (C14.out _).mono ?_)
  rintro e w15 ⟨rfl, hB15⟩
  replace HW := Lib.hid (HW.out.more hB15)
  clear hB15
  go_wp2_with fail
  (with_reducible refine (C15.out _).mono ?_)
  rintro e w16 ⟨rfl, hB16⟩
  replace HW := Lib.hid (HW.out.more hB16)
  clear hB16
  obtain ⟨i0, i1, i2, i3, i4⟩ := HW.out.x.at_
  obtain ⟨j0, j1, j2, j3, j4⟩ := HW.out.y.at_
  obtain ⟨k0, k1, k2, k3, k4⟩ := HW.out.a.at_
  obtain ⟨l0, l1, l2, l3, l4⟩ := HW.out.b.at_
  go_wp2_with fail
  (with_reducible refine (C1.out _).mono ?_)
  rintro e w17 ⟨rfl, hB17⟩
  replace HW := Lib.hid (HW.out.more hB17)
  clear hB17
  clear i0 i1 i2 i3 i4
  clear j0 j1 j2 j3 j4
  clear k0 k1 k2 k3 k4
  clear l0 l1 l2 l3 l4
  go_wp2_with fail
  (with_reducible refine (C2.out _).mono ?_)
  rintro e w18 ⟨rfl, hB18⟩
  replace HW := Lib.hid (HW.out.more hB18)
  clear hB18
  have q1 := Q1.out
  have q3 := Q3.out
  obtain ⟨i0, i1, i2, i3, i4⟩ := HW.out.x.at_
  go_wp2_with fail
  (with_reducible refine (C3.out _).mono ?_)
  rintro e w19 ⟨rfl, hB19⟩
  replace HW := Lib.hid (HW.out.more hB19)
  clear hB19
  clear i0 i1 i2 i3 i4
  have q2 := Q2.out
  have q4 := Q4.out
  go_wp2_with fail
  go_ret
  exact ⟨rfl, HW.out.below⟩

end Go.Proofs.Ytompckbcaccmiaa
