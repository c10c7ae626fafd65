/- EntryApart: the walk. No statement is proved here. -/
import Derived.Test.YtompckbcaccmiaaEAwake
import Derived.Test.YtompckbcaccmiaaESame
namespace Go.Proofs.Ytompckbcaccmiaa
open Go.RowKit Go.Sort
open Wire (TK TP But twoL fourL numV numS markS)
open Crc (sealB Only)

/-- What lies when the two are there. -/
structure AP (w W : World) (x y : En) : Prop where
  x : EBox W w.heap.size x
  y : EBox W (w.heap.size + 1) y
  below : Below w.heap.size w W
theorem AP.more {w W W' : World} {x y : En} (h : AP w W x y) (k : Below W.heap.size W W') : AP w W' x y := ⟨h.x.below k, h.y.below k, below_trans' h.below k⟩
theorem AP.new (w : World) (x y : En) : AP w ((w.alloc (.cells (enC x) 23)).alloc (.cells (enC y) 23)) x y := by
  refine ⟨(EBox.new w x).below (below_one _ _), ?_, below_trans' (below_one _ _) (below_one _ _)⟩
  have := EBox.new (w.alloc (.cells (enC x) 23)) y
  rw [show (w.alloc (.cells (enC x) 23)).heap.size = w.heap.size + 1 by simp] at this
  exact this

theorem prints_eq {a b : En} (ha : rightE a = true) (hb : rightE b = true) : ((strB (printL a)).toList == (strB (printL b)).toList) = decide (a = b) := by
  rw [strB_toList, strB_toList, Bool.eq_iff_iff, beq_iff_eq, decide_eq_true_iff]
  exact ⟨print_inj ha hb, fun h => by rw [h]⟩

/-- The page's bytes in the law. -/
def pgD (x : En) : List UInt8 := if x.last then zer 208 else x.data
theorem pgD_len {x : En} (h : rightE x = true) : (pgD x).length = 208 := by
  have := (right_iff.1 h).2.2.2.2.2.2
  unfold pgD
  cases hl : x.last with
  | true => rw [if_pos rfl, zer_len]
  | false => rw [if_neg (by simp), this, hl]; rfl

theorem homeP (x : En) (no : Int) (w : World) : Calls Try.prog 14 #[.string (strB (printL x)), .int .i64 no] w fun e w' => e = .returned (.tuple #[.string (strB (homeV (printL x) no)), .bool false]) ∧ Below w.heap.size w w' := by
  have h := home_calls (printL x) no w
  rw [home_print] at h
  exact h
theorem parseL (no : Int) (d : List UInt8) (w : World) : Calls Try.prog 9 #[.string (strB (leafL no d))] w fun e w' => e = .returned (.tuple #[.agg #[.int .i64 0, .int .i64 0, .bool false, .int .i64 0, .string ⟨#[]⟩], .bool false]) ∧ Below w.heap.size w w' := by
  have h := parse_calls (leafL no d) w
  have e1 := is_leaf no d
  have e2 : parseE (leafL no d) = zeroE := by unfold parseE; rw [e1]; rfl
  rw [e1, e2] at h
  exact h

set_option maxRecDepth 100000 in
set_option maxHeartbeats 16000000 in
theorem apart_calls (x y : En) (n : Nat) (w : World) (hn : n < 65536) :
    Calls Try.prog 6 #[enV x, enV y, .int .u16 n] w fun e w' => e = .returned (.bool true) ∧ Below w.heap.size w w' := by
  obtain ⟨Z, hZ⟩ : ∃ Z, Z = zer 208 := ⟨_, rfl⟩
  have CZ := Lib.hid page_no
  rw [← hZ] at CZ
  have HZ := Lib.hid hZ
  clear hZ
  have CX := Lib.hid (right_calls x)
  have CY := Lib.hid (right_calls y)
  have PX := Lib.hid (fun h W => print_calls x W h)
  have PY := Lib.hid (fun h W => print_calls y W h)
  unfold enV at CX CY PX PY
  obtain ⟨Y, hY, hAP⟩ : ∃ Y, Y = (w.alloc (.cells (enC x) 23)).alloc (.cells (enC y) 23) ∧ AP w Y x y := ⟨_, rfl, AP.new w x y⟩
  unfold enC at hY
  have HY := Lib.hid hY
  have HP := Lib.hid hAP
  clear hY hAP
  unfold enV
  cases rx : rightE x with
  | false =>
    go_enter Try.func6, Try.ntmps6
    go_wp2_with fail
    rw [← HY.out]
    (with_reducible refine (CX.out _).mono ?_)
    rintro e w1 ⟨rfl, hB1⟩
    rw [rx]
    go_wp2_with fail
    (with_reducible refine (awake_true _).mono ?_)
    rintro e w2 ⟨rfl, hB2⟩
    go_wp2_with fail
    go_ret
    exact ⟨rfl, ((HP.out.more hB1).more hB2).below⟩
  | true =>
    cases ry : rightE y with
    | false =>
      go_enter Try.func6, Try.ntmps6
      go_wp2_with fail
      rw [← HY.out]
      (with_reducible refine (CX.out _).mono ?_)
      rintro e w1 ⟨rfl, hB1⟩
      rw [rx]
      replace HP := Lib.hid (HP.out.more hB1)
      clear hB1
      obtain ⟨k0, k1, k2, k3, k4⟩ := HP.out.y.at_
      go_wp2_with fail
      (with_reducible refine (CY.out _).mono ?_)
      rintro e w2 ⟨rfl, hB2⟩
      rw [ry]
      replace HP := Lib.hid (HP.out.more hB2)
      clear hB2 k0 k1 k2 k3 k4
      go_wp2_with fail
      (with_reducible refine (awake_true _).mono ?_)
      rintro e w3 ⟨rfl, hB3⟩
      go_wp2_with fail
      go_ret
      exact ⟨rfl, (HP.out.more hB3).below⟩
    | true =>
      have HX1 := Lib.hid (PX.out (by have := right_data rx; omega))
      have HY1 := Lib.hid (PY.out (by have := right_data ry; omega))
      have HPE := Lib.hid (prints_eq rx ry)
      have HDL := Lib.hid (pgD_len rx)
      clear PX PY
      go_enter Try.func6, Try.ntmps6
      go_wp2_with fail
      rw [← HY.out]
      (with_reducible refine (CX.out _).mono ?_)
      rintro e w1 ⟨rfl, hB1⟩
      rw [rx]
      replace HP := Lib.hid (HP.out.more hB1)
      clear hB1
      obtain ⟨k0, k1, k2, k3, k4⟩ := HP.out.y.at_
      go_wp2_with fail
      (with_reducible refine (CY.out _).mono ?_)
      rintro e w2 ⟨rfl, hB2⟩
      rw [ry]
      replace HP := Lib.hid (HP.out.more hB2)
      clear hB2 k0 k1 k2 k3 k4 CX CY
      go_wp2_with fail
      (with_reducible refine (CZ.out _).mono ?_)
      rintro e w3 ⟨rfl, hB3⟩
      replace HP := Lib.hid (HP.out.more hB3)
      clear hB3
      rcases Bool.eq_false_or_eq_true x.last with hl | hl
      · clear CZ
        have hpd : pgD x = Z := by unfold pgD; rw [hl]; exact HZ.out.symm
        rw [hpd] at HDL
        have HL := Lib.hid (LBox.new w3 ((n : Int) % 512) Z)
        have HP4 := Lib.hid (HP.out.more (below_one w3 (.cells #[.int .i64 ((n : Int) % 512), .string (strB Z)] 31)))
        obtain ⟨W4, hW4⟩ : ∃ W4, W4 = w3.alloc (.cells #[.int .i64 ((n : Int) % 512), .string (strB Z)] 31) := ⟨_, rfl⟩
        rw [← hW4] at HL HP4
        have HW4 := Lib.hid hW4
        have k2 : ∀ o, (w3.alloc o).cell? ⟨w.heap.size, 2, none⟩ = some (.bool true) := fun o => by rw [← hl]; exact (HP.out.more (below_one w3 o)).x.at_.c2
        have k4 : ∀ o, (w3.alloc o).cell? ⟨w.heap.size, 4, none⟩ = some (.string (strB x.data)) := fun o => (HP.out.more (below_one w3 o)).x.at_.c4
        have HLL := Lib.hid hl
        clear hW4 hpd hl
        go_wp2_with fail
        rw [← HW4.out]
        clear k2 k4 HW4
        have q := fun d os => HP4.out.more (below_regrown W4 d os)
        have i0 := fun d os => (q d os).x.at_.c0
        have i1 := fun d os => (q d os).x.at_.c1
        have i2 := fun d os => (q d os).x.at_.c2
        have i3 := fun d os => (q d os).x.at_.c3
        have i4 := fun d os => (q d os).x.at_.c4
        have l0 := fun d os => cell_regrown HL.out.c0 d os
        have D1 := Lib.hid (rg HX1.out W4)
        have D2 := Lib.hid (rg (homeP x ((n : Int) % 512)) W4)
        clear q
        refine wp_region_quiet_below (by kernel_rfl) (by kernel_rfl) ?_
        (try simp only [List.append_eq, List.cons_append, List.nil_append])
        repeat (first | go_big_quiet_step (first | (with_reducible exact D1.out _ _) | (with_reducible exact D2.out _ _)))
        refine wpQuiet_nil ?_
        intro _ hw'
        obtain ⟨⟨dq, osq⟩, hw''⟩ := hw'
        replace HP := Lib.hid (HP4.out.more (below_regrown W4 dq osq))
        replace HL := Lib.hid (HL.out.below (below_regrown W4 dq osq))
        obtain ⟨w5, hw5⟩ : ∃ w5, w5 = grow (redrawn W4 dq) osq := ⟨_, rfl⟩
        rw [← hw5] at HP HL
        subst hw''
        dsimp only
        rw [← hw5]
        clear hw5 i0 i1 i2 i3 i4 l0 D1 D2 HP4
        have l0 := HL.out.c0
        have l1 := HL.out.c1
        have CL := Lib.hid (fun W => leaf_calls ((n : Int) % 512) Z W (by rw [HDL.out]; omega))
        unfold lfV at CL
        go_wp2_with fail
        (with_reducible refine (CL.out _).mono ?_)
        rintro e w6 ⟨rfl, hB6⟩
        replace HP := Lib.hid (HP.out.more hB6)
        clear hB6 l0 l1 CL HL
        go_wp2_with fail
        (with_reducible refine (parseL ((n : Int) % 512) Z _).mono ?_)
        rintro e w7 ⟨rfl, hB7⟩
        replace HP := Lib.hid (HP.out.more (below_trans' hB7 (below_one w7 (.cells #[.int .i64 0, .int .i64 0, .bool false, .int .i64 0, .string ⟨#[]⟩] 23))))
        obtain ⟨W8, hW8⟩ : ∃ W8, W8 = w7.alloc (.cells #[.int .i64 0, .int .i64 0, .bool false, .int .i64 0, .string ⟨#[]⟩] 23) := ⟨_, rfl⟩
        rw [← hW8] at HP
        have HW8 := Lib.hid hW8
        clear hB7 hW8
        go_wp2_with fail
        rw [← HW8.out]
        clear HW8
        have q := fun d os => HP.out.more (below_regrown W8 d os)
        have i0 := fun d os => (q d os).x.at_.c0
        have i1 := fun d os => (q d os).x.at_.c1
        have i2 := fun d os => (q d os).x.at_.c2
        have i3 := fun d os => (q d os).x.at_.c3
        have i4 := fun d os => (q d os).x.at_.c4
        have j0 := fun d os => (q d os).y.at_.c0
        have j1 := fun d os => (q d os).y.at_.c1
        have j2 := fun d os => (q d os).y.at_.c2
        have j3 := fun d os => (q d os).y.at_.c3
        have j4 := fun d os => (q d os).y.at_.c4
        have D1 := Lib.hid (rg HX1.out W8)
        have D2 := Lib.hid (rg HY1.out W8)
        have D3 := Lib.hid (rg awake_true W8)
        obtain ⟨D, hD⟩ : ∃ D, D = decide (x = y) := ⟨_, rfl⟩
        have hq := eql23 x y
        unfold enV at hq
        have hpe := HPE.out
        rw [← hD] at hq hpe
        clear hD
        clear q
        refine wp_region_quiet_below (by kernel_rfl) (by kernel_rfl) ?_
        (try simp only [List.append_eq, List.cons_append, List.nil_append])
        repeat (first | go_big_quiet_step (first | (with_reducible exact D1.out _ _) | (with_reducible exact D2.out _ _) | (with_reducible exact D3.out _ _)))
        refine wpQuiet_nil ?_
        intro _ hw'
        obtain ⟨⟨dq, osq⟩, hw''⟩ := hw'
        subst hw''
        go_wp2_with fail
        go_ret
        exact ⟨rfl, (HP.out.more (below_regrown W8 dq osq)).below⟩
      · clear CZ
        have hpd : pgD x = x.data := by unfold pgD; rw [hl]; rfl
        rw [hpd] at HDL
        have HL := Lib.hid (LBox.new w3 ((n : Int) % 512) x.data)
        have HP4 := Lib.hid (HP.out.more (below_one w3 (.cells #[.int .i64 ((n : Int) % 512), .string (strB x.data)] 31)))
        obtain ⟨W4, hW4⟩ : ∃ W4, W4 = w3.alloc (.cells #[.int .i64 ((n : Int) % 512), .string (strB x.data)] 31) := ⟨_, rfl⟩
        rw [← hW4] at HL HP4
        have HW4 := Lib.hid hW4
        have k2 : ∀ o, (w3.alloc o).cell? ⟨w.heap.size, 2, none⟩ = some (.bool false) := fun o => by rw [← hl]; exact (HP.out.more (below_one w3 o)).x.at_.c2
        have k4 : ∀ o, (w3.alloc o).cell? ⟨w.heap.size, 4, none⟩ = some (.string (strB x.data)) := fun o => (HP.out.more (below_one w3 o)).x.at_.c4
        have HLL := Lib.hid hl
        clear hW4 hpd hl
        go_wp2_with fail
        rw [← HW4.out]
        clear k2 k4 HW4
        have q := fun d os => HP4.out.more (below_regrown W4 d os)
        have i0 := fun d os => (q d os).x.at_.c0
        have i1 := fun d os => (q d os).x.at_.c1
        have i2 := fun d os => (q d os).x.at_.c2
        have i3 := fun d os => (q d os).x.at_.c3
        have i4 := fun d os => (q d os).x.at_.c4
        have l0 := fun d os => cell_regrown HL.out.c0 d os
        have D1 := Lib.hid (rg HX1.out W4)
        have D2 := Lib.hid (rg (homeP x ((n : Int) % 512)) W4)
        clear q
        refine wp_region_quiet_below (by kernel_rfl) (by kernel_rfl) ?_
        (try simp only [List.append_eq, List.cons_append, List.nil_append])
        repeat (first | go_big_quiet_step (first | (with_reducible exact D1.out _ _) | (with_reducible exact D2.out _ _)))
        refine wpQuiet_nil ?_
        intro _ hw'
        obtain ⟨⟨dq, osq⟩, hw''⟩ := hw'
        replace HP := Lib.hid (HP4.out.more (below_regrown W4 dq osq))
        replace HL := Lib.hid (HL.out.below (below_regrown W4 dq osq))
        obtain ⟨w5, hw5⟩ : ∃ w5, w5 = grow (redrawn W4 dq) osq := ⟨_, rfl⟩
        rw [← hw5] at HP HL
        subst hw''
        dsimp only
        rw [← hw5]
        clear hw5 i0 i1 i2 i3 i4 l0 D1 D2 HP4
        have l0 := HL.out.c0
        have l1 := HL.out.c1
        have CL := Lib.hid (fun W => leaf_calls ((n : Int) % 512) x.data W (by rw [HDL.out]; omega))
        unfold lfV at CL
        go_wp2_with fail
        (with_reducible refine (CL.out _).mono ?_)
        rintro e w6 ⟨rfl, hB6⟩
        replace HP := Lib.hid (HP.out.more hB6)
        clear hB6 l0 l1 CL HL
        go_wp2_with fail
        (with_reducible refine (parseL ((n : Int) % 512) x.data _).mono ?_)
        rintro e w7 ⟨rfl, hB7⟩
        replace HP := Lib.hid (HP.out.more (below_trans' hB7 (below_one w7 (.cells #[.int .i64 0, .int .i64 0, .bool false, .int .i64 0, .string ⟨#[]⟩] 23))))
        obtain ⟨W8, hW8⟩ : ∃ W8, W8 = w7.alloc (.cells #[.int .i64 0, .int .i64 0, .bool false, .int .i64 0, .string ⟨#[]⟩] 23) := ⟨_, rfl⟩
        rw [← hW8] at HP
        have HW8 := Lib.hid hW8
        clear hB7 hW8
        go_wp2_with fail
        rw [← HW8.out]
        clear HW8
        have q := fun d os => HP.out.more (below_regrown W8 d os)
        have i0 := fun d os => (q d os).x.at_.c0
        have i1 := fun d os => (q d os).x.at_.c1
        have i2 := fun d os => (q d os).x.at_.c2
        have i3 := fun d os => (q d os).x.at_.c3
        have i4 := fun d os => (q d os).x.at_.c4
        have j0 := fun d os => (q d os).y.at_.c0
        have j1 := fun d os => (q d os).y.at_.c1
        have j2 := fun d os => (q d os).y.at_.c2
        have j3 := fun d os => (q d os).y.at_.c3
        have j4 := fun d os => (q d os).y.at_.c4
        have D1 := Lib.hid (rg HX1.out W8)
        have D2 := Lib.hid (rg HY1.out W8)
        have D3 := Lib.hid (rg awake_true W8)
        obtain ⟨D, hD⟩ : ∃ D, D = decide (x = y) := ⟨_, rfl⟩
        have hq := eql23 x y
        unfold enV at hq
        have hpe := HPE.out
        rw [← hD] at hq hpe
        clear hD
        clear q
        refine wp_region_quiet_below (by kernel_rfl) (by kernel_rfl) ?_
        (try simp only [List.append_eq, List.cons_append, List.nil_append])
        repeat (first | go_big_quiet_step (first | (with_reducible exact D1.out _ _) | (with_reducible exact D2.out _ _) | (with_reducible exact D3.out _ _)))
        refine wpQuiet_nil ?_
        intro _ hw'
        obtain ⟨⟨dq, osq⟩, hw''⟩ := hw'
        subst hw''
        go_wp2_with fail
        go_ret
        exact ⟨rfl, (HP.out.more (below_regrown W8 dq osq)).below⟩

end Go.Proofs.Ytompckbcaccmiaa
