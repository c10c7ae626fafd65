/- EntryTells: the walk. No statement is proved here. -/
import Derived.Test.YtompckbcaccmiaaEAwake
import Derived.Test.YtompckbcaccmiaaESame
import Derived.Test.YtompckbcaccmiaaERParseE
namespace Go.Proofs.Ytompckbcaccmiaa
open Go.RowKit Go.Sort
open Wire (TK TP But twoL fourL numV numS markS)
open Crc (sealB Only)

/-- What lies when the entry is there. -/
structure TO (w W : World) (x : En) : Prop where
  x : EBox W w.heap.size x
  below : Below w.heap.size w W
theorem TO.more {w W W' : World} {x : En} (h : TO w W x) (k : Below W.heap.size W W') : TO w W' x := ⟨h.x.below k, below_trans' h.below k⟩

set_option maxRecDepth 100000 in
set_option maxHeartbeats 16000000 in
theorem tells_calls (x : En) (s : List UInt8) (w : World) :
    Calls Try.prog 3 #[enV x, .string (strB s)] w fun e w' => e = .returned (.bool true) ∧ Below w.heap.size w w' := by
  obtain ⟨Y, hY, hTO⟩ : ∃ Y, Y = w.alloc (.cells (enC x) 23) ∧ TO w Y x := ⟨_, rfl, EBox.new w x, below_one _ _⟩
  unfold enC at hY
  have HY := Lib.hid hY
  have HP := Lib.hid hTO
  have hsd := strB_size x.data
  have hss := strB_size s
  clear hY hTO
  by_cases h1 : 300 < x.data.length
  · have q1 : (300 : Int) < ((strB x.data).size : Int) := by omega
    clear hsd hss h1
    unfold enV
    go_enter Try.func3, Try.ntmps3
    go_wp2_with fail
    rw [← HY.out]
    (with_reducible refine (awake_true _).mono ?_)
    rintro e w2 ⟨rfl, hB2⟩
    go_wp2_with fail
    go_ret
    exact ⟨rfl, (HP.out.more hB2).below⟩
  · have q1 : ¬ (300 : Int) < ((strB x.data).size : Int) := by omega
    by_cases h2 : 300 < s.length
    · have q2 : (300 : Int) < ((strB s).size : Int) := by omega
      clear hsd hss h1 h2
      unfold enV
      go_enter Try.func3, Try.ntmps3
      go_wp2_with fail
      rw [← HY.out]
      (with_reducible refine (awake_true _).mono ?_)
      rintro e w2 ⟨rfl, hB2⟩
      go_wp2_with fail
      go_ret
      exact ⟨rfl, (HP.out.more hB2).below⟩
    · have q2 : ¬ (300 : Int) < ((strB s).size : Int) := by omega
      have C1 := Lib.hid (right_calls x)
      have C2 := Lib.hid (rright_calls x)
      have C3 := Lib.hid (fun h W => print_calls x W h)
      have C4 := Lib.hid (fun h W => rprint_calls x W h)
      have C5 := Lib.hid (parse_calls s)
      have C6 := Lib.hid (rparse_calls s)
      obtain ⟨P, hP⟩ : ∃ P, P = parseE s := ⟨_, rfl⟩
      obtain ⟨b, hb⟩ : ∃ b, b = isE s := ⟨_, rfl⟩
      obtain ⟨L, hL⟩ : ∃ L, L = printL x := ⟨_, rfl⟩
      rw [← hP, ← hb] at C5 C6
      rw [← hL] at C3 C4
      have hq := eql23 P P
      rw [decide_eq_true rfl] at hq
      have HQ := Lib.hid hq
      unfold enV at C1 C2 C3 C4 C5 C6 HQ
      clear hsd hss h1 h2 hP hb hL hq
      unfold enV
      go_enter Try.func3, Try.ntmps3
      go_wp2_with fail
      rw [← HY.out]
      (with_reducible refine (C1.out _).mono ?_)
      rintro e w1 ⟨rfl, hB1⟩
      replace HP := Lib.hid (HP.out.more hB1)
      clear hB1 C1 HY q1 q2
      go_wp2_with fail
      (with_reducible refine (C5.out _).mono ?_)
      rintro e w2 ⟨rfl, hB2⟩
      have hB2' := below_trans' hB2 (below_one w2 (.cells (enC P) 23))
      replace HP := Lib.hid (HP.out.more hB2')
      have HA := Lib.hid (EBox.new w2 P)
      unfold enC at HP HA
      clear hB2 hB2' C5
      go_wp2_with fail
      (with_reducible refine (C6.out _).mono ?_)
      rintro e w3 ⟨rfl, hB3⟩
      have hB3' := below_trans' hB3 (below_one w3 (.cells (enC P) 23))
      replace HP := Lib.hid (HP.out.more hB3')
      replace HA := Lib.hid (EBox.below (x := P) HA.out hB3')
      have HBx := Lib.hid (EBox.new w3 P)
      obtain ⟨W4, hW4⟩ : ∃ W4, W4 = w3.alloc (.cells (enC P) 23) := ⟨_, rfl⟩
      rw [← hW4] at HP HA HBx
      unfold enC at hW4
      have HW4 := Lib.hid hW4
      clear hB3 hB3' hW4 C6
      go_wp2_with fail
      rw [← HW4.out]
      clear HW4
      have i0 := fun d os => cell_regrown HP.out.x.at_.c0 d os
      have i1 := fun d os => cell_regrown HP.out.x.at_.c1 d os
      have i2 := fun d os => cell_regrown HP.out.x.at_.c2 d os
      have i3 := fun d os => cell_regrown HP.out.x.at_.c3 d os
      have i4 := fun d os => cell_regrown HP.out.x.at_.c4 d os
      have j0 := fun d os => cell_regrown HA.out.at_.c0 d os
      have j1 := fun d os => cell_regrown HA.out.at_.c1 d os
      have j2 := fun d os => cell_regrown HA.out.at_.c2 d os
      have j3 := fun d os => cell_regrown HA.out.at_.c3 d os
      have j4 := fun d os => cell_regrown HA.out.at_.c4 d os
      have k0 := fun d os => cell_regrown HBx.out.at_.c0 d os
      have k1 := fun d os => cell_regrown HBx.out.at_.c1 d os
      have k2 := fun d os => cell_regrown HBx.out.at_.c2 d os
      have k3 := fun d os => cell_regrown HBx.out.at_.c3 d os
      have k4 := fun d os => cell_regrown HBx.out.at_.c4 d os
      have D1 := Lib.hid (rg awake_true W4)
      have D2 := Lib.hid (rg C2.out W4)
      have hq := HQ.out
      rcases Bool.eq_false_or_eq_true (rightE x) with rx | rx
      · rw [rx] at D2 ⊢
        have D3 := Lib.hid (rg (C3.out (by have := right_data rx; omega)) W4)
        have D4 := Lib.hid (rg (C4.out (by have := right_data rx; omega)) W4)
        clear rx C2 C3 C4
        refine wp_region_quiet_below (by kernel_rfl) (by kernel_rfl) ?_
        (try simp only [List.append_eq, List.cons_append, List.nil_append])
        repeat (first | go_big_quiet_step (first | (with_reducible exact D1.out _ _) | (with_reducible exact D2.out _ _) | (with_reducible exact D3.out _ _) | (with_reducible exact D4.out _ _)))
        refine wpQuiet_nil ?_
        intro _ hw'
        obtain ⟨⟨dq, osq⟩, hw''⟩ := hw'
        subst hw''
        go_wp2_with fail
        go_ret
        exact ⟨rfl, (HP.out.more (below_regrown W4 dq osq)).below⟩
      · rw [rx] at D2 ⊢
        clear rx C2 C3 C4
        refine wp_region_quiet_below (by kernel_rfl) (by kernel_rfl) ?_
        (try simp only [List.append_eq, List.cons_append, List.nil_append])
        repeat (first | go_big_quiet_step (first | (with_reducible exact D1.out _ _) | (with_reducible exact D2.out _ _)))
        refine wpQuiet_nil ?_
        intro _ hw'
        obtain ⟨⟨dq, osq⟩, hw''⟩ := hw'
        subst hw''
        go_wp2_with fail
        go_ret
        exact ⟨rfl, (HP.out.more (below_regrown W4 dq osq)).below⟩

theorem tells_law (x : En) (b : ByteArray) (w : World) :
    Calls Try.prog 3 #[enV x, .string b] w fun e w' => e = .returned (.bool true) ∧ Below w.heap.size w w' := by
  have h := tells_calls x b.data.toList w
  rw [strB_of] at h
  exact h

end Go.Proofs.Ytompckbcaccmiaa
