/- EntryHomes: the walk. No statement is proved here. -/
import Derived.Test.YtompckbcaccmiaaEAwake
import Derived.Test.YtompckbcaccmiaaERHome
namespace Go.Proofs.Ytompckbcaccmiaa
open Go.RowKit Go.Sort
open Wire (TK TP But twoL fourL numV numS markS)
open Crc (sealB Only)

/-- What lies when the page is there. -/
structure HO (w W : World) (no : Int) (d : List UInt8) : Prop where
  p : LBox W w.heap.size no d
  below : Below w.heap.size w W
theorem HO.more {w W W' : World} {no : Int} {d : List UInt8} (h : HO w W no d) (k : Below W.heap.size W W') : HO w W' no d := ⟨h.p.below k, below_trans' h.below k⟩

set_option maxRecDepth 100000 in
set_option maxHeartbeats 16000000 in
theorem homes_calls (no : Int) (d s : List UInt8) (w : World) :
    Calls Try.prog 4 #[lfV no d, .string (strB s)] w fun e w' => e = .returned (.bool true) ∧ Below w.heap.size w w' := by
  obtain ⟨Y, hY, hHO⟩ : ∃ Y, Y = w.alloc (.cells #[.int .i64 no, .string (strB d)] 31) ∧ HO w Y no d := ⟨_, rfl, LBox.new w no d, below_one _ _⟩
  have HY := Lib.hid hY
  have HP := Lib.hid hHO
  have hsd := strB_size d
  have hss := strB_size s
  clear hY hHO
  unfold lfV
  by_cases h1 : d.length = 208
  · have q1 : (strB d).size = 208 := by omega
    by_cases h2 : no < 0
    · clear hsd hss h1
      go_enter Try.func4, Try.ntmps4
      go_wp2_with fail
      rw [← HY.out]
      (with_reducible refine (awake_true _).mono ?_)
      rintro e w2 ⟨rfl, hB2⟩
      go_wp2_with fail
      go_ret
      exact ⟨rfl, (HP.out.more hB2).below⟩
    · have h2' : 0 ≤ no := by omega
      by_cases h3 : 512 ≤ no
      · clear hsd hss h1
        go_enter Try.func4, Try.ntmps4
        go_wp2_with fail
        rw [← HY.out]
        (with_reducible refine (awake_true _).mono ?_)
        rintro e w2 ⟨rfl, hB2⟩
        go_wp2_with fail
        go_ret
        exact ⟨rfl, (HP.out.more hB2).below⟩
      · have h3' : no < 512 := by omega
        by_cases h4 : 300 < s.length
        · have q4 : (300 : Int) < ((strB s).size : Int) := by omega
          clear hsd hss h1 h4
          go_enter Try.func4, Try.ntmps4
          go_wp2_with fail
          rw [← HY.out]
          (with_reducible refine (awake_true _).mono ?_)
          rintro e w2 ⟨rfl, hB2⟩
          go_wp2_with fail
          go_ret
          exact ⟨rfl, (HP.out.more hB2).below⟩
        · have q4 : ¬ (300 : Int) < ((strB s).size : Int) := by omega
          have CR := Lib.hid (fun W => rhome_calls s no W h2' (by omega))
          have CH := Lib.hid (home_calls s no)
          have CL := Lib.hid (fun W => leaf_calls no d W (by omega))
          have CM := Lib.hid (fun W => rleaf_calls no d W (by omega))
          unfold lfV at CL CM
          obtain ⟨L, hL⟩ : ∃ L, L = leafL no d := ⟨_, rfl⟩
          rw [← hL] at CL CM
          clear hsd hss h1 h4 hL
          have HQ4 := Lib.hid q4
          go_enter Try.func4, Try.ntmps4
          go_wp2_with fail
          rw [← HY.out]
          (with_reducible refine (CH.out _).mono ?_)
          rintro e w1 ⟨rfl, hB1⟩
          replace HP := Lib.hid (HP.out.more hB1)
          have p0 := HP.out.p.c0
          clear hB1 CH HY q1 q4 HQ4 h2 h3 h2' h3'
          go_wp2_with fail
          (with_reducible refine (CR.out _).mono ?_)
          rintro e w2 ⟨v, rfl, hv, hB2⟩
          replace HP := Lib.hid (HP.out.more hB2)
          clear hB2 CR p0
          have p0 := fun d os => cell_regrown HP.out.p.c0 d os
          have p1 := fun d os => cell_regrown HP.out.p.c1 d os
          have D1 := Lib.hid (rg awake_true w2)
          have D2 := Lib.hid (rg CL.out w2)
          have D3 := Lib.hid (rg CM.out w2)
          clear CL CM
          rcases Bool.eq_false_or_eq_true (homeB s no) with hq | hq
          · obtain rfl := hv hq
            rw [hq]
            clear hv
            generalize homeV s no = v at *
            go_wp2_with fail
            refine wp_region_quiet_below (by kernel_rfl) (by kernel_rfl) ?_
            (try simp only [List.append_eq, List.cons_append, List.nil_append])
            repeat (first | go_big_quiet_step (first | (with_reducible exact D1.out _ _) | (with_reducible exact D2.out _ _) | (with_reducible exact D3.out _ _)))
            refine wpQuiet_nil ?_
            intro _ hw'
            obtain ⟨⟨dq, osq⟩, hw''⟩ := hw'
            subst hw''
            go_wp2_with fail
            go_ret
            exact ⟨rfl, (HP.out.more (below_regrown w2 dq osq)).below⟩
          · rw [hq]
            clear hv hq
            go_wp2_with fail
            refine wp_region_quiet_below (by kernel_rfl) (by kernel_rfl) ?_
            (try simp only [List.append_eq, List.cons_append, List.nil_append])
            repeat (first | go_big_quiet_step (first | (with_reducible exact D1.out _ _) | (with_reducible exact D2.out _ _) | (with_reducible exact D3.out _ _)))
            refine wpQuiet_nil ?_
            intro _ hw'
            obtain ⟨⟨dq, osq⟩, hw''⟩ := hw'
            subst hw''
            go_wp2_with fail
            go_ret
            exact ⟨rfl, (HP.out.more (below_regrown w2 dq osq)).below⟩
  · have q1 : (((strB d).size : Int) == 208) = false := by rw [beq_eq_false_iff_ne]; omega
    have q2 : ¬ (strB d).size = 208 := by omega
    clear hsd hss h1
    go_enter Try.func4, Try.ntmps4
    go_wp2_with fail
    rw [← HY.out]
    (with_reducible refine (awake_true _).mono ?_)
    rintro e w2 ⟨rfl, hB2⟩
    go_wp2_with fail
    go_ret
    exact ⟨rfl, (HP.out.more hB2).below⟩

theorem homes_law (no : Int) (d : List UInt8) (b : ByteArray) (w : World) :
    Calls Try.prog 4 #[lfV no d, .string b] w fun e w' => e = .returned (.bool true) ∧ Below w.heap.size w w' := by
  have h := homes_calls no d b.data.toList w
  rw [strB_of] at h
  exact h

end Go.Proofs.Ytompckbcaccmiaa
