/- AnchorApart: the walk. No statement is proved here. -/
import Derived.Test.YtibgimlfhpjeeaaAAwake
namespace Go.Proofs.Ytibgimlfhpjeeaa
open Go.RowKit Go.Sort

/-- What lies when the two are there. -/
structure AP (w W : World) (x y : Sh) : Prop where
  x : SBox W w.heap.size x
  y : SBox W (w.heap.size + 1) y
  below : Below w.heap.size w W
theorem AP.more {w W W' : World} {x y : Sh} (h : AP w W x y) (k : Below W.heap.size W W') : AP w W' x y := ⟨h.x.below k, h.y.below k, below_trans' h.below k⟩
theorem AP.new (w : World) (x y : Sh) : AP w ((w.alloc (.cells #[.int .i64 x.pages, .int .i64 x.journal] 23)).alloc (.cells #[.int .i64 y.pages, .int .i64 y.journal] 23)) x y := by
  refine ⟨(SBox.new w x).below (below_one _ _), ?_, below_trans' (below_one _ _) (below_one _ _)⟩
  have := SBox.new (w.alloc (.cells #[.int .i64 x.pages, .int .i64 x.journal] 23)) y
  rw [show (w.alloc (.cells #[.int .i64 x.pages, .int .i64 x.journal] 23)).heap.size = w.heap.size + 1 by simp] at this
  exact this

theorem prints_eq {a b : Sh} (ha : rightS a = true) (hb : rightS b = true) : ((strB (printL a)).toList == (strB (printL b)).toList) = decide (a = b) := by
  rw [strB_toList, strB_toList, Bool.eq_iff_iff, beq_iff_eq, decide_eq_true_iff]
  exact ⟨print_inj ha hb, fun h => by rw [h]⟩
theorem log_in {n : Int} (h0 : -1000 ≤ n) (h1 : n ≤ 100000) : logN n = 1 + n := by unfold logN wrap64; omega
theorem place_in {x : Sh} (h : rightS x = true) {n : Int} (h0 : 0 ≤ n) (h1 : n ≤ 100000) : placeN x n = 1 + x.journal + n := by
  have := right_iff.1 h
  unfold placeN
  rw [log_in (by omega) (by omega)]
  unfold wrap64
  omega
theorem sizes_eq {a b : Sh} (ha : rightS a = true) (hb : rightS b = true) : (placeN a a.pages == placeN b b.pages) = (a.pages + a.journal == b.pages + b.journal) := by
  have h1 := right_iff.1 ha
  have h2 := right_iff.1 hb
  rw [place_in ha (by omega) (by omega), place_in hb (by omega) (by omega), Bool.eq_iff_iff, beq_iff_eq, beq_iff_eq]
  omega

set_option maxRecDepth 100000 in
set_option maxHeartbeats 16000000 in
theorem apart_calls (x y : Sh) (s : ByteArray) (w : World) (hsz : s.size < 9223372036854775808) :
    Calls Try.prog 5 #[shV x, shV y, .string s] w fun e w' => e = .returned (.bool true) ∧ Below w.heap.size w w' := by
  obtain ⟨l, rfl⟩ : ∃ l, s = strB l := ⟨s.data.toList, (strB_of s).symm⟩
  have CX := Lib.hid (right_calls x)
  have CY := Lib.hid (right_calls y)
  have PX := Lib.hid (print_calls x)
  have PY := Lib.hid (print_calls y)
  unfold shV at CX CY PX PY
  obtain ⟨Y, hY, hAP⟩ : ∃ Y, Y = (w.alloc (.cells #[.int .i64 x.pages, .int .i64 x.journal] 23)).alloc (.cells #[.int .i64 y.pages, .int .i64 y.journal] 23) ∧ AP w Y x y := ⟨_, rfl, AP.new w x y⟩
  have HY := Lib.hid hY
  have HP := Lib.hid hAP
  clear hY hAP
  unfold shV
  cases rx : rightS x with
  | false =>
    go_enter Try.func5, Try.ntmps5
    go_wp2_with fail
    rw [← HY.out]
    (with_reducible refine (CX.out _).mono ?_)
    rintro e w1 ⟨rfl, hB1⟩
    rw [rx]
    go_wp2_with fail
    (with_reducible refine (awake_true _).mono ?_)
    rintro e w2 ⟨rfl, hB2⟩
    go_wp2_with fail
    go_ret
    exact ⟨rfl, ((HP.out.more hB1).more hB2).below⟩
  | true =>
    cases ry : rightS y with
    | false =>
      go_enter Try.func5, Try.ntmps5
      go_wp2_with fail
      rw [← HY.out]
      (with_reducible refine (CX.out _).mono ?_)
      rintro e w1 ⟨rfl, hB1⟩
      rw [rx]
      replace HP := Lib.hid (HP.out.more hB1)
      clear hB1
      have k0 := HP.out.y.c0
      have k1 := HP.out.y.c1
      go_wp2_with fail
      (with_reducible refine (CY.out _).mono ?_)
      rintro e w2 ⟨rfl, hB2⟩
      rw [ry]
      replace HP := Lib.hid (HP.out.more hB2)
      clear hB2 k0 k1
      go_wp2_with fail
      (with_reducible refine (awake_true _).mono ?_)
      rintro e w3 ⟨rfl, hB3⟩
      go_wp2_with fail
      go_ret
      exact ⟨rfl, (HP.out.more hB3).below⟩
    | true =>
      have HPE := Lib.hid (prints_eq rx ry)
      have HSE := Lib.hid (sizes_eq rx ry)
      have b1 := right_iff.1 rx
      have b2 := right_iff.1 ry
      have HB1 := Lib.hid b1
      have HB2 := Lib.hid b2
      clear b1 b2
      go_enter Try.func5, Try.ntmps5
      go_wp2_with fail
      rw [← HY.out]
      (with_reducible refine (CX.out _).mono ?_)
      rintro e w1 ⟨rfl, hB1⟩
      rw [rx]
      replace HP := Lib.hid (HP.out.more hB1)
      clear hB1 HY
      have k0 := HP.out.y.c0
      have k1 := HP.out.y.c1
      go_wp2_with fail
      (with_reducible refine (CY.out _).mono ?_)
      rintro e w2 ⟨rfl, hB2⟩
      rw [ry]
      replace HP := Lib.hid (HP.out.more hB2)
      clear hB2 k0 k1 CX CY rx ry
      by_cases hlen : (300 : Int) < ((strB l).size : Int)
      · have hl2 : 300 < (strB l).size := by omega
        go_wp2_with fail
        (with_reducible refine (awake_true _).mono ?_)
        rintro e w3 ⟨rfl, hB3⟩
        go_wp2_with fail
        go_ret
        exact ⟨rfl, (HP.out.more hB3).below⟩
      · have hl2 : ¬ 300 < (strB l).size := by omega
        obtain ⟨R, hR⟩ : ∃ R, R = parseS l := ⟨_, rfl⟩
        obtain ⟨b, hb⟩ : ∃ b, b = isS l := ⟨_, rfl⟩
        have hPC := parse_calls l
        rw [← hR, ← hb] at hPC
        have HPC := Lib.hid hPC
        have CR := Lib.hid (right_calls R)
        have PR := Lib.hid (print_calls R)
        have SX := Lib.hid (size_calls x)
        have SY := Lib.hid (size_calls y)
        unfold shV at HPC CR PR SX SY
        have HRR : Hid (b = true → rightS R = true ∧ printL R = l) := Lib.hid (by rw [hR, hb]; exact is_right)
        clear hPC hR hb
        go_wp2_with fail
        (with_reducible refine (HPC.out _).mono ?_)
        rintro e w3 ⟨rfl, hB3⟩
        replace HP := Lib.hid (HP.out.more (below_trans' hB3 (below_one w3 (.cells #[.int .i64 R.pages, .int .i64 R.journal] 23))))
        have HZ := Lib.hid (SBox.new w3 R)
        obtain ⟨W4, hW4⟩ : ∃ W4, W4 = w3.alloc (.cells #[.int .i64 R.pages, .int .i64 R.journal] 23) := ⟨_, rfl⟩
        rw [← hW4] at HP HZ
        have HW4 := Lib.hid hW4
        clear hB3 hW4 HPC
        go_wp2_with fail
        rw [← HW4.out]
        clear HW4
        have q := fun d os => HP.out.more (below_regrown W4 d os)
        have i0 := fun d os => (q d os).x.c0
        have i1 := fun d os => (q d os).x.c1
        have j0 := fun d os => (q d os).y.c0
        have j1 := fun d os => (q d os).y.c1
        have z0 := fun d os => cell_regrown HZ.out.c0 d os
        have z1 := fun d os => cell_regrown HZ.out.c1 d os
        have D1 := Lib.hid (rg PX.out W4)
        have D2 := Lib.hid (rg PY.out W4)
        have D3 := Lib.hid (rg awake_true W4)
        have D4 := Lib.hid (rg SX.out W4)
        have D5 := Lib.hid (rg SY.out W4)
        have D6 := Lib.hid (rg CR.out W4)
        have D7 := Lib.hid (rg PR.out W4)
        obtain ⟨D, hD⟩ : ∃ D, D = decide (x = y) := ⟨_, rfl⟩
        have hq := eql23 x y
        unfold shV at hq
        have hpe := HPE.out
        rw [← hD] at hq hpe
        have hse := HSE.out
        obtain ⟨m1, m2, m3, m4⟩ := HB1.out
        obtain ⟨n1, n2, n3, n4⟩ := HB2.out
        clear hD q PX PY SX SY CR PR
        cases b with
        | false =>
          clear D6 D7
          refine wp_region_quiet_below (by kernel_rfl) (by kernel_rfl) ?_
          (try simp only [List.append_eq, List.cons_append, List.nil_append])
          repeat (first | go_big_quiet_step (first | (with_reducible exact D1.out _ _) | (with_reducible exact D2.out _ _) | (with_reducible exact D3.out _ _) | (with_reducible exact D4.out _ _) | (with_reducible exact D5.out _ _)))
          refine wpQuiet_nil ?_
          intro _ hw'
          obtain ⟨⟨dq, osq⟩, hw''⟩ := hw'
          subst hw''
          go_wp2_with fail
          go_ret
          exact ⟨rfl, (HP.out.more (below_regrown W4 dq osq)).below⟩
        | true =>
          obtain ⟨r1, r2⟩ := HRR.out rfl
          rw [r1] at D6
          have hpl : ((strB (printL R)).toList == (strB l).toList) = true := by rw [r2]; simp
          clear r1 r2
          refine wp_region_quiet_below (by kernel_rfl) (by kernel_rfl) ?_
          (try simp only [List.append_eq, List.cons_append, List.nil_append])
          repeat (first | go_big_quiet_step (first | (with_reducible exact D1.out _ _) | (with_reducible exact D2.out _ _) | (with_reducible exact D3.out _ _) | (with_reducible exact D4.out _ _) | (with_reducible exact D5.out _ _) | (with_reducible exact D6.out _ _) | (with_reducible exact D7.out _ _)))
          refine wpQuiet_nil ?_
          intro _ hw'
          obtain ⟨⟨dq, osq⟩, hw''⟩ := hw'
          subst hw''
          go_wp2_with fail
          go_ret
          exact ⟨rfl, (HP.out.more (below_regrown W4 dq osq)).below⟩

end Go.Proofs.Ytibgimlfhpjeeaa
