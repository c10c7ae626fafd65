/- FreshApartToo: the walk. No statement is proved here. -/
import Derived.Test.YtkfjbhikibidiaaRAwake
namespace Go.Proofs.Ytkfjbhikibidiaa
open Go.RowKit
open Go.Sort (grow)

theorem small_len {r : Rec} (h : smallB r = true) : r.spans.length ≤ 30 := by
  unfold smallB at h
  simp only [Bool.and_eq_true, decide_eq_true_eq] at h
  exact h.1

theorem prints_eq {a b : Rec} (ha : rightR a = true) (hb : rightR b = true) : ((strB (printL a)).toList == (strB (printL b)).toList) = decide (a = b) := by
  rw [strB_toList, strB_toList, Bool.eq_iff_iff, beq_iff_eq, decide_eq_true_iff]
  exact ⟨print_inj ha hb, fun h => by rw [h]⟩

theorem cut_calls (r : Rec) (hr : rightR r = true) (k : Nat) (hk : k < (printL r).length) (w : World) :
    Calls Try.prog 9 #[.string ((strB (printL r)).extract 0 k)] w fun e w' => ∃ A n c, e = .returned (.tuple #[recV zeroR (.slice A n c), .bool false]) ∧ Below w.heap.size w w' := by
  rw [strB_extract, List.drop_zero]
  exact none_calls _ (by rw [List.length_take]; have := (right_len hr).2; omega) (parse_cut hr k hk) w

/-- What lies when the two are there. -/
structure AP (w W : World) (a b : Rec) (A : Option Addr) (n c : Nat) (A' : Option Addr) (n' c' : Nat) : Prop where
  x : RBox W w.heap.size a (.slice A n c)
  y : RBox W (w.heap.size + 1) b (.slice A' n' c')
  u : Sps W (.slice A n c) a.spans
  v : Sps W (.slice A' n' c') b.spans
  below : Below w.heap.size w W
section
variable {w W W' : World} {a b : Rec} {A : Option Addr} {n c : Nat} {A' : Option Addr} {n' c' : Nat}
theorem AP.more (h : AP w W a b A n c A' n' c') (hb : Below W.heap.size W W') : AP w W' a b A n c A' n' c' :=
  ⟨h.x.below hb, h.y.below hb, h.u.below hb, h.v.below hb, below_trans' h.below hb⟩
theorem AP.new (hv : Sps w (.slice A n c) a.spans) (hu : Sps w (.slice A' n' c') b.spans) : AP w ((w.alloc (.cells (recC a (.slice A n c)) 26)).alloc (.cells (recC b (.slice A' n' c')) 26)) a b A n c A' n' c' := by
  have hB := below_trans' (below_one w (.cells (recC a (.slice A n c)) 26)) (below_one (w.alloc (.cells (recC a (.slice A n c)) 26)) (.cells (recC b (.slice A' n' c')) 26))
  refine ⟨(RBox.new w _ _).below (below_one _ _), ?_, hv.below hB, hu.below hB, hB⟩
  have := RBox.new (w.alloc (.cells (recC a (.slice A n c)) 26)) b (.slice A' n' c')
  rw [show (w.alloc (.cells (recC a (.slice A n c)) 26)).heap.size = w.heap.size + 1 by simp] at this
  exact this
end

set_option maxRecDepth 100000 in
set_option maxHeartbeats 16000000 in
theorem apart_calls (a b : Rec) (A : Option Addr) (n c : Nat) (A' : Option Addr) (n' c' : Nat) (at_ : Nat) (w : World) (hv : Sps w (.slice A n c) a.spans) (hu : Sps w (.slice A' n' c') b.spans) (hza : SzR a) (hzb : SzR b) (ha : at_ < 65536) :
    Calls Try.prog 4 #[recV a (.slice A n c), recV b (.slice A' n' c'), .int .u16 at_] w fun e w' => e = .returned (.bool true) ∧ Below w.heap.size w w' := by
  have C1 := Lib.hid (fun W => small_calls a A n c W hv.at_.1 hza)
  have C2 := Lib.hid (fun W => small_calls b A' n' c' W hu.at_.1 hzb)
  have C3 := Lib.hid (fun (hs : smallB a = true) W h => right_calls a A n c W h (by have := small_len hs; have := hv.at_.1; omega))
  have C4 := Lib.hid (fun (hs : smallB b = true) W h => right_calls b A' n' c' W h (by have := small_len hs; have := hu.at_.1; omega))
  have C5 := Lib.hid (fun (hs : smallB a = true) W h => print_calls a A n c W h (by have := small_len hs; have := hv.at_.1; omega))
  have C6 := Lib.hid (fun (hs : smallB b = true) W h => print_calls b A' n' c' W h (by have := small_len hs; have := hu.at_.1; omega))
  have C7 := Lib.hid (fun W h1 h2 h3 => same_calls a b A n c A' n' c' W h1 h2 h3)
  unfold recV at C1 C2 C3 C4 C5 C6 C7
  have HN := Lib.hid hv.at_.1
  obtain ⟨Y, hY, hAP⟩ : ∃ Y, Y = (w.alloc (.cells (recC a (.slice A n c)) 26)).alloc (.cells (recC b (.slice A' n' c')) 26) ∧ AP w Y a b A n c A' n' c' := ⟨_, rfl, AP.new hv hu⟩
  unfold recC at hY
  have HY := Lib.hid hY
  have HP := Lib.hid hAP
  clear hY hAP hv hu hza hzb
  unfold recV
  cases s1 : smallB a with
  | false =>
    go_enter Try.func4, Try.ntmps4
    go_wp2_with fail
    rw [← HY.out]
    (with_reducible refine (C1.out _).mono ?_)
    rintro e w1 ⟨rfl, hB1⟩
    rw [s1]
    go_wp2_with fail
    (with_reducible refine (awake_true _).mono ?_)
    rintro e w2 ⟨rfl, hB2⟩
    go_wp2_with fail
    go_ret
    exact ⟨rfl, ((HP.out.more hB1).more hB2).below⟩
  | true =>
    cases s2 : smallB b with
    | false =>
      go_enter Try.func4, Try.ntmps4
      go_wp2_with fail
      rw [← HY.out]
      (with_reducible refine (C1.out _).mono ?_)
      rintro e w1 ⟨rfl, hB1⟩
      rw [s1]
      replace HP := Lib.hid (HP.out.more hB1)
      clear hB1
      obtain ⟨k0, k1, k2, k3, k4, k5, k6, k7, k8⟩ := HP.out.y.at_
      go_wp2_with fail
      (with_reducible refine (C2.out _).mono ?_)
      rintro e w2 ⟨rfl, hB2⟩
      rw [s2]
      replace HP := Lib.hid (HP.out.more hB2)
      clear hB2 k0 k1 k2 k3 k4 k5 k6 k7 k8
      go_wp2_with fail
      (with_reducible refine (awake_true _).mono ?_)
      rintro e w3 ⟨rfl, hB3⟩
      go_wp2_with fail
      go_ret
      exact ⟨rfl, (HP.out.more hB3).below⟩
    | true =>
      cases r1 : rightR a with
      | false =>
        go_enter Try.func4, Try.ntmps4
        go_wp2_with fail
        rw [← HY.out]
        (with_reducible refine (C1.out _).mono ?_)
        rintro e w1 ⟨rfl, hB1⟩
        rw [s1]
        replace HP := Lib.hid (HP.out.more hB1)
        clear hB1
        obtain ⟨k0, k1, k2, k3, k4, k5, k6, k7, k8⟩ := HP.out.y.at_
        go_wp2_with fail
        (with_reducible refine (C2.out _).mono ?_)
        rintro e w2 ⟨rfl, hB2⟩
        rw [s2]
        replace HP := Lib.hid (HP.out.more hB2)
        clear hB2 k0 k1 k2 k3 k4 k5 k6 k7 k8
        obtain ⟨k0, k1, k2, k3, k4, k5, k6, k7, k8⟩ := HP.out.x.at_
        go_wp2_with fail
        (with_reducible refine (C3.out s1 _ HP.out.u).mono ?_)
        rintro e w3 ⟨rfl, hB3⟩
        rw [r1]
        replace HP := Lib.hid (HP.out.more hB3)
        clear hB3 k0 k1 k2 k3 k4 k5 k6 k7 k8
        go_wp2_with fail
        (with_reducible refine (awake_true _).mono ?_)
        rintro e w4 ⟨rfl, hB4⟩
        go_wp2_with fail
        go_ret
        exact ⟨rfl, (HP.out.more hB4).below⟩
      | true =>
        go_enter Try.func4, Try.ntmps4
        go_wp2_with fail
        rw [← HY.out]
        (with_reducible refine (C1.out _).mono ?_)
        rintro e w1 ⟨rfl, hB1⟩
        rw [s1]
        replace HP := Lib.hid (HP.out.more hB1)
        clear hB1
        obtain ⟨k0, k1, k2, k3, k4, k5, k6, k7, k8⟩ := HP.out.y.at_
        go_wp2_with fail
        (with_reducible refine (C2.out _).mono ?_)
        rintro e w2 ⟨rfl, hB2⟩
        rw [s2]
        replace HP := Lib.hid (HP.out.more hB2)
        clear hB2 k0 k1 k2 k3 k4 k5 k6 k7 k8
        obtain ⟨k0, k1, k2, k3, k4, k5, k6, k7, k8⟩ := HP.out.x.at_
        go_wp2_with fail
        (with_reducible refine (C3.out s1 _ HP.out.u).mono ?_)
        rintro e w3 ⟨rfl, hB3⟩
        rw [r1]
        replace HP := Lib.hid (HP.out.more hB3)
        clear hB3 k0 k1 k2 k3 k4 k5 k6 k7 k8
        obtain ⟨k0, k1, k2, k3, k4, k5, k6, k7, k8⟩ := HP.out.y.at_
        go_wp2_with fail
        (with_reducible refine (C4.out s2 _ HP.out.v).mono ?_)
        rintro e w4 ⟨rfl, hB4⟩
        replace HP := Lib.hid (HP.out.more hB4)
        clear hB4 k0 k1 k2 k3 k4 k5 k6 k7 k8
        cases r2 : rightR b with
        | false =>
          go_wp2_with fail
          (with_reducible refine (awake_true _).mono ?_)
          rintro e w5 ⟨rfl, hB5⟩
          go_wp2_with fail
          go_ret
          exact ⟨rfl, (HP.out.more hB5).below⟩
        | true =>
          have q := fun d os => (HP.out.more (below_regrown w4 d os))
          have i0 := fun d os => (q d os).x.at_.c0
          have i1 := fun d os => (q d os).x.at_.c1
          have i2 := fun d os => (q d os).x.at_.c2
          have i3 := fun d os => (q d os).x.at_.c3
          have i4 := fun d os => (q d os).x.at_.c4
          have i5 := fun d os => (q d os).x.at_.c5
          have i6 := fun d os => (q d os).x.at_.c6
          have i7 := fun d os => (q d os).x.at_.c7
          have i8 := fun d os => (q d os).x.at_.c8
          have j0 := fun d os => (q d os).y.at_.c0
          have j1 := fun d os => (q d os).y.at_.c1
          have j2 := fun d os => (q d os).y.at_.c2
          have j3 := fun d os => (q d os).y.at_.c3
          have j4 := fun d os => (q d os).y.at_.c4
          have j5 := fun d os => (q d os).y.at_.c5
          have j6 := fun d os => (q d os).y.at_.c6
          have j7 := fun d os => (q d os).y.at_.c7
          have j8 := fun d os => (q d os).y.at_.c8
          have D5 : Hid (∀ d os, _) := Lib.hid (fun d os => Calls.regrown_of (w := w4) (d := d) (os := os) (C5.out s1 _ (q d os).u))
          have D6 : Hid (∀ d os, _) := Lib.hid (fun d os => Calls.regrown_of (w := w4) (d := d) (os := os) (C6.out s2 _ (q d os).v))
          clear q
          go_wp2_with fail
          refine wp_region_quiet_below (by kernel_rfl) (by kernel_rfl) ?_
          (try simp only [List.append_eq, List.cons_append, List.nil_append])
          repeat (first | go_big_quiet_step (first | (with_reducible exact D5.out _ _) | (with_reducible exact D6.out _ _)))
          refine wpQuiet_nil ?_
          intro _ hw'
          obtain ⟨⟨dq, osq⟩, hw''⟩ := hw'
          replace HP := Lib.hid (HP.out.more (below_regrown w4 dq osq))
          obtain ⟨w5, hw5⟩ : ∃ w5, w5 = grow (redrawn w4 dq) osq := ⟨_, rfl⟩
          rw [← hw5] at HP
          subst hw''
          dsimp only
          rw [← hw5]
          clear hw5 i0 i1 i2 i3 i4 i5 i6 i7 i8 j0 j1 j2 j3 j4 j5 j6 j7 j8 D5 D6
          have hlen := strB_size (printL a)
          have h10 := (right_len r1).1
          obtain ⟨k, hk⟩ : ∃ k : Nat, (at_ : Int) % ((strB (printL a)).size : Int) = (k : Int) := ⟨at_ % (strB (printL a)).size, by simp⟩
          have hkl : k < (printL a).length := by
            have := Int.emod_lt_of_pos (at_ : Int) (show 0 < ((strB (printL a)).size : Int) by omega)
            omega
          have hk1 : k ≤ (strB (printL a)).size := by omega
          have g0 : (((strB (printL a)).size : Int) == 0) = false := by rw [beq_eq_false_iff_ne]; omega
          have g1 : ¬ ((strB (printL a)).size : Int) = 0 := by omega
          have HC := Lib.hid (cut_calls a r1 k hkl)
          have HE := Lib.hid (prints_eq r1 r2)
          have HN2 : Hid (n ≤ 1000) := Lib.hid (by have := small_len s1; have := HN.out; omega)
          clear h10 hkl hlen
          go_wp2_with fail
          (with_reducible refine (HC.out _).mono ?_)
          rintro e w6 ⟨A6, n6, c6, rfl, hB6⟩
          have hB7 := below_trans' hB6 (below_one w6 (.cells (recC zeroR (.slice A6 n6 c6)) 26))
          replace HP := Lib.hid (HP.out.more hB7)
          unfold recC at HP
          unfold recV
          clear hB6 hB7
          go_wp2_with fail
          (with_reducible refine (awake_true _).mono ?_)
          rintro e w7 ⟨rfl, hB7⟩
          replace HP := Lib.hid (HP.out.more hB7)
          clear hB7
          obtain ⟨i0, i1, i2, i3, i4, i5, i6, i7, i8⟩ := HP.out.x.at_
          obtain ⟨j0, j1, j2, j3, j4, j5, j6, j7, j8⟩ := HP.out.y.at_
          cases hd : decide (a = b) with
          | true =>
            have he := HE.out.trans hd
            go_wp2_with fail
            (with_reducible refine (C7.out _ HP.out.u HP.out.v HN2.out).mono ?_)
            rintro e w8 ⟨rfl, hB8⟩
            rw [hd]
            go_wp2_with fail
            go_ret
            exact ⟨rfl, (HP.out.more hB8).below⟩
          | false =>
            have he := HE.out.trans hd
            go_wp2_with fail
            (with_reducible refine (C7.out _ HP.out.u HP.out.v HN2.out).mono ?_)
            rintro e w8 ⟨rfl, hB8⟩
            rw [hd]
            go_wp2_with fail
            go_ret
            exact ⟨rfl, (HP.out.more hB8).below⟩

end Go.Proofs.Ytkfjbhikibidiaa
