/- fresh.Right: what each call does. No statement is proved here. -/
import Derived.Test.YtkfjbhikibidiaaRRight
namespace Go.Proofs.Ytkfjbhikibidiaa
open Go.RowKit
open Itm (It itV)

theorem sized_is {r : Rec} (h : sizedB r = true) : 0 ≤ r.size ∧ r.size ≤ 1500 := by
  unfold sizedB at h
  split at h
  · simp only [decide_eq_true_eq] at h
    omega
  · simp only [Bool.and_eq_true, decide_eq_true_eq] at h
    exact h

theorem itRight (r : Rec) (w : World) : Calls Try.prog 11 #[.agg #[.string (strB r.it.key), .int .i64 r.it.seq, .int .i64 r.it.ver, .bool r.it.mark, .string (strB r.it.mt), .string (strB r.it.tag), .string (strB r.it.body)]] w fun e w' => e = .returned (.bool (Itm.rightB r.it)) ∧ Below w.heap.size w w' := Itm.right_calls r.it w

set_option maxRecDepth 100000 in
set_option maxHeartbeats 4000000 in
theorem right_calls (r : Rec) (A : Option Addr) (n c : Nat) (w : World) (hv : Sps w (.slice A n c) r.spans) (hlen : n ≤ 1000) :
    Calls Try.prog 6 #[recV r (.slice A n c)] w fun e w' => e = .returned (.bool (rightR r)) ∧ Below w.heap.size w w' := by
  have HS := Lib.hid (sized_calls r A n c)
  have HP := Lib.hid (fun w hv => placed_calls r A n c w hv)
  have HV := Lib.hid hv
  have e6 := strB_toList r.it.body
  clear hv
  unfold recV at HS HP
  unfold recV rightR
  obtain ⟨Y, hY, hbY, hBY⟩ : ∃ Y, Y = w.alloc (.cells (recC r (.slice A n c)) 26) ∧ RBox Y w.heap.size r (.slice A n c) ∧ Below w.heap.size w Y := ⟨_, rfl, RBox.new _ _ _, below_one _ _⟩
  unfold recC at hY
  have HY := Lib.hid hY
  have HBox := Lib.hid hbY
  have HB := Lib.hid hBY
  clear hY hbY hBY
  cases hk : Itm.rightB r.it with
  | false =>
    go_enter Try.func6, Try.ntmps6
    go_wp2_with fail
    (with_reducible refine (itRight r _).mono ?_)
    rintro e w1 ⟨rfl, hB1⟩
    rw [← HY.out] at hB1
    rw [hk]
    go_wp2_with fail
    go_ret
    exact ⟨rfl, below_trans' HB.out hB1⟩
  | true =>
    cases hb : r.it.body.isEmpty with
    | false =>
      go_enter Try.func6, Try.ntmps6
      go_wp2_with fail
      (with_reducible refine (itRight r _).mono ?_)
      rintro e w1 ⟨rfl, hB1⟩
      rw [← HY.out] at hB1
      rw [hk]
      obtain ⟨c0, c1, c2, c3, c4, c5, c6, c7, c8⟩ := (HBox.out.below hB1).at_
      go_wp2_with fail
      go_ret
      exact ⟨rfl, below_trans' HB.out hB1⟩
    | true =>
      cases hs : sizedB r with
      | false =>
        go_enter Try.func6, Try.ntmps6
        go_wp2_with fail
        (with_reducible refine (itRight r _).mono ?_)
        rintro e w1 ⟨rfl, hB1⟩
        rw [← HY.out] at hB1
        rw [hk]
        obtain ⟨c0, c1, c2, c3, c4, c5, c6, c7, c8⟩ := (HBox.out.below hB1).at_
        go_wp2_with fail
        (with_reducible refine (HS.out _).mono ?_)
        rintro e w2 ⟨rfl, hB2⟩
        rw [hs]
        go_wp2_with fail
        go_ret
        exact ⟨rfl, below_trans' (below_trans' HB.out hB1) hB2⟩
      | true =>
        have HZ := Lib.hid (sized_is hs)
        go_enter Try.func6, Try.ntmps6
        go_wp2_with fail
        (with_reducible refine (itRight r _).mono ?_)
        rintro e w1 ⟨rfl, hB1⟩
        rw [← HY.out] at hB1
        rw [hk]
        obtain ⟨c0, c1, c2, c3, c4, c5, c6, c7, c8⟩ := (HBox.out.below hB1).at_
        go_wp2_with fail
        (with_reducible refine (HS.out _).mono ?_)
        rintro e w2 ⟨rfl, hB2⟩
        rw [hs]
        clear c0 c1 c2 c3 c4 c5 c6 c7 c8
        obtain ⟨c0, c1, c2, c3, c4, c5, c6, c7, c8⟩ := ((HBox.out.below hB1).below hB2).at_
        go_wp2_with fail
        (with_reducible refine (HP.out _ (((HV.out.below HB.out).below hB1).below hB2) HZ.out.1 HZ.out.2 hlen).mono ?_)
        rintro e w3 ⟨rfl, hB3⟩
        go_wp2_with fail
        go_ret
        exact ⟨rfl, below_trans' (below_trans' (below_trans' HB.out hB1) hB2) hB3⟩

end Go.Proofs.Ytkfjbhikibidiaa
