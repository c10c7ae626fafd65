/- old.Right with its parts: what each call does. No statement is proved here. -/
import Derived.Test.YtkfoppjogdphiaaRMem
import Derived.Test.YtkfoppjogdphiaaIRight
import Derived.Lib.QuietBelow
import Derived.BigQuiet
namespace Go.Proofs.Ytkfoppjogdphiaa
open Go.RowKit Go.Sort
open Itm (It itV)

set_option maxHeartbeats 1000000 in
theorem pages_calls (n : Int) (w : World) (h0 : 0 ≤ n) (h1 : n ≤ 100000) :
    Calls Try.prog 28 #[.int .i64 n] w fun e w' => e = .returned (.int .i64 (pagesI n)) ∧ w' = w := by
  go_enter Try.func28, Try.ntmps28
  go_wp2_with fail
  go_ret
  refine ⟨ret_int ?_, rfl⟩
  unfold pagesI
  rw [show n + 208 - 1 = n + 207 by omega]

set_option maxHeartbeats 1000000 in
theorem within_calls (s n : Int) (w : World) (h0 : 0 ≤ n) (h1 : n ≤ 100000) :
    Calls Try.prog 29 #[.agg #[.int .i64 s, .int .i64 n]] w fun e w' => e = .returned (.bool (decide (1 ≤ s) && decide (s ≤ 512 - n))) ∧ Below w.heap.size w w' := by
  by_cases hs : 1 ≤ s
  · rw [decide_eq_true hs]
    go_enter Try.func29, Try.ntmps29
    go_wp2_with fail
    go_ret
    refine ⟨ret_bool ?_, below_one _ _⟩
    rw [Bool.true_and]
  · rw [decide_eq_false hs]
    go_enter Try.func29, Try.ntmps29
    go_wp2_with fail
    go_ret
    exact ⟨rfl, below_one _ _⟩

set_option maxHeartbeats 1000000 in
theorem sized_calls (r : Rec) (A : Option Addr) (n c : Nat) (w : World) :
    Calls Try.prog 12 #[recV r (.slice A n c)] w fun e w' => e = .returned (.bool (sizedB r)) ∧ Below w.heap.size w w' := by
  unfold recV sizedB
  cases hm : r.it.mark with
  | true =>
    rw [if_pos rfl]
    go_enter Try.func12, Try.ntmps12
    go_wp2_with fail
    go_ret
    exact ⟨ret_bool (by rw [Bool.eq_iff_iff]; simp), below_one _ _⟩
  | false =>
    rw [if_neg (by simp)]
    by_cases h : 0 ≤ r.size
    · rw [decide_eq_true h]
      go_enter Try.func12, Try.ntmps12
      go_wp2_with fail
      go_ret
      exact ⟨rfl, below_one _ _⟩
    · rw [decide_eq_false h]
      go_enter Try.func12, Try.ntmps12
      go_wp2_with fail
      go_ret
      exact ⟨rfl, below_one _ _⟩

theorem At9.below {w w' : World} {b : Nat} {r : Rec} {v : Value} (h : At9 w b r v) (hl : b < w.heap.size) (hb : Below w.heap.size w w') : At9 w' b r v :=
  ⟨(hb.cell (p := ⟨b, 0, none⟩) hl).trans h.c0, (hb.cell (p := ⟨b, 1, none⟩) hl).trans h.c1, (hb.cell (p := ⟨b, 2, none⟩) hl).trans h.c2, (hb.cell (p := ⟨b, 3, none⟩) hl).trans h.c3,
   (hb.cell (p := ⟨b, 4, none⟩) hl).trans h.c4, (hb.cell (p := ⟨b, 5, none⟩) hl).trans h.c5, (hb.cell (p := ⟨b, 6, none⟩) hl).trans h.c6, (hb.cell (p := ⟨b, 7, none⟩) hl).trans h.c7, (hb.cell (p := ⟨b, 8, none⟩) hl).trans h.c8⟩

theorem pages_regrown (n : Int) (w : World) (d : Nat) (os : Array Obj) (h0 : 0 ≤ n) (h1 : n ≤ 100000) :
    Calls Try.prog 28 #[.int .i64 n] (grow (redrawn w d) os) fun e w'' => e = .returned (.int .i64 (pagesI n)) ∧ ∃ p : Regrown, w'' = grow (redrawn w p.d) p.os :=
  (pages_calls n _ h0 h1).mono fun _ _ ⟨he, hw⟩ => ⟨he, ⟨d, os⟩, hw⟩

set_option maxRecDepth 100000 in
set_option maxHeartbeats 4000000 in
theorem placed_calls (r : Rec) (A : Option Addr) (n c : Nat) (w : World) (hv : Sps w (.slice A n c) r.spans) (h0 : 0 ≤ r.size) (h1 : r.size ≤ 1500) :
    Calls Try.prog 13 #[recV r (.slice A n c)] w fun e w' => e = .returned (.bool (placedB r)) ∧ Below w.heap.size w w' := by
  have hn := hv.at_.1
  by_cases hz : r.size = 0
  · have e1 : placedB r = ((n : Int) == 0) := by
      unfold placedB
      rw [if_pos hz, ← hn]
      cases r.spans <;> rfl
    rw [e1]
    clear hv e1
    unfold recV
    go_enter Try.func13, Try.ntmps13
    go_wp2_with fail
    go_ret
    exact ⟨rfl, below_one _ _⟩
  · have hz' : (r.size == 0) = false := by simpa using hz
    obtain ⟨Y, hY, hbY, hBY⟩ : ∃ Y, Y = w.alloc (.cells (recC r (.slice A n c)) 26) ∧ RBox Y w.heap.size r (.slice A n c) ∧ Below w.heap.size w Y := ⟨_, rfl, RBox.new _ _ _, below_one _ _⟩
    have q7 := fun d os => (hbY.at_.below hbY.lt (below_regrown Y d os)).c7
    have q8 := fun d os => (hbY.at_.below hbY.lt (below_regrown Y d os)).c8
    have HY := Lib.hid hY
    have HBY := Lib.hid hBY
    unfold recC at HY
    clear hY
    by_cases hn1 : n = 1
    · subst hn1
      obtain ⟨s, l, hsp⟩ : ∃ s l, r.spans = [(s, l)] := by
        match r.spans, hn with
        | [(s, l)], _ => exact ⟨s, l, rfl⟩
      have e1 : placedB r = (decide (l = pagesI r.size) && (decide (1 ≤ s) && decide (s ≤ 512 - l))) := by
        unfold placedB
        rw [if_neg hz, hsp]
      rw [hsp] at hv
      obtain ⟨b, off, rfl, hl, p0, p1⟩ := hv.one
      have k0 : ∀ d os, (grow (redrawn Y d) os).cell? ⟨b, off, none⟩ = some (.int .i64 s) := fun d os => cell_regrown ((hBY.cell (p := ⟨b, off, none⟩) hl).trans p0) d os
      have k1 : ∀ d os, (grow (redrawn Y d) os).cell? ⟨b, off + 1, none⟩ = some (.int .i64 l) := fun d os => cell_regrown ((hBY.cell (p := ⟨b, off + 1, none⟩) hl).trans p1) d os
      have CP : Hid (∀ d os, _) := Lib.hid (fun d os => pages_regrown r.size Y d os h0 (by omega))
      rw [e1]
      clear hv p0 p1 e1 hBY hbY hsp hn
      by_cases he : l = pagesI r.size
      · have hpg : 0 ≤ l ∧ l ≤ 100000 := by
          rw [he]
          unfold pagesI
          omega
        have CW : Hid (∀ d os, _) := Lib.hid (fun d os => Calls.regrown_of (w := Y) (d := d) (os := os) (within_calls s l _ hpg.1 hpg.2))
        rw [decide_eq_true he, Bool.true_and]
        have he' : (l == pagesI r.size) = true := by simpa using he
        clear he
        unfold recV
        go_enter Try.func13, Try.ntmps13
        go_wp2_with fail
        rw [← HY.out]
        refine wp_region_quiet_below (by kernel_rfl) (by kernel_rfl) ?_
        (try simp only [List.append_eq, List.cons_append, List.nil_append])
        repeat (first | go_big_quiet_step (first | (with_reducible exact CP.out _ _) | (with_reducible exact CW.out _ _)) | quiet_step (first | (with_reducible exact CP.out _ _) | (with_reducible exact CW.out _ _)))
        refine wpQuiet_nil ?_
        intro _ hw'
        obtain ⟨⟨dq, osq⟩, hw''⟩ := hw'
        subst hw''
        go_wp2_with fail
        go_ret
        exact ⟨rfl, Below.trans HBY.out ((below_regrown Y dq osq).mono HBY.out.size)⟩
      · rw [decide_eq_false he, Bool.false_and]
        have he' : (l == pagesI r.size) = false := by simpa using he
        clear he
        unfold recV
        go_enter Try.func13, Try.ntmps13
        go_wp2_with fail
        rw [← HY.out]
        refine wp_region_quiet_below (by kernel_rfl) (by kernel_rfl) ?_
        (try simp only [List.append_eq, List.cons_append, List.nil_append])
        repeat (first | go_big_quiet_step (first | (with_reducible exact CP.out _ _)) | quiet_step (first | (with_reducible exact CP.out _ _)))
        refine wpQuiet_nil ?_
        intro _ hw'
        obtain ⟨⟨dq, osq⟩, hw''⟩ := hw'
        subst hw''
        go_wp2_with fail
        go_ret
        exact ⟨rfl, Below.trans HBY.out ((below_regrown Y dq osq).mono HBY.out.size)⟩
    · have e1 : placedB r = false := by
        unfold placedB
        rw [if_neg hz]
        match hs : r.spans with
        | [] => rfl
        | [(s, l)] => rw [hs] at hn; exact absurd hn.symm hn1
        | _ :: _ :: _ => rfl
      rw [e1]
      have hn' : ((n : Int) == 1) = false := by simp; omega
      clear hv e1 hBY hbY hn hn1
      unfold recV
      go_enter Try.func13, Try.ntmps13
      go_wp2_with fail
      rw [← HY.out]
      refine wp_region_quiet_below (by kernel_rfl) (by kernel_rfl) ?_
      (try simp only [List.append_eq, List.cons_append, List.nil_append])
      repeat (first | go_big_quiet_step (fail) | quiet_step (fail))
      refine wpQuiet_nil ?_
      intro _ hw'
      obtain ⟨⟨dq, osq⟩, hw''⟩ := hw'
      subst hw''
      go_wp2_with fail
      go_ret
      exact ⟨rfl, Below.trans HBY.out ((below_regrown Y dq osq).mono HBY.out.size)⟩

end Go.Proofs.Ytkfoppjogdphiaa
