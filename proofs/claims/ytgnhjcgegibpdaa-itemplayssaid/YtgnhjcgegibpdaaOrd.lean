/- item.Ordered: what the call does. No statement is proved here. -/
import Derived.Test.YtgnhjcgegibpdaaPut
import Derived.BigQuiet
import Derived.Lib.QuietBelow
namespace Go.Proofs.Ytgnhjcgegibpdaa
open Go.RowKit
open Go.Sort (grow)

/-- The first k places are in order. -/
def okTo (l : List It) (k : Nat) : Prop := ∀ i, i < k → (∀ x, l[i]? = some x → rightB x = true) ∧ (∀ j x y, i = j + 1 → l[j]? = some x → l[i]? = some y → less x y = true)

theorem ordered_iff (l : List It) : orderedB l = true ↔ okTo l l.length := by
  induction l with
  | nil => simp [orderedB, okTo]
  | cons x l ih =>
    cases l with
    | nil =>
      simp only [orderedB, okTo, List.length_singleton]
      constructor
      · intro h i hi
        obtain rfl : i = 0 := by omega
        refine ⟨fun y hy => ?_, fun j _ _ e => by omega⟩
        obtain rfl : x = y := by simpa using hy
        exact h
      · intro h
        exact (h 0 (by omega)).1 x rfl
    | cons y l =>
      have e : orderedB (x :: y :: l) = (rightB x && (less x y && orderedB (y :: l))) := rfl
      rw [e, Bool.and_eq_true, Bool.and_eq_true, ih]
      constructor
      · rintro ⟨h1, h2, h3⟩ i hi
        cases i with
        | zero =>
          refine ⟨fun z hz => ?_, fun j _ _ e => by omega⟩
          obtain rfl : x = z := by simpa using hz
          exact h1
        | succ i =>
          have hh := h3 i (by simpa using hi)
          refine ⟨fun z hz => hh.1 z (by simpa using hz), fun j a b e ha hb => ?_⟩
          cases j with
          | zero =>
            obtain rfl : i = 0 := by omega
            obtain rfl : x = a := by simpa using ha
            obtain rfl : y = b := by simpa using hb
            exact h2
          | succ j => exact hh.2 j a b (by omega) (by simpa using ha) (by simpa using hb)
      · intro h
        refine ⟨(h 0 (by simp)).1 x rfl, (h 1 (by simp)).2 0 x y rfl rfl rfl, fun i hi => ?_⟩
        have hh := h (i + 1) (by simpa using hi)
        exact ⟨fun z hz => hh.1 z (by simpa using hz), fun j a b e ha hb => hh.2 (j + 1) a b (by omega) (by simpa using ha) (by simpa using hb)⟩

theorem ok_next {l : List It} {k : Nat} {x : It} (h : okTo l k) (hx : l[k]? = some x) (hr : rightB x = true) (hl : ∀ j y, k = j + 1 → l[j]? = some y → less y x = true) : okTo l (k + 1) := by
  intro i hi
  by_cases e : i = k
  · subst e
    refine ⟨fun y hy => ?_, fun j a b e ha hb => ?_⟩
    · rw [hx] at hy
      injection hy with hy
      rw [← hy]; exact hr
    · rw [hx] at hb
      injection hb with hb
      rw [← hb]
      exact hl j a e ha
  · exact h i (by omega)
theorem not_right {l : List It} {k : Nat} {x : It} (hx : l[k]? = some x) (hr : rightB x = false) : orderedB l = false := by
  rw [Bool.eq_false_iff]
  intro h
  have := ((ordered_iff l).1 h k (List.getElem?_eq_some_iff.1 hx).1).1 x hx
  rw [hr] at this
  cases this
theorem not_less {l : List It} {j : Nat} {x y : It} (hx : l[j]? = some x) (hy : l[j + 1]? = some y) (hl : less x y = false) : orderedB l = false := by
  rw [Bool.eq_false_iff]
  intro h
  have := ((ordered_iff l).1 h (j + 1) (List.getElem?_eq_some_iff.1 hy).1).2 j x y rfl hx hy
  rw [hl] at this
  cases this

theorem At7.regrown {w : World} {b o : Nat} {x : It} (h : At7 w b o x) (d : Nat) (os : Array Obj) : At7 (grow (redrawn w d) os) b o x :=
  ⟨cell_regrown h.c0 d os, cell_regrown h.c1 d os, cell_regrown h.c2 d os, cell_regrown h.c3 d os, cell_regrown h.c4 d os, cell_regrown h.c5 d os, cell_regrown h.c6 d os⟩

theorem Box.regrown {w : World} {b : Nat} {x : It} (h : Box w b x) (d : Nat) (os : Array Obj) : (grow (redrawn w d) os).cell? ⟨b, 0, none⟩ = some (.string (strB x.key)) ∧ (grow (redrawn w d) os).cell? ⟨b, 1, none⟩ = some (.int .i64 x.seq) ∧ (grow (redrawn w d) os).cell? ⟨b, 2, none⟩ = some (.int .i64 x.ver) ∧ (grow (redrawn w d) os).cell? ⟨b, 3, none⟩ = some (.bool x.mark) ∧ (grow (redrawn w d) os).cell? ⟨b, 4, none⟩ = some (.string (strB x.mt)) ∧ (grow (redrawn w d) os).cell? ⟨b, 5, none⟩ = some (.string (strB x.tag)) ∧ (grow (redrawn w d) os).cell? ⟨b, 6, none⟩ = some (.string (strB x.body)) := by
  have h' := h.at_.regrown d os
  exact ⟨h'.c0, h'.c1, h'.c2, h'.c3, h'.c4, h'.c5, h'.c6⟩

set_option maxRecDepth 100000 in
set_option maxHeartbeats 8000000 in
theorem ordered_calls (v : Value) (l : List It) (w : World) (hv : Its w v l) (hlen : l.length ≤ 1000) :
    Calls Try.prog 13 #[v] w fun e w' => e = .returned (.bool (orderedB l)) ∧ Below w.heap.size w w' := by
  obtain ⟨A, c, rfl⟩ := hv.form
  obtain ⟨n, hn⟩ : ∃ n, n = l.length := ⟨_, rfl⟩
  rw [← hn] at hv hlen ⊢
  have HN := Lib.hid hn
  have HV := Lib.hid hv
  clear hn hv
  go_enter Try.func13, Try.ntmps13
  go_wp2_with fail
  go_loopw [7] (fun u7 wr => ∃ i : Nat, i ≤ n ∧ u7 = .int .i64 i ∧ Hid (okTo l i) ∧ Below w.heap.size w wr) (fun u _ => n - (intOf u).toNat)
  case atStart => exact ⟨0, Nat.zero_le _, rfl, Lib.hid (fun q hq => absurd hq (by omega)), Below.refl _ _⟩
  case round =>
    obtain ⟨i, hi', rfl, HLOW, hbr⟩ := hrel
    have HBR := Lib.hid hbr
    clear hbr
    by_cases hlt : i < n
    · obtain ⟨x, hx⟩ : ∃ x, l[i]? = some x := ⟨_, List.getElem?_eq_getElem (by have := HN.out; omega)⟩
      obtain ⟨b, off, rfl, hbl, hcell⟩ := HV.out.at_.2.2 (by omega)
      obtain ⟨c0, c1, c2, c3, c4, c5, c6⟩ := (hcell i x hx).below hbl HBR.out
      have hi1 : (0 : Int) ≤ (i : Int) := by omega
      have hi2 : (i : Int) < (n : Int) := by omega
      have HX := Lib.hid hx
      have HC := Lib.hid hcell
      clear hcell hx
      have HB1 := Lib.hid (HBR.out.alloc HBR.out.size (.cells #[.string (strB x.key), .int .i64 x.seq, .int .i64 x.ver, .bool x.mark, .string (strB x.mt), .string (strB x.tag), .string (strB x.body)] 24))
      obtain ⟨Y, hY, hbox, hbY⟩ : ∃ Y, Y = wr.alloc (.cells #[.string (strB x.key), .int .i64 x.seq, .int .i64 x.ver, .bool x.mark, .string (strB x.mt), .string (strB x.tag), .string (strB x.body)] 24) ∧ Box Y wr.heap.size x ∧ Below w.heap.size w Y := ⟨_, rfl, heap_alloc_new wr _, HB1.out⟩
      have hcR := right_calls x
      unfold itV at hcR
      have CR : Hid (∀ d os, _) := Lib.hid (fun d os => Calls.regrown_of (w := Y) (d := d) (os := os) (hcR _))
      have HBY := Lib.hid hbY
      have qs := fun d os => hbox.regrown d os
      have q0 := fun d os => (qs d os).1
      have q1 := fun d os => (qs d os).2.1
      have q2 := fun d os => (qs d os).2.2.1
      have q3 := fun d os => (qs d os).2.2.2.1
      have q4 := fun d os => (qs d os).2.2.2.2.1
      have q5 := fun d os => (qs d os).2.2.2.2.2.1
      have q6 := fun d os => (qs d os).2.2.2.2.2.2
      have HY := Lib.hid hY
      clear hcR HB1 hbY hbox qs hY
      by_cases h0 : 0 < i
      · obtain ⟨j, hij⟩ : ∃ j, i = j + 1 := ⟨i - 1, by omega⟩
        obtain ⟨y, hy⟩ : ∃ y, l[j]? = some y := ⟨_, List.getElem?_eq_getElem (by have := HN.out; omega)⟩
        have hAp := (HC.out j y hy).below hbl HBY.out
        have p0 := fun d os => (hAp.regrown d os).c0
        have p1 := fun d os => (hAp.regrown d os).c1
        have p2 := fun d os => (hAp.regrown d os).c2
        have p3 := fun d os => (hAp.regrown d os).c3
        have p4 := fun d os => (hAp.regrown d os).c4
        have p5 := fun d os => (hAp.regrown d os).c5
        have p6 := fun d os => (hAp.regrown d os).c6
        have hcL := less_calls y x
        unfold itV at hcL
        have CL : Hid (∀ d os, _) := Lib.hid (fun d os => Calls.regrown_of (w := Y) (d := d) (os := os) (hcL _))
        have HYY := Lib.hid hy
        have hgt : (0 : Int) < (i : Int) := by omega
        have hsb : (i : Int) - 1 = (j : Int) := by omega
        have HIJ := Lib.hid hij
        have hj1 : (0 : Int) ≤ (j : Int) := by omega
        have hj2 : (j : Int) < (n : Int) := by omega
        clear hAp hcL hy hij
        cases hr : rightB x with
        | false =>
          have HF := Lib.hid (not_right HX.out hr)
          rw [hr] at CR
          go_wp2_with fail
          rw [← HY.out]
          refine wp_region_quiet_below (by kernel_rfl) (by kernel_rfl) ?_
          (try simp only [List.append_eq, List.cons_append, List.nil_append])
          repeat (first | go_big_quiet_step (first | (with_reducible exact CR.out _ _) | (with_reducible exact CL.out _ _)) | quiet_step (first | (with_reducible exact CR.out _ _) | (with_reducible exact CL.out _ _)))
          refine wpQuiet_nil ?_
          intro _ hw'
          obtain ⟨⟨dq, osq⟩, hw''⟩ := hw'
          subst hw''
          go_wp2_with fail
          go_ret
          exact ⟨ret_bool HF.out.symm, Below.trans HBY.out ((below_regrown Y dq osq).mono HBY.out.size)⟩
        | true =>
          rw [hr] at CR
          cases hl : less y x with
          | false =>
            have HF := Lib.hid (not_less HYY.out (by rw [← HIJ.out]; exact HX.out) hl)
            rw [hl] at CL
            go_wp2_with fail
            rw [← HY.out]
            refine wp_region_quiet_below (by kernel_rfl) (by kernel_rfl) ?_
            (try simp only [List.append_eq, List.cons_append, List.nil_append])
            repeat (first | go_big_quiet_step (first | (with_reducible exact CR.out _ _) | (with_reducible exact CL.out _ _)) | quiet_step (first | (with_reducible exact CR.out _ _) | (with_reducible exact CL.out _ _)))
            refine wpQuiet_nil ?_
            intro _ hw'
            obtain ⟨⟨dq, osq⟩, hw''⟩ := hw'
            subst hw''
            go_wp2_with fail
            go_ret
            exact ⟨ret_bool HF.out.symm, Below.trans HBY.out ((below_regrown Y dq osq).mono HBY.out.size)⟩
          | true =>
            have HF := Lib.hid (ok_next HLOW.out HX.out hr (fun j' z e hz => by
              obtain rfl : j' = j := by have := HIJ.out; omega
              rw [HYY.out] at hz
              injection hz with hz
              rw [← hz]; exact hl))
            rw [hl] at CL
            go_wp2_with fail
            rw [← HY.out]
            refine wp_region_quiet_below (by kernel_rfl) (by kernel_rfl) ?_
            (try simp only [List.append_eq, List.cons_append, List.nil_append])
            repeat (first | go_big_quiet_step (first | (with_reducible exact CR.out _ _) | (with_reducible exact CL.out _ _)) | quiet_step (first | (with_reducible exact CR.out _ _) | (with_reducible exact CL.out _ _)))
            refine wpQuiet_nil ?_
            intro _ hw'
            obtain ⟨⟨dq, osq⟩, hw''⟩ := hw'
            subst hw''
            go_wp2_with fail
            exact ⟨⟨i + 1, by omega, by go_num, HF, Below.trans HBY.out ((below_regrown Y dq osq).mono HBY.out.size)⟩, by simp [intOf]; omega⟩
      · have hgt : ¬ (0 : Int) < (i : Int) := by omega
        have CL := CR
        cases hr : rightB x with
        | false =>
          have HF := Lib.hid (not_right HX.out hr)
          rw [hr] at CR
          go_wp2_with fail
          rw [← HY.out]
          refine wp_region_quiet_below (by kernel_rfl) (by kernel_rfl) ?_
          (try simp only [List.append_eq, List.cons_append, List.nil_append])
          repeat (first | go_big_quiet_step (first | (with_reducible exact CR.out _ _) | (with_reducible exact CL.out _ _)) | quiet_step (first | (with_reducible exact CR.out _ _) | (with_reducible exact CL.out _ _)))
          refine wpQuiet_nil ?_
          intro _ hw'
          obtain ⟨⟨dq, osq⟩, hw''⟩ := hw'
          subst hw''
          go_wp2_with fail
          go_ret
          exact ⟨ret_bool HF.out.symm, Below.trans HBY.out ((below_regrown Y dq osq).mono HBY.out.size)⟩
        | true =>
          have HF := Lib.hid (ok_next HLOW.out HX.out hr (fun j' z e hz => by omega))
          rw [hr] at CR
          go_wp2_with fail
          rw [← HY.out]
          refine wp_region_quiet_below (by kernel_rfl) (by kernel_rfl) ?_
          (try simp only [List.append_eq, List.cons_append, List.nil_append])
          repeat (first | go_big_quiet_step (first | (with_reducible exact CR.out _ _) | (with_reducible exact CL.out _ _)) | quiet_step (first | (with_reducible exact CR.out _ _) | (with_reducible exact CL.out _ _)))
          refine wpQuiet_nil ?_
          intro _ hw'
          obtain ⟨⟨dq, osq⟩, hw''⟩ := hw'
          subst hw''
          go_wp2_with fail
          exact ⟨⟨i + 1, by omega, by go_num, HF, Below.trans HBY.out ((below_regrown Y dq osq).mono HBY.out.size)⟩, by simp [intOf]; omega⟩
    · obtain rfl : i = n := by omega
      go_wp2_with fail
      go_ret
      have h := HLOW.out
      rw [HN.out] at h
      exact ⟨ret_bool ((ordered_iff l).2 h).symm, HBR.out⟩

end Go.Proofs.Ytgnhjcgegibpdaa
