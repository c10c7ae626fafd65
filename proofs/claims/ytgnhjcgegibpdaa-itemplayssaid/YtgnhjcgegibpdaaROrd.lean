/- The document's Ordered: what the call does. No statement is proved here. -/
import Derived.Test.YtgnhjcgegibpdaaRRight
namespace Go.Proofs.Ytgnhjcgegibpdaa
open Go.RowKit
open Go.Sort (grow)

set_option maxRecDepth 100000 in
set_option maxHeartbeats 8000000 in
theorem rordered_calls (v : Value) (l : List It) (w : World) (hv : Its w v l) (hlen : l.length ≤ 1000) (hkl : ∀ x ∈ l, x.key.length ≤ 2500) :
    Calls Try.prog 14 #[v] w fun e w' => e = .returned (.bool (orderedB l)) ∧ Below w.heap.size w w' := by
  obtain ⟨A, c, rfl⟩ := hv.form
  obtain ⟨n, hn⟩ : ∃ n, n = l.length := ⟨_, rfl⟩
  rw [← hn] at hv hlen ⊢
  have HN := Lib.hid hn
  have HV := Lib.hid hv
  have HK := Lib.hid hkl
  clear hn hv hkl
  go_enter Try.func14, Try.ntmps14
  go_wp2_with fail
  go_loopw [3] (fun u7 wr => ∃ i : Nat, i ≤ n ∧ u7 = .int .i64 i ∧ Hid (okTo l i) ∧ Below w.heap.size w wr) (fun u _ => n - (intOf u).toNat)
  case atStart => exact ⟨0, Nat.zero_le _, rfl, Lib.hid (fun q hq => absurd hq (by omega)), Below.refl _ _⟩
  case round =>
    obtain ⟨i, hi', rfl, HLOW, hbr⟩ := hrel
    have HBR := Lib.hid hbr
    clear hbr
    by_cases hlt : i < n
    · obtain ⟨x, hx⟩ : ∃ x, l[i]? = some x := ⟨_, List.getElem?_eq_getElem (by have := HN.out; omega)⟩
      obtain ⟨b, off, rfl, hbl, hcell⟩ := HV.out.at_.2.2 (by omega)
      obtain ⟨c0, c1, c2, c3, c4, c5, c6⟩ := (hcell i x hx).below hbl HBR.out
      have hi1 : (0 : Int) ≤ (i : Int) := by omega
      have hi2 : (i : Int) < (n : Int) := by omega
      have HX := Lib.hid hx
      have HC := Lib.hid hcell
      clear hcell hx
      have hcR := rright_calls x
      unfold itV at hcR
      have hkx := HK.out x (List.mem_of_getElem? HX.out)
      have CR : Hid (∀ d os, _) := Lib.hid (fun d os => Calls.regrown_of (w := wr) (d := d) (os := os) (hcR _ hkx))
      have hAt := (HC.out i x HX.out).below hbl HBR.out
      have q0 := fun d os => (hAt.regrown d os).c0
      have q1 := fun d os => (hAt.regrown d os).c1
      have q2 := fun d os => (hAt.regrown d os).c2
      have q3 := fun d os => (hAt.regrown d os).c3
      have q4 := fun d os => (hAt.regrown d os).c4
      have q5 := fun d os => (hAt.regrown d os).c5
      have q6 := fun d os => (hAt.regrown d os).c6
      clear hcR hAt hkx c0 c1 c2 c3 c4 c5 c6
      by_cases h0 : 0 < i
      · obtain ⟨j, hij⟩ : ∃ j, i = j + 1 := ⟨i - 1, by omega⟩
        obtain ⟨y, hy⟩ : ∃ y, l[j]? = some y := ⟨_, List.getElem?_eq_getElem (by have := HN.out; omega)⟩
        have hAp := (HC.out j y hy).below hbl HBR.out
        have p0 := fun d os => (hAp.regrown d os).c0
        have p1 := fun d os => (hAp.regrown d os).c1
        have p2 := fun d os => (hAp.regrown d os).c2
        have p3 := fun d os => (hAp.regrown d os).c3
        have p4 := fun d os => (hAp.regrown d os).c4
        have p5 := fun d os => (hAp.regrown d os).c5
        have p6 := fun d os => (hAp.regrown d os).c6
        have hcL := rless_calls y x
        unfold itV at hcL
        have CL : Hid (∀ d os, _) := Lib.hid (fun d os => Calls.regrown_of (w := wr) (d := d) (os := os) (hcL _))
        have HYY := Lib.hid hy
        have hgt : (0 : Int) < (i : Int) := by omega
        have hsb : (i : Int) - 1 = (j : Int) := by omega
        have HIJ := Lib.hid hij
        have hj1 : (0 : Int) ≤ (j : Int) := by omega
        have hj2 : (j : Int) < (n : Int) := by omega
        clear hAp hcL hy hij
        cases hr : rightB x with
        | false =>
          have HF := Lib.hid (not_right HX.out hr)
          rw [hr] at CR
          go_wp2_with fail
          refine wp_region_quiet_below (by kernel_rfl) (by kernel_rfl) ?_
          (try simp only [List.append_eq, List.cons_append, List.nil_append])
          repeat (first | go_big_quiet_step (first | (with_reducible exact CR.out _ _) | (with_reducible exact CL.out _ _)) | quiet_step (first | (with_reducible exact CR.out _ _) | (with_reducible exact CL.out _ _)))
          refine wpQuiet_nil ?_
          intro _ hw'
          obtain ⟨⟨dq, osq⟩, hw''⟩ := hw'
          subst hw''
          go_wp2_with fail
          go_ret
          exact ⟨ret_bool HF.out.symm, Below.trans HBR.out ((below_regrown wr dq osq).mono HBR.out.size)⟩
        | true =>
          rw [hr] at CR
          cases hl : less y x with
          | false =>
            have HF := Lib.hid (not_less HYY.out (by rw [← HIJ.out]; exact HX.out) hl)
            rw [hl] at CL
            go_wp2_with fail
            refine wp_region_quiet_below (by kernel_rfl) (by kernel_rfl) ?_
            (try simp only [List.append_eq, List.cons_append, List.nil_append])
            repeat (first | go_big_quiet_step (first | (with_reducible exact CR.out _ _) | (with_reducible exact CL.out _ _)) | quiet_step (first | (with_reducible exact CR.out _ _) | (with_reducible exact CL.out _ _)))
            refine wpQuiet_nil ?_
            intro _ hw'
            obtain ⟨⟨dq, osq⟩, hw''⟩ := hw'
            subst hw''
            go_wp2_with fail
            go_ret
            exact ⟨ret_bool HF.out.symm, Below.trans HBR.out ((below_regrown wr dq osq).mono HBR.out.size)⟩
          | true =>
            have HF := Lib.hid (ok_next HLOW.out HX.out hr (fun j' z e hz => by
              obtain rfl : j' = j := by have := HIJ.out; omega
              rw [HYY.out] at hz
              injection hz with hz
              rw [← hz]; exact hl))
            rw [hl] at CL
            go_wp2_with fail
            refine wp_region_quiet_below (by kernel_rfl) (by kernel_rfl) ?_
            (try simp only [List.append_eq, List.cons_append, List.nil_append])
            repeat (first | go_big_quiet_step (first | (with_reducible exact CR.out _ _) | (with_reducible exact CL.out _ _)) | quiet_step (first | (with_reducible exact CR.out _ _) | (with_reducible exact CL.out _ _)))
            refine wpQuiet_nil ?_
            intro _ hw'
            obtain ⟨⟨dq, osq⟩, hw''⟩ := hw'
            subst hw''
            go_wp2_with fail
            exact ⟨⟨i + 1, by omega, by go_num, HF, Below.trans HBR.out ((below_regrown wr dq osq).mono HBR.out.size)⟩, by simp [intOf]; omega⟩
      · have hgt : ¬ (0 : Int) < (i : Int) := by omega
        have CL := CR
        cases hr : rightB x with
        | false =>
          have HF := Lib.hid (not_right HX.out hr)
          rw [hr] at CR
          go_wp2_with fail
          refine wp_region_quiet_below (by kernel_rfl) (by kernel_rfl) ?_
          (try simp only [List.append_eq, List.cons_append, List.nil_append])
          repeat (first | go_big_quiet_step (first | (with_reducible exact CR.out _ _) | (with_reducible exact CL.out _ _)) | quiet_step (first | (with_reducible exact CR.out _ _) | (with_reducible exact CL.out _ _)))
          refine wpQuiet_nil ?_
          intro _ hw'
          obtain ⟨⟨dq, osq⟩, hw''⟩ := hw'
          subst hw''
          go_wp2_with fail
          go_ret
          exact ⟨ret_bool HF.out.symm, Below.trans HBR.out ((below_regrown wr dq osq).mono HBR.out.size)⟩
        | true =>
          have HF := Lib.hid (ok_next HLOW.out HX.out hr (fun j' z e hz => by omega))
          rw [hr] at CR
          go_wp2_with fail
          refine wp_region_quiet_below (by kernel_rfl) (by kernel_rfl) ?_
          (try simp only [List.append_eq, List.cons_append, List.nil_append])
          repeat (first | go_big_quiet_step (first | (with_reducible exact CR.out _ _) | (with_reducible exact CL.out _ _)) | quiet_step (first | (with_reducible exact CR.out _ _) | (with_reducible exact CL.out _ _)))
          refine wpQuiet_nil ?_
          intro _ hw'
          obtain ⟨⟨dq, osq⟩, hw''⟩ := hw'
          subst hw''
          go_wp2_with fail
          exact ⟨⟨i + 1, by omega, by go_num, HF, Below.trans HBR.out ((below_regrown wr dq osq).mono HBR.out.size)⟩, by simp [intOf]; omega⟩
    · obtain rfl : i = n := by omega
      go_wp2_with fail
      go_ret
      have h := HLOW.out
      rw [HN.out] at h
      exact ⟨ret_bool ((ordered_iff l).2 h).symm, HBR.out⟩

end Go.Proofs.Ytgnhjcgegibpdaa
