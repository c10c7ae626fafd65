/- BitsTells: the walk. No statement is proved here. -/
import Derived.Test.YtjlcmmidbeikdaaAwake
import Derived.Test.YtjlcmmidbeikdaaRMark
import Derived.Test.YtjlcmmidbeikdaaRSome
namespace Go.Proofs.Ytjlcmmidbeikdaa
open Go.RowKit Go.Sort

set_option maxRecDepth 100000 in
set_option maxHeartbeats 4000000 in
theorem same_calls (r : List (Int × Int)) (A A2 : Option Addr) (n c n2 c2 : Nat) (w : World) (hv : Sps w (.slice A n c) r) (hv2 : Sps w (.slice A2 n2 c2) r) (hn : n ≤ 1000) :
    Calls Try.prog 18 #[.slice A n c, .slice A2 n2 c2] w fun e w' => e = .returned (.bool true) ∧ Below w.heap.size w w' := by
  have HRN := Lib.hid hv.at_.1
  obtain rfl : n = n2 := by have := hv2.at_.1; have := HRN.out; omega
  have HV := Lib.hid hv
  have HV2 := Lib.hid hv2
  clear hv hv2
  go_enter Try.func18, Try.ntmps18
  go_wp2_with fail
  go_loopw [5] (fun u wr => ∃ i : Nat, i ≤ n ∧ u = .int .i64 (i : Nat) ∧ Hid (Below w.heap.size w wr)) (fun u _ => n - (intOf u).toNat)
  case atStart => exact ⟨0, Nat.zero_le _, rfl, Lib.hid (Below.refl _ _)⟩
  case round =>
    obtain ⟨i, hi, rfl, HB⟩ := hrel
    by_cases hlt : i < n
    · obtain ⟨x, hx⟩ : ∃ x, r[i]? = some x := ⟨_, List.getElem?_eq_getElem (by have := HRN.out; omega)⟩
      obtain ⟨b, off, rfl, hbl, hcell⟩ := HV.out.at_.2.2 (by omega)
      obtain ⟨b2, off2, rfl, hbl2, hcell2⟩ := HV2.out.at_.2.2 (by omega)
      have c0 := (HB.out.cell (p := ⟨b, off + i * 2, none⟩) hbl).trans (hcell i x hx).1
      have c1 := (HB.out.cell (p := ⟨b, off + i * 2 + 1, none⟩) hbl).trans (hcell i x hx).2
      have d0 := (HB.out.cell (p := ⟨b2, off2 + i * 2, none⟩) hbl2).trans (hcell2 i x hx).1
      have d1 := (HB.out.cell (p := ⟨b2, off2 + i * 2 + 1, none⟩) hbl2).trans (hcell2 i x hx).2
      have hi2 : (i : Int) < (n : Int) := by omega
      have hi1 : (0 : Int) ≤ (i : Int) := by omega
      clear hcell hcell2 hx
      go_wp2_with fail
      go_quiet (fail)
      go_wp2_with fail
      exact ⟨⟨i + 1, by omega, by go_num, Lib.hid (bdrewN HB.out _)⟩, by simp [intOf]; omega⟩
    · obtain rfl : i = n := by omega
      go_wp2_with fail
      go_ret
      exact ⟨rfl, HB.out⟩

/-- The box of the three numbers. -/
structure Box3 (w : World) (g : Nat) (a b c : Int) : Prop where
  lt : g < w.heap.size
  c0 : w.cell? ⟨g, 0, none⟩ = some (.int .i64 a)
  c1 : w.cell? ⟨g, 1, none⟩ = some (.int .i64 b)
  c2 : w.cell? ⟨g, 2, none⟩ = some (.int .i64 c)
theorem Box3.below {w w' : World} {g : Nat} {a b c : Int} (h : Box3 w g a b c) (hb : Below w.heap.size w w') : Box3 w' g a b c :=
  ⟨Nat.lt_of_lt_of_le h.lt hb.size, (hb.cell (p := ⟨g, 0, none⟩) h.lt).trans h.c0, (hb.cell (p := ⟨g, 1, none⟩) h.lt).trans h.c1, (hb.cell (p := ⟨g, 2, none⟩) h.lt).trans h.c2⟩
theorem Box3.new (w : World) (a b c : Int) (t : TypeId) : Box3 (w.alloc (.cells #[.int .i64 a, .int .i64 b, .int .i64 c] t)) w.heap.size a b c := by
  refine ⟨by simp, ?_, ?_, ?_⟩ <;> (rw [cell_of_row _ _ _ _ _ _ (heap_alloc_new w _)]; rfl)
theorem some_form (fn : Nat) (l : List UInt8) (pages n : Int) (w : World) (h : Calls Try.prog fn #[.string (strB l), .int .i64 pages, .int .i64 n] w fun e w' => ∃ v, e = .returned (.tuple #[v, .bool (someB l pages n)]) ∧ OwnS w.heap.size w' v (someV l pages n) ∧ Below w.heap.size w w') :
    Calls Try.prog fn #[.string (strB l), .int .i64 pages, .int .i64 n] w fun e w' => ∃ A m c, e = .returned (.tuple #[.slice A m c, .bool (someB l pages n)]) ∧ Sps w' (.slice A m c) (someV l pages n) ∧ Below w.heap.size w w' := by
  refine h.mono fun e w' hh => ?_
  obtain ⟨v, he, ho, hb⟩ := hh
  obtain ⟨A, c, hv⟩ := ho.sps.form
  subst hv
  exact ⟨A, _, c, he, ho.sps, hb⟩
theorem someV_len (l : List UInt8) (pages n : Int) : (someV l pages n).length ≤ 512 := by
  unfold someV
  split
  · have := runsN_len l n.toNat (capN pages)
    have : capN pages ≤ 512 := by unfold capN; omega
    omega
  · simp

set_option maxRecDepth 100000 in
set_option maxHeartbeats 8000000 in
theorem tells_few (l : List UInt8) (a b c : Int) (r : List (Int × Int)) (A : Option Addr) (n cap : Nat) (w : World) (hl : l.length ≤ 300) (hv : Sps w (.slice A n cap) r) (hn : n ≤ 30) (hc : c ≤ 1000) :
    Calls Try.prog 3 #[.string (strB l), .agg #[.int .i64 a, .int .i64 b, .int .i64 c], .slice A n cap] w fun e w' => e = .returned (.bool true) ∧ Below w.heap.size w w' := by
  have hs := strB_size l
  have HRN := Lib.hid hv.at_.1
  have gl : ¬ (300 : Int) < (l.length : Int) := by omega
  have gn : ¬ (30 : Int) < (n : Int) := by omega
  obtain ⟨Y, hY, hbY, hBY⟩ : ∃ Y, Y = w.alloc (.cells #[.int .i64 a, .int .i64 b, .int .i64 c] 22) ∧ Box3 Y w.heap.size a b c ∧ Below w.heap.size w Y := ⟨_, rfl, Box3.new w a b c 22, below_one _ _⟩
  have HX := Lib.hid hbY
  have HB := Lib.hid hBY
  have HY := Lib.hid hY
  have HV := Lib.hid (hv.below hBY)
  clear hv hY hbY hBY
  go_enter Try.func3, Try.ntmps3
  go_wp2_with fail
  rw [← HY.out]
  go_loopw [7] (fun u wr => ∃ i : Nat, i ≤ n ∧ u = .int .i64 (i : Nat) ∧ Hid (∀ x ∈ r.take i, -10000 ≤ x.1 ∧ x.1 ≤ 10000) ∧ Hid (Sps wr (.slice A n cap) r) ∧ Hid (Box3 wr w.heap.size a b c) ∧ Hid (Below w.heap.size w wr)) (fun u _ => n - (intOf u).toNat)
  case atStart => exact ⟨0, Nat.zero_le _, rfl, Lib.hid (fun x hx => by cases hx), HV, HX, HB⟩
  case round =>
    clear HV HX HB
    obtain ⟨i, hi, rfl, HR, HV, HX, HB⟩ := hrel
    by_cases hlt : i < n
    · obtain ⟨x, hx⟩ : ∃ x, r[i]? = some x := ⟨_, List.getElem?_eq_getElem (by have := HRN.out; omega)⟩
      obtain ⟨b', off, rfl, hbl, hcell⟩ := HV.out.at_.2.2 (by omega)
      have c0 := (hcell i x hx).1
      have hi2 : (i : Int) < (n : Int) := by omega
      have HT : Hid (r.take (i + 1) = r.take i ++ [x]) := Lib.hid (by rw [List.take_add_one, hx]; rfl)
      clear hcell hx
      by_cases h1 : (10000 : Int) < x.1
      · go_wp2_with fail
        (with_reducible refine (awake_true _).mono ?_)
        rintro e w3 ⟨rfl, hB⟩
        replace HB := Lib.hid (below_trans2 HB.out hB)
        clear hB
        go_wp2_with fail
        go_ret
        exact ⟨rfl, HB.out⟩
      · by_cases h2 : x.1 < (-10000 : Int)
        · go_wp2_with fail
          (with_reducible refine (awake_true _).mono ?_)
          rintro e w3 ⟨rfl, hB⟩
          replace HB := Lib.hid (below_trans2 HB.out hB)
          clear hB
          go_wp2_with fail
          go_ret
          exact ⟨rfl, HB.out⟩
        · have HR2 : Hid (∀ x ∈ r.take (i + 1), -10000 ≤ x.1 ∧ x.1 ≤ 10000) := Lib.hid (fun y hy => by
            rw [HT.out] at hy
            rcases List.mem_append.1 hy with hy | hy
            · exact HR.out y hy
            · obtain rfl : y = x := by simpa using hy
              omega)
          go_wp2_with fail
          exact ⟨⟨i + 1, by omega, by go_num, HR2, HV, HX, HB⟩, by simp [intOf]; omega⟩
    · obtain rfl : i = n := by omega
      have HRR : Hid (∀ x ∈ r, -10000 ≤ x.1 ∧ x.1 ≤ 10000) := Lib.hid (by have := HR.out; rw [List.take_of_length_le (by rw [HRN.out]; exact Nat.le_refl _)] at this; exact this)
      clear HR
      have n0 := HX.out.c0
      have n1 := HX.out.c1
      have n2 := HX.out.c2
      go_wp2_with fail
      clear n0 n1 n2
      (with_reducible refine (side_calls l b c _ hl hc).mono ?_)
      rintro e w' ⟨rfl, hB⟩
      replace HB := Lib.hid (below_trans2 HB.out hB)
      replace HV := Lib.hid (HV.out.below hB)
      replace HX := Lib.hid (HX.out.below hB)
      clear hB
      have HP := Lib.hid (SBox.new w' (sideV l b c))
      replace HB := Lib.hid (below_trans2 HB.out (below_one w' (.cells #[.int .i64 (sideV l b c).1, .int .i64 (sideV l b c).2] 26)))
      replace HV := Lib.hid (HV.out.below (below_one w' (.cells #[.int .i64 (sideV l b c).1, .int .i64 (sideV l b c).2] 26)))
      replace HX := Lib.hid (HX.out.below (below_one w' (.cells #[.int .i64 (sideV l b c).1, .int .i64 (sideV l b c).2] 26)))
      have n0 := HX.out.c0
      have n1 := HX.out.c1
      have n2 := HX.out.c2
      go_wp2_with fail
      clear n0 n1 n2
      (with_reducible refine (rside_calls l b c _ hl hc).mono ?_)
      rintro e w'2 ⟨rfl, hB⟩
      replace HB := Lib.hid (below_trans2 HB.out hB)
      replace HV := Lib.hid (HV.out.below hB)
      replace HX := Lib.hid (HX.out.below hB)
      replace HP := Lib.hid (HP.out.below hB)
      clear hB
      have HQ := Lib.hid (SBox.new w'2 (sideV l b c))
      replace HB := Lib.hid (below_trans2 HB.out (below_one w'2 (.cells #[.int .i64 (sideV l b c).1, .int .i64 (sideV l b c).2] 26)))
      replace HV := Lib.hid (HV.out.below (below_one w'2 (.cells #[.int .i64 (sideV l b c).1, .int .i64 (sideV l b c).2] 26)))
      replace HX := Lib.hid (HX.out.below (below_one w'2 (.cells #[.int .i64 (sideV l b c).1, .int .i64 (sideV l b c).2] 26)))
      replace HP := Lib.hid (HP.out.below (below_one w'2 (.cells #[.int .i64 (sideV l b c).1, .int .i64 (sideV l b c).2] 26)))
      have n0 := HX.out.c0
      have n1 := HX.out.c1
      have n2 := HX.out.c2
      go_wp2_with fail
      clear n0 n1 n2
      (with_reducible refine (some_form 10 l b c _ (some_calls l b c _ hl hc)).mono ?_)
      rintro e w3 ⟨A1, m1, c1, rfl, hS, hB⟩
      have HS1 := Lib.hid hS
      clear hS
      replace HB := Lib.hid (below_trans2 HB.out hB)
      replace HV := Lib.hid (HV.out.below hB)
      replace HX := Lib.hid (HX.out.below hB)
      replace HP := Lib.hid (HP.out.below hB)
      replace HQ := Lib.hid (HQ.out.below hB)
      clear hB
      have n0 := HX.out.c0
      have n1 := HX.out.c1
      have n2 := HX.out.c2
      go_wp2_with fail
      clear n0 n1 n2
      (with_reducible refine (some_form 11 l b c _ (rsome_calls l b c _ hl hc)).mono ?_)
      rintro e w4 ⟨A2, m2, c2, rfl, hS, hB⟩
      have HS2 := Lib.hid hS
      clear hS
      replace HB := Lib.hid (below_trans2 HB.out hB)
      replace HV := Lib.hid (HV.out.below hB)
      replace HX := Lib.hid (HX.out.below hB)
      replace HP := Lib.hid (HP.out.below hB)
      replace HQ := Lib.hid (HQ.out.below hB)
      replace HS1 := Lib.hid (HS1.out.below hB)
      clear hB
      clear HY
      have hbw := HB.out.size
      have n0 := fun d os => cell_regrown HX.out.c0 d os
      have n1 := fun d os => cell_regrown HX.out.c1 d os
      have p0 := fun d os => cell_regrown HP.out.c0 d os
      have p1 := fun d os => cell_regrown HP.out.c1 d os
      have q0 := fun d os => cell_regrown HQ.out.c0 d os
      have q1 := fun d os => cell_regrown HQ.out.c1 d os
      have C7 : Hid (∀ d os, _) := Lib.hid (fun d os => Calls.regrown_of (w := w4) (d := d) (os := os) (awake_true _))
      have C12 : Hid (∀ d os, _) := Lib.hid (fun d os => Calls.regrown_of (w := w4) (d := d) (os := os) (taken_calls l a _ hl))
      have C13 : Hid (∀ d os, _) := Lib.hid (fun d os => Calls.regrown_of (w := w4) (d := d) (os := os) ((rtaken_calls l a _ hl).mono fun e w'' hh => ⟨hh.1, by rw [hh.2]; exact Below.refl _ _⟩))
      have C14 : Hid (∀ t d os, _) := Lib.hid (fun t d os => Calls.regrown_of (w := w4) (d := d) (os := os) (mark_calls l t r _ _ _ _ hl (HV.out.below (below_regrown w4 d os)) (by omega) (fun x hx => (HRR.out x hx).1)))
      have C15 : Hid (∀ t d os, _) := Lib.hid (fun t d os => Calls.regrown_of (w := w4) (d := d) (os := os) (rmark_calls l t r _ _ _ _ hl (HV.out.below (below_regrown w4 d os)) (by omega) HRR.out))
      have C16 : Hid (∀ d os, _) := Lib.hid (fun d os => Calls.regrown_of (w := w4) (d := d) (os := os) (free_calls l b _ hl))
      have C17 : Hid (∀ d os, _) := Lib.hid (fun d os => Calls.regrown_of (w := w4) (d := d) (os := os) (rfree_calls l b _ hl))
      have C18 : Hid (∀ d os, _) := Lib.hid (fun d os => Calls.regrown_of (w := w4) (d := d) (os := os) (same_calls _ _ _ _ _ _ _ _ (HS1.out.below (below_regrown w4 d os)) (HS2.out.below (below_regrown w4 d os)) (by have := HS1.out.at_.1; have := someV_len l b c; omega)))
      have C19 : Hid (∀ d os, _) := Lib.hid (fun d os => Calls.regrown_of (w := w4) (d := d) (os := os) (root_calls l _ hl))
      have C20 : Hid (∀ d os, _) := Lib.hid (fun d os => Calls.regrown_of (w := w4) (d := d) (os := os) (rroot_calls l _ hl))
      have C21 : Hid (∀ d os, _) := Lib.hid (fun d os => Calls.regrown_of (w := w4) (d := d) (os := os) (setRoot_calls l a _ hl))
      have C22 : Hid (∀ d os, _) := Lib.hid (fun d os => Calls.regrown_of (w := w4) (d := d) (os := os) (rsetRoot_calls l a _ hl))
      go_wp2_with fail
      refine wp_region_quiet_below (by kernel_rfl) (by kernel_rfl) ?_
      (try simp only [List.append_eq, List.cons_append, List.nil_append])
      repeat (first | go_big_quiet_step (first | (with_reducible exact C7.out _ _) | (with_reducible exact C12.out _ _) | (with_reducible exact C13.out _ _) | (with_reducible exact C14.out _ _ _) | (with_reducible exact C15.out _ _ _) | (with_reducible exact C16.out _ _) | (with_reducible exact C17.out _ _) | (with_reducible exact C18.out _ _) | (with_reducible exact C19.out _ _) | (with_reducible exact C20.out _ _) | (with_reducible exact C21.out _ _) | (with_reducible exact C22.out _ _)))
      refine wpQuiet_nil ?_
      intro w5 hw'
      have HB5 : Hid (Below w4.heap.size w4 w5) := Lib.hid (by
        obtain ⟨⟨dq, osq⟩, hw''⟩ := hw'
        rw [hw'']
        exact below_regrown w4 dq osq)
      clear hw' n0 n1 p0 p1 q0 q1
      go_wp2_with fail
      go_ret
      exact ⟨rfl, below_trans2 HB.out HB5.out⟩

end Go.Proofs.Ytjlcmmidbeikdaa
