/- ItemOrder: the walk. No statement is proved here. -/
import Derived.Test.YtgnhjcgegibpdaaAwake
import Derived.Test.YtgnhjcgegibpdaaSort
namespace Go.Proofs.Ytgnhjcgegibpdaa
open Go.RowKit
open Go.Sort (grow)

theorem boxf {W : World} {g : Nat} {x : It} (h : Box W g x) : W.frozen? ⟨g, 0, none⟩ = false ∧ W.frozen? ⟨g, 1, none⟩ = false ∧ W.frozen? ⟨g, 2, none⟩ = false ∧ W.frozen? ⟨g, 3, none⟩ = false ∧ W.frozen? ⟨g, 4, none⟩ = false ∧ W.frozen? ⟨g, 5, none⟩ = false ∧ W.frozen? ⟨g, 6, none⟩ = false := by
  unfold Box at h
  refine ⟨?_, ?_, ?_, ?_, ?_, ?_, ?_⟩ <;> simp [World.frozen?, h]
theorem heap_setCell_at {w : World} {g i : Nat} {u : Value} {cur : Array Value} {t : TypeId} {fr : Nat × Nat} (h : w.heap[g]? = some (.cells cur t fr)) : (w.setCell ⟨g, i, none⟩ u).heap[g]? = some (.cells (cur.setIfInBounds i u) t fr) := by
  simp [World.setCell, Array.getElem?_modify, h]
/-- An item laid over another one. -/
theorem box_store {W : World} {g : Nat} {x : It} (h : Box W g x) (z : It) : ∃ X, (((((((W.setCell ⟨g, 0, none⟩ (.string (strB z.key))).setCell ⟨g, 1, none⟩ (.int .i64 z.seq)).setCell ⟨g, 2, none⟩ (.int .i64 z.ver)).setCell ⟨g, 3, none⟩ (.bool z.mark)).setCell ⟨g, 4, none⟩ (.string (strB z.mt))).setCell ⟨g, 5, none⟩ (.string (strB z.tag))).setCell ⟨g, 6, none⟩ (.string (strB z.body))) = X ∧ Box X g z ∧ ∀ B a, Below B a W → B ≤ g → Below B a X := by
  refine ⟨_, rfl, ?_, fun B a hb hg => ?_⟩
  · have h1 := heap_setCell_at (i := 0) (u := .string (strB z.key)) h
    have h2 := heap_setCell_at (i := 1) (u := .int .i64 z.seq) h1
    have h3 := heap_setCell_at (i := 2) (u := .int .i64 z.ver) h2
    have h4 := heap_setCell_at (i := 3) (u := .bool z.mark) h3
    have h5 := heap_setCell_at (i := 4) (u := .string (strB z.mt)) h4
    have h6 := heap_setCell_at (i := 5) (u := .string (strB z.tag)) h5
    have h7 := heap_setCell_at (i := 6) (u := .string (strB z.body)) h6
    unfold Box
    rw [h7]
    simp
  · exact ((((((hb.setCell (p := ⟨g, 0, none⟩) hg _).setCell (p := ⟨g, 1, none⟩) hg _).setCell (p := ⟨g, 2, none⟩) hg _).setCell (p := ⟨g, 3, none⟩) hg _).setCell (p := ⟨g, 4, none⟩) hg _).setCell (p := ⟨g, 5, none⟩) hg _).setCell (p := ⟨g, 6, none⟩) hg _

/-- y is, of those of its key and number, the last one among the first q (or one further on). -/
def LastTo (l : List It) (y : It) (q : Nat) : Prop := ∃ j, l[j]? = some y ∧ ∀ q' z, j < q' → q' < q → l[q']? = some z → ¬ same z y

theorem last_more {l : List It} {y z : It} {q : Nat} (h : LastTo l y q) (hz : l[q]? = some z) (hn : ¬ same z y) : LastTo l y (q + 1) := by
  obtain ⟨j, hj, hh⟩ := h
  refine ⟨j, hj, fun q' z' h1 h2 h3 => ?_⟩
  by_cases e : q' = q
  · subst e
    rw [hz] at h3
    injection h3 with h3
    rw [← h3]; exact hn
  · exact hh q' z' h1 (by omega) h3
theorem last_in {l : List It} {y : It} {n : Nat} (h : LastTo l y n) (hn : n = l.length) : y ∈ built l n := by
  obtain ⟨j, hj, hh⟩ := h
  exact built_last hj n (by rw [hn]; exact (List.getElem?_eq_some_iff.1 hj).1) (by omega) hh

set_option maxRecDepth 100000 in
set_option maxHeartbeats 16000000 in
theorem order_calls (v : Value) (l : List It) (w : World) (hv : Its w v l) (hlm : l.length ≤ 9223372036854775000)
    (hsz : ∀ x ∈ l, x.key.length ≤ 1000000000000000 ∧ x.mt.length ≤ 1000000000000000 ∧ x.tag.length ≤ 1000000000000000 ∧ x.body.length ≤ 1000000000000000) :
    Calls Try.prog 5 #[v] w fun e w' => e = .returned (.bool true) ∧ Below w.heap.size w w' := by
  have HS := Lib.hid (small_calls v l w hv hlm hsz)
  clear hsz
  obtain ⟨A, c, rfl⟩ := hv.form
  obtain ⟨n, hn⟩ : ∃ n, n = l.length := ⟨_, rfl⟩
  rw [← hn] at hv hlm HS ⊢
  have HN := Lib.hid hn
  have HV := Lib.hid hv
  clear hn hv
  go_enter Try.func5, Try.ntmps5
  go_wp2_with fail
  with_reducible refine HS.out.mono ?_
  rintro e w1 ⟨b, rfl, hb, hB1⟩
  clear HS
  cases b with
  | false =>
    clear hb
    go_wp2_with fail
    with_reducible refine (awake_true _).mono ?_
    rintro e w2 ⟨rfl, hB2⟩
    go_wp2_with fail
    go_ret
    exact ⟨rfl, below_trans' hB1 hB2⟩
  | true =>
    have h60 := (hb rfl).1
    clear hb hlm
    have HB1 := Lib.hid hB1
    clear hB1
    go_wp2_with fail
    go_loopw [3, 4] (fun u3 u4 wr => ∃ i : Nat, i ≤ n ∧ u4 = .int .i64 i ∧ Its wr u3 (built l i) ∧ Below w.heap.size w wr) (fun _ u _ => n - (intOf u).toNat)
    case atStart => exact ⟨0, Nat.zero_le _, rfl, Its.nil _, HB1.out⟩
    case round =>
      obtain ⟨i, hi', rfl, hI, hbr⟩ := hrel
      have HBR := Lib.hid hbr
      have HI := Lib.hid hI
      have hbl0 := built_len l i
      clear hbr hI HB1
      by_cases hlt : i < n
      · obtain ⟨x, hx⟩ : ∃ x, l[i]? = some x := ⟨_, List.getElem?_eq_getElem (by have := HN.out; omega)⟩
        obtain ⟨b, off, rfl, hbl, hcell⟩ := HV.out.at_.2.2 (by omega)
        obtain ⟨c0, c1, c2, c3, c4, c5, c6⟩ := (hcell i x hx).below hbl HBR.out
        have hi1 : (0 : Int) ≤ (i : Int) := by omega
        have hi2 : (i : Int) < (n : Int) := by omega
        have hp := put_its _ _ x _ HI.out (by omega)
        unfold itV at hp
        have HP := Lib.hid hp
        have HX := Lib.hid (built_next hx)
        clear hcell hx hp
        go_wp2_with fail
        with_reducible refine HP.out.mono ?_
        rintro e w3 ⟨v3, rfl, hv3, hB3⟩
        go_wp2_with fail
        exact ⟨⟨i + 1, by omega, by go_num, by rw [HX.out]; exact hv3, Below.trans HBR.out (hB3.mono HBR.out.size)⟩, by simp [intOf]; omega⟩
      · obtain rfl : i = n := by omega
        obtain ⟨X, hX⟩ : ∃ X, X = built l i := ⟨_, rfl⟩
        have hXs := built_sorted l i
        rw [← hX] at hXs HI hbl0
        have HXE := Lib.hid hX
        have HXS := Lib.hid hXs
        clear hX hXs
        obtain ⟨A2, c2, rfl⟩ := HI.out.form
        obtain ⟨m, hm⟩ : ∃ m, m = X.length := ⟨_, rfl⟩
        rw [← hm] at HI hbl0 ⊢
        have HM := Lib.hid hm
        clear hm
        go_wp2_with fail
        obtain ⟨wa, rfl⟩ : ∃ wa, wa = wr := ⟨_, rfl⟩
        go_loopw [5] (fun u5 w2 => ∃ j : Nat, 1 ≤ j ∧ j ≤ m + 1 ∧ u5 = .int .i64 j ∧ Below wa.heap.size wa w2) (fun u _ => m + 1 - (intOf u).toNat)
        case atStart => exact ⟨1, Nat.le_refl _, by omega, rfl, Below.refl _ _⟩
        case round =>
          obtain ⟨j, hj1, hj2, rfl, hb2⟩ := hrel
          obtain ⟨w2, rfl⟩ : ∃ w2, w2 = wr := ⟨_, rfl⟩
          have HB2 := Lib.hid hb2
          clear hb2
          by_cases hjm : j < m
          · obtain ⟨q, hq⟩ : ∃ q, j = q + 1 := ⟨j - 1, by omega⟩
            obtain ⟨y, hy⟩ : ∃ y, X[j]? = some y := ⟨_, List.getElem?_eq_getElem (by have := HM.out; omega)⟩
            obtain ⟨x, hx⟩ : ∃ x, X[q]? = some x := ⟨_, List.getElem?_eq_getElem (by have := HM.out; omega)⟩
            obtain ⟨b, off, rfl, hbl, hcell⟩ := HI.out.at_.2.2 (by omega)
            have hAp := (hcell q x hx).below hbl HB2.out
            have hAq := (hcell j y hy).below hbl HB2.out
            have hls := sorted_at HXS.out (by omega) hx hy
            have hlg := less_asymm hls
            have hcR := less_calls x y
            have hcL := less_calls y x
            rw [hls] at hcR
            rw [hlg] at hcL
            unfold itV at hcR hcL
            have CR : Hid (∀ d os, _) := Lib.hid (fun d os => Calls.regrown_of (w := w2) (d := d) (os := os) (hcR _))
            have CL : Hid (∀ d os, _) := Lib.hid (fun d os => Calls.regrown_of (w := w2) (d := d) (os := os) (hcL _))
            have p0 := fun d os => (hAp.regrown d os).c0
            have p1 := fun d os => (hAp.regrown d os).c1
            have p2 := fun d os => (hAp.regrown d os).c2
            have p3 := fun d os => (hAp.regrown d os).c3
            have p4 := fun d os => (hAp.regrown d os).c4
            have p5 := fun d os => (hAp.regrown d os).c5
            have p6 := fun d os => (hAp.regrown d os).c6
            have q0 := fun d os => (hAq.regrown d os).c0
            have q1 := fun d os => (hAq.regrown d os).c1
            have q2 := fun d os => (hAq.regrown d os).c2
            have q3 := fun d os => (hAq.regrown d os).c3
            have q4 := fun d os => (hAq.regrown d os).c4
            have q5 := fun d os => (hAq.regrown d os).c5
            have q6 := fun d os => (hAq.regrown d os).c6
            have hsb : (j : Int) - 1 = (q : Int) := by omega
            have hq1 : (0 : Int) ≤ (q : Int) := by omega
            have hq2 : (q : Int) < (m : Int) := by omega
            have hj3 : (0 : Int) ≤ (j : Int) := by omega
            have hj4 : (j : Int) < (m : Int) := by omega
            clear hcell hAp hAq hcR hcL hls hlg hx hy hq
            go_wp2_with fail
            refine wp_region_quiet_below (by kernel_rfl) (by kernel_rfl) ?_
            (try simp only [List.append_eq, List.cons_append, List.nil_append])
            repeat (first | go_big_quiet_step (first | (with_reducible exact CR.out _ _) | (with_reducible exact CL.out _ _)) | quiet_step (first | (with_reducible exact CR.out _ _) | (with_reducible exact CL.out _ _)))
            refine wpQuiet_nil ?_
            intro _ hw'
            obtain ⟨⟨dq, osq⟩, hw''⟩ := hw'
            subst hw''
            go_wp2_with fail
            exact ⟨⟨j + 1, by omega, by omega, by go_num, Below.trans HB2.out ((below_regrown w2 dq osq).mono HB2.out.size)⟩, by simp [intOf]; omega⟩
          · have hjn : ¬ (j : Int) < (m : Int) := by omega
            go_wp2_with fail
            go_loopw [6] (fun u6 w3 => ∃ k : Nat, k ≤ i ∧ u6 = .int .i64 k ∧ Below wa.heap.size wa w3) (fun u _ => i - (intOf u).toNat)
            case atStart => exact ⟨0, Nat.zero_le _, rfl, HB2.out⟩
            case round =>
              obtain ⟨k, hk, rfl, hb3⟩ := hrel
              obtain ⟨w3, rfl⟩ : ∃ w3, w3 = wr := ⟨_, rfl⟩
              have HB3 := Lib.hid hb3
              have HW3 := Lib.hid (Below.trans HBR.out (hb3.mono HBR.out.size))
              clear hb3 HB2
              by_cases hki : k < i
              · obtain ⟨x, hx⟩ : ∃ x, l[k]? = some x := ⟨_, List.getElem?_eq_getElem (by have := HN.out; omega)⟩
                obtain ⟨b, off, rfl, hbl, hcell⟩ := HV.out.at_.2.2 (by omega)
                obtain ⟨c0, c1, c2, c3, c4, c5, c6⟩ := (hcell k x hx).below hbl HW3.out
                have hk1 : (0 : Int) ≤ (k : Int) := by omega
                have hk2 : (k : Int) < (i : Int) := by omega
                have HX := Lib.hid hx
                have HC := Lib.hid hcell
                clear hcell hx
                go_wp2_with fail
                go_loopw [8] (fun u8 w4 => ∃ (q : Nat) (y : It), q ≤ i ∧ u8 = .int .i64 q ∧ Box w4 w3.heap.size y ∧ Hid (LastTo l y q) ∧ Below w3.heap.size w3 w4) (fun u _ => i - (intOf u).toNat)
                case atStart => exact ⟨0, x, Nat.zero_le _, rfl, heap_alloc_new w3 _, Lib.hid ⟨k, HX.out, fun q' z _ h => absurd h (by omega)⟩, below_one _ _⟩
                case round =>
                  obtain ⟨q, y, hq, rfl, hbox, HLT, hb4⟩ := hrel
                  obtain ⟨w4, rfl⟩ : ∃ w4, w4 = wr := ⟨_, rfl⟩
                  have HB4 := Lib.hid hb4
                  have HW4 := Lib.hid (below_trans' HW3.out hb4)
                  have HBOX := Lib.hid hbox
                  clear hb4 hbox c0 c1 c2 c3 c4 c5 c6
                  have hy0 := box7 HBOX.out
                  obtain ⟨y0, y1, y2, y3, y4, y5, y6⟩ := hy0
                  by_cases hqi : q < i
                  · obtain ⟨z, hz⟩ : ∃ z, l[q]? = some z := ⟨_, List.getElem?_eq_getElem (by have := HN.out; omega)⟩
                    obtain ⟨c0, c1, c2, c3, c4, c5, c6⟩ := (HC.out q z hz).below hbl HW4.out
                    have hq1 : (0 : Int) ≤ (q : Int) := by omega
                    have hq2 : (q : Int) < (i : Int) := by omega
                    have e1 := strB_toList z.key
                    have e2 := strB_toList y.key
                    have HZ := Lib.hid hz
                    clear hz
                    by_cases hk' : z.key = y.key
                    · have hkb : (z.key == y.key) = true := by simpa using hk'
                      clear hk'
                      by_cases hs' : z.seq = y.seq
                      · have hsb : (z.seq == y.seq) = true := by simpa using hs'
                        clear hs'
                        obtain ⟨f0, f1, f2, f3, f4, f5, f6⟩ := boxf HBOX.out
                        go_wp2_with fail
                        go_quiet (fail)
                        go_wp2_with fail
                        obtain ⟨Z, eZ, hZ, hBZ⟩ := box_store (W := w4.drewN nq) (g := w3.heap.size) HBOX.out z
                        rw [eZ]
                        exact ⟨⟨q + 1, z, by omega, by go_num, hZ, Lib.hid ⟨q, HZ.out, fun q' z' h1 h2 => absurd h2 (by omega)⟩, hBZ _ _ (bdrewN HB4.out nq) (Nat.le_refl _)⟩, by simp [intOf]; omega⟩
                      · have hsb : (z.seq == y.seq) = false := by simpa using hs'
                        have HF := Lib.hid (last_more HLT.out HZ.out (fun h => hs' h.2))
                        clear hs'
                        go_wp2_with fail
                        go_quiet (fail)
                        go_wp2_with fail
                        exact ⟨⟨q + 1, y, by omega, by go_num, HBOX.out, HF, bdrewN HB4.out nq⟩, by simp [intOf]; omega⟩
                    · have hkb : (z.key == y.key) = false := by simpa using hk'
                      have HF := Lib.hid (last_more HLT.out HZ.out (fun h => hk' h.1))
                      clear hk'
                      go_wp2_with fail
                      go_quiet (fail)
                      go_wp2_with fail
                      exact ⟨⟨q + 1, y, by omega, by go_num, HBOX.out, HF, bdrewN HB4.out nq⟩, by simp [intOf]; omega⟩
                  · have hqn : ¬ (q : Int) < (i : Int) := by omega
                    obtain rfl : q = i := by omega
                    have HI4 := Lib.hid (HI.out.below (below_trans' HB3.out HB4.out))
                    have hm60 : X.length ≤ 1000 := by have := HM.out; omega
                    have ho := of_calls _ X y.key w4 HI4.out hm60
                    have HO := Lib.hid ho
                    have hmem : y ∈ X := by rw [HXE.out]; exact last_in HLT.out HN.out
                    have HMEM := Lib.hid hmem
                    clear ho hmem
                    go_wp2_with fail
                    with_reducible refine HO.out.mono ?_
                    rintro e w5 ⟨v5, rfl, hO5, hB5⟩
                    have HW5 := Lib.hid (below_trans' (below_trans' HB3.out HB4.out) hB5)
                    have HY5 := Lib.hid (HBOX.out.below hB5)
                    obtain ⟨Y5, hY5⟩ : ∃ Y5, Y5 = ofL y.key X := ⟨_, rfl⟩
                    have hin : y ∈ Y5 := by rw [hY5]; exact List.mem_filter.2 ⟨HMEM.out, by simp⟩
                    rw [← hY5] at hO5
                    have HIN := Lib.hid hin
                    have HO5 := Lib.hid hO5.its
                    obtain ⟨A5, c5, rfl⟩ := HO5.out.form
                    obtain ⟨n5, hn5⟩ : ∃ n5, n5 = Y5.length := ⟨_, rfl⟩
                    have hle5 : n5 ≤ 1000 := by
                      rw [hn5, hY5]
                      exact Nat.le_trans (List.length_filter_le _ _) hm60
                    rw [← hn5] at HO5 ⊢
                    have HN5 := Lib.hid hn5
                    clear hn5 hO5 hY5 hin hB5 HO HI4 y0 y1 y2 y3 y4 y5 y6
                    go_wp2_with fail
                    go_loopw [10, 11] (fun u10 u11 w6 => ∃ (p : Nat) (bb : Bool), p ≤ n5 ∧ u11 = .int .i64 p ∧ u10 = .bool bb ∧ Hid (bb = false → ∀ p', p' < p → Y5[p']? ≠ some y) ∧ Below w5.heap.size w5 w6) (fun _ u _ => n5 - (intOf u).toNat)
                    case atStart => exact ⟨0, false, Nat.zero_le _, rfl, rfl, Lib.hid (fun _ p' h => absurd h (by omega)), Below.refl _ _⟩
                    case round =>
                      obtain ⟨p, bb, hp, rfl, rfl, HNO, hb6⟩ := hrel
                      obtain ⟨w6, rfl⟩ : ∃ w6, w6 = wr := ⟨_, rfl⟩
                      have HB6 := Lib.hid hb6
                      clear hb6
                      by_cases hpn : p < n5
                      · obtain ⟨z, hz⟩ : ∃ z, Y5[p]? = some z := ⟨_, List.getElem?_eq_getElem (by have := HN5.out; omega)⟩
                        obtain ⟨b5, off5, rfl, hbl5, hcell5⟩ := HO5.out.at_.2.2 (by omega)
                        obtain ⟨c0, c1, c2, c3, c4, c5, c6⟩ := (hcell5 p z hz).below hbl5 HB6.out
                        obtain ⟨y0, y1, y2, y3, y4, y5, y6⟩ := box7 (HY5.out.below HB6.out)
                        have hp1 : (0 : Int) ≤ (p : Int) := by omega
                        have hp2 : (p : Int) < (n5 : Int) := by omega
                        have heq := eql24 z y
                        unfold itV at heq
                        have HZ := Lib.hid hz
                        clear hz hcell5
                        cases bb with
                        | true =>
                          clear heq
                          go_wp2_with fail
                          go_quiet (fail)
                          go_wp2_with fail
                          exact ⟨⟨p + 1, true, by omega, by go_num, rfl, Lib.hid (fun h => by cases h), bdrewN HB6.out _⟩, by simp [intOf]; omega⟩
                        | false =>
                          by_cases hzy : z = y
                          · rw [decide_eq_true hzy] at heq
                            clear hzy
                            go_wp2_with fail
                            go_quiet (fail)
                            go_wp2_with fail
                            exact ⟨⟨p + 1, true, by omega, by go_num, rfl, Lib.hid (fun h => by cases h), bdrewN HB6.out _⟩, by simp [intOf]; omega⟩
                          · rw [decide_eq_false hzy] at heq
                            have HF : Hid (∀ p', p' < p + 1 → Y5[p']? ≠ some y) := Lib.hid fun p' hp' => by
                              by_cases e : p' = p
                              · subst e
                                rw [HZ.out]
                                intro h
                                injection h with h
                                exact hzy h
                              · exact HNO.out rfl p' (by omega)
                            clear hzy
                            go_wp2_with fail
                            go_quiet (fail)
                            go_wp2_with fail
                            exact ⟨⟨p + 1, false, by omega, by go_num, rfl, Lib.hid (fun _ => HF.out), bdrewN HB6.out _⟩, by simp [intOf]; omega⟩
                      · have hpn' : ¬ (p : Int) < (n5 : Int) := by omega
                        obtain rfl : bb = true := by
                          cases bb with
                          | true => rfl
                          | false =>
                            exfalso
                            obtain ⟨p', hp', e⟩ := List.mem_iff_getElem.1 HIN.out
                            exact HNO.out rfl p' (by have := HN5.out; omega) (by rw [List.getElem?_eq_getElem hp', e])
                        go_wp2_with fail
                        exact ⟨⟨k + 1, by omega, by go_num, Below.trans HW5.out (HB6.out.mono HW5.out.size)⟩, by simp [intOf]; omega⟩
              · have hkn : ¬ (k : Int) < (i : Int) := by omega
                go_wp2_with fail
                with_reducible refine (awake_true _).mono ?_
                rintro e w7 ⟨rfl, hB7⟩
                go_wp2_with fail
                go_ret
                exact ⟨rfl, below_trans' HW3.out hB7⟩

end Go.Proofs.Ytgnhjcgegibpdaa
