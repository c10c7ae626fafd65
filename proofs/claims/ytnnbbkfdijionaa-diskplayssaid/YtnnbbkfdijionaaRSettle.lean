/- The document's own settle. No statement is proved here. -/
import Derived.Test.YtnnbbkfdijionaaFlush

import Derived.Maps.AppendAt
namespace Go.Proofs.Ytnnbbkfdijionaa
open Go.RowKit
attribute [local go_sem ↓] Go.wp_at_zero Go.wp_at_succ

/-- What holds at each round's head: the new row, the disk's box as it came. -/
structure RSet (w : World) (v v0 vw : Value) (dead : Bool) (left : Int) (ss : List ByteArray) (wr : World) : Prop where
  own : wr.ownsRow (w.heap.size + 2) 9 1 v ss.length (ss.map Value.string)
  box : wr.heap[w.heap.size]? = some (.cells #[v0, vw, .bool dead, .int .i64 left] 28 (0, 0))
  res : wr.heap[w.heap.size + 1]? = some (.cells #[.slice none 0 0, .slice none 0 0, .bool false, .int .i64 0] 28 (0, 0))
  below : Below w.heap.size w wr

theorem RSet.drew {w : World} {v v0 vw : Value} {dead : Bool} {left : Int} {ss : List ByteArray} {wr : World} (h : RSet w v v0 vw dead left ss wr) : RSet w v v0 vw dead left ss wr.drew :=
  ⟨h.own, h.box, h.res, h.below.drew⟩

theorem RSet.set {w : World} {g n cc : Nat} {v0 vw : Value} {dead : Bool} {left : Int} {ss : List ByteArray} {wr : World} (h : RSet w (.slice (some ⟨g, 0, none⟩) n cc) v0 vw dead left ss wr) (j : Nat) (hj : j < ss.length) (u : ByteArray) :
    RSet w (.slice (some ⟨g, 0, none⟩) n cc) v0 vw dead left (ss.set j u) (wr.setCell ⟨g, j, none⟩ (.string u)) := by
  obtain ⟨hl, hor⟩ := h.own
  rcases hor with ⟨hv, _⟩ | ⟨g', cap, cur, hv, hbg, hg, hnc, hcm, hcs, ht⟩
  · cases hv
  · injection hv with e1 e2 e3
    injection e1 with e1
    injection e1 with e1
    subst e1
    subst e3
    refine ⟨⟨by simp, .inr ⟨g, cc, cur.setIfInBounds j (.string u), ?_, hbg, heap_setCell_at hg, by simpa using hnc, hcm, by simpa using hcs, ?_⟩⟩, ?_, ?_, ?_⟩
    · rw [e2]; simp
    · simp only [List.length_set, Nat.mul_one, Array.toList_setIfInBounds, List.take_set]
      rw [Nat.mul_one] at ht
      rw [ht, List.map_set]
    · rw [Below.heap_setCell _ _ _ _ (by simp; omega)]; exact h.box
    · rw [Below.heap_setCell _ _ _ _ (by simp; omega)]; exact h.res
    · exact h.below.setCell (p := ⟨g, j, none⟩) (by simp; omega) _

theorem RSet.at_ {w : World} {g n cc : Nat} {v0 vw : Value} {dead : Bool} {left : Int} {ss : List ByteArray} {wr : World} (h : RSet w (.slice (some ⟨g, 0, none⟩) n cc) v0 vw dead left ss wr) (j : Nat) (hj : j < ss.length) :
    (∃ u, wr.cell? ⟨g, j, none⟩ = some (.string u)) ∧ wr.frozen? ⟨g, j, none⟩ = false ∧ w.heap.size + 1 < g := by
  obtain ⟨hl, hor⟩ := h.own
  rcases hor with ⟨hv, _⟩ | ⟨g', cap, cur, hv, hbg, hg, hnc, hcm, hcs, ht⟩
  · cases hv
  · injection hv with e1 e2 e3
    injection e1 with e1
    injection e1 with e1
    subst e1
    refine ⟨⟨ss[j], ?_⟩, ?_, by omega⟩
    · have := h.own.cells (g := g) rfl j (.string ss[j]) (by simp [hj])
      rw [Addr.add_lit, Nat.zero_add] at this
      exact this
    · simp [World.frozen?, hg]

theorem info9s : (Try.prog.info? 9).map (fun i => (i.zero, i.size, i.bytes)) = some (some (.string ⟨#[]⟩), 1, 16) := by kernel_rfl

set_option maxRecDepth 100000 in
set_option maxHeartbeats 2000000 in
theorem rsettle_some (b off : Nat) (sure : List ByteArray) (c : Nat) (A' : Option Addr) (c' : Nat) (wet : List Wt) (dead : Bool) (left : Int) (stay : Nat) (w : World) (hst64 : stay < 18446744073709551616) (hn : sure.length ≤ 1000000) (hm : wet.length ≤ 1000000)
    (hin : ∀ o ∈ wet, 0 ≤ o.1 ∧ o.1 < sure.length)
    (h1 : SL w 9 1 (.slice (some ⟨b, off, none⟩) sure.length c) sure.length (sure.map Value.string)) (h2 : SL w 52 2 (.slice A' wet.length c') wet.length (wetCells wet)) :
    Calls Try.prog 29 #[.agg #[.slice (some ⟨b, off, none⟩) sure.length c, .slice A' wet.length c', .bool dead, .int .i64 left], .int .u64 stay] w fun e w' =>
      ∃ v, e = .returned (.agg #[v, .slice none 0 0, .bool dead, .int .i64 left]) ∧ SL w' 9 1 v sure.length ((settleF stay wet sure).map Value.string) ∧ Below w.heap.size w w' := by
  obtain ⟨n, hnl⟩ : ∃ n, n = sure.length := ⟨_, rfl⟩
  obtain ⟨m, hml⟩ : ∃ m, m = wet.length := ⟨_, rfl⟩
  obtain ⟨i0, hi, hz0, hz1, hz2⟩ := info_parts info9s
  rw [← hnl] at h1 hn ⊢
  rw [← hml] at h2 hm ⊢
  have H64 := Lib.hid hst64
  have HN := Lib.hid hnl
  have HM := Lib.hid hml
  have H1 := Lib.hid h1
  have H2 := Lib.hid h2
  have HIN := Lib.hid hin
  clear hnl hml h1 h2 hst64 hin
  have hb0 : Below w.heap.size w (((w.alloc (.cells #[.slice (some ⟨b, off, none⟩) n c, .slice A' m c', .bool dead, .int .i64 left] 28)).alloc (.cells #[.slice none 0 0, .slice none 0 0, .bool false, .int .i64 0] 28)).alloc (.cells #[] 9)) := (((Below.refl _ _).alloc (Nat.le_refl _) _).alloc (by simp) _).alloc (by simp; omega) _
  obtain ⟨X, hX, hXs, hG1, hG2, hO, hbX⟩ : ∃ X, ((w.alloc (.cells #[.slice (some ⟨b, off, none⟩) n c, .slice A' m c', .bool dead, .int .i64 left] 28)).alloc (.cells #[.slice none 0 0, .slice none 0 0, .bool false, .int .i64 0] 28)).alloc (.cells #[] 9) = X ∧ X.heap.size = w.heap.size + 3 ∧ X.heap[w.heap.size]? = some (.cells #[.slice (some ⟨b, off, none⟩) n c, .slice A' m c', .bool dead, .int .i64 left] 28 (0, 0)) ∧ X.heap[w.heap.size + 1]? = some (.cells #[.slice none 0 0, .slice none 0 0, .bool false, .int .i64 0] 28 (0, 0)) ∧ X.ownsRow (w.heap.size + 2) 9 1 (.slice (some ⟨w.heap.size + 2, 0, none⟩) 0 0) 0 [] ∧ Below w.heap.size w X := by
    refine ⟨_, rfl, by simp, box_alloc (box_alloc (heap_alloc_new w _) _) _, ?_, ⟨rfl, .inr ⟨w.heap.size + 2, 0, #[], rfl, Nat.le_refl _, ?_, Nat.le_refl _, by decide, rfl, rfl⟩⟩, hb0⟩
    · exact box_alloc (by have := heap_alloc_new (w.alloc (.cells #[.slice (some ⟨b, off, none⟩) n c, .slice A' m c', .bool dead, .int .i64 left] 28)) (.cells #[.slice none 0 0, .slice none 0 0, .bool false, .int .i64 0] 28); simpa using this) _
    · have := heap_alloc_new ((w.alloc (.cells #[.slice (some ⟨b, off, none⟩) n c, .slice A' m c', .bool dead, .int .i64 left] 28)).alloc (.cells #[.slice none 0 0, .slice none 0 0, .bool false, .int .i64 0] 28)) (.cells #[] 9)
      simpa using this
  have hsrc : ∀ (j : Nat) (u : Value), (sure.map Value.string)[j]? = some u → X.cell? ((⟨b, off, none⟩ : Addr).add j) = some u := by
    intro j u hj
    obtain ⟨A3, c3, e3, _, hr⟩ := H1.out
    cases e3
    have hpos : 0 < n := by
      have h1 := (List.getElem?_eq_some_iff.1 hj).1
      have h2 := HN.out
      rw [List.length_map] at h1
      omega
    obtain ⟨b2, off2, e2, hbl, hc⟩ := hr.at_ hpos
    cases e2
    rw [Addr.add_lit]
    exact (hbX.cell (p := ⟨b, off + j, none⟩) hbl).trans (hc j u hj)
  have HX := Lib.hid hX
  have HG1 := Lib.hid hG1
  have HG2 := Lib.hid hG2
  have HO := Lib.hid hO
  have HBX := Lib.hid hbX
  have HSRC := Lib.hid hsrc
  have HXS := Lib.hid hXs
  clear hb0 hX hG1 hG2 hO hbX hsrc hXs
  go_enter Try.func29, Try.ntmps29
  go_wp2_with (at_builtin; rw [HX.out]; refine wpList_append_own_at _ (by rfl) (.tmp 7) (.tmp 9) 25 (by rfl) (w.heap.size + 2) 9 i0 (.string ⟨#[]⟩) 1 16 Try.underlying25 hi hz0 hz1 hz2 (by rfl) (by omega) (.slice (some ⟨w.heap.size + 2, 0, none⟩) 0 0) 0 [] (by rfl) (by exact HO.out) ⟨b, off, none⟩ n c (sure.map Value.string) (by rfl) (by rw [HN.out]; simp) (by exact HSRC.out) (by simp [Value.oneCell']) (Nat.le_trans (show 0 + n ≤ 1000000 by omega) (by decide)) (by omega) (by rw [HXS.out]; omega) ?_; intro v1 w1 hown1 hgrow1 hnil1 hat1)
  rw [Nat.zero_add, List.nil_append] at hown1
  obtain ⟨A2, cc2, ev, _⟩ := SL.of_own hown1
  subst ev
  have hrel0 : RSet w (.slice A2 n cc2) (.slice (some ⟨b, off, none⟩) n c) (.slice A' m c') dead left (settleK stay wet sure 0) w1 := by
    refine ⟨?_, box_grown HG1.out hgrow1 ?_, box_grown HG2.out hgrow1 ?_, HBX.out.grown hgrow1 (by rw [HXS.out]; omega) ?_⟩
    · show w1.ownsRow (w.heap.size + 2) 9 1 _ sure.length (sure.map Value.string)
      rw [← HN.out]
      exact hown1
    · simp [Value.ownBlock]
    · simp [Value.ownBlock]
    · intro k e
      simp [Value.ownBlock] at e
      omega
  have HR0 := Lib.hid hrel0
  clear hown1 hgrow1 hnil1 hat1 hrel0 HX HG1 HG2 HO HBX HSRC HXS
  obtain ⟨⟨p0, p1, p2, p3⟩, _⟩ := box4 HR0.out.box
  go_loopw [6] (fun u wr => ∃ k : Nat, k ≤ m ∧ u = .int .i64 k ∧ RSet w (.slice A2 n cc2) (.slice (some ⟨b, off, none⟩) n c) (.slice A' m c') dead left (settleK stay wet sure k) wr) (fun u _ => m - (intOf u).toNat)
  case atStart => exact ⟨0, Nat.zero_le _, rfl, HR0.out⟩
  case round =>
    obtain ⟨k, hk, rfl, hrel⟩ := hrel
    clear HR0 p0 p1 p2 p3
    obtain ⟨⟨p0, p1, p2, p3⟩, f0, f1, f2, f3⟩ := box4 hrel.box
    by_cases hlt : k < m
    · obtain ⟨o, ho⟩ : ∃ o, wet[k]? = some o := ⟨_, List.getElem?_eq_getElem (by have := HM.out; omega)⟩
      obtain ⟨A3, c3, e3, _, hr2⟩ := H2.out
      cases e3
      obtain ⟨bw, ow, rfl, hbl, hcell⟩ := hr2.at_ (by omega)
      have hw := wetCells_at wet k o ho
      have hst : settleK stay wet sure (k + 1) = setStep stay k o (settleK stay wet sure k) := by
        show (match wet[k]? with | some o => setStep stay k o (settleK stay wet sure k) | none => settleK stay wet sure k) = _
        rw [ho]
      have hlen : (settleK stay wet sure k).length = n := by rw [settleK_length, HN.out]
      have hino := HIN.out o (List.mem_of_getElem? ho)
      rw [← HN.out] at hino
      obtain ⟨oa, od⟩ := o
      dsimp only at hino
      obtain ⟨j, rfl⟩ := Int.eq_ofNat_of_zero_le hino.1
      have hj : j < n := by omega
      have hc0 : wr.cell? ⟨bw, ow + k * 2, none⟩ = some (.int .i64 j) := (hrel.below.cell (p := ⟨bw, ow + k * 2, none⟩) hbl).trans (hcell _ _ hw.1)
      have hc1 : wr.cell? ⟨bw, ow + k * 2 + 1, none⟩ = some (.string od) := (hrel.below.cell (p := ⟨bw, ow + k * 2 + 1, none⟩) hbl).trans (hcell _ _ hw.2)
      have HS := Lib.hid hst
      have HL := Lib.hid hlen
      have hk1 : k + 1 ≤ m := hlt
      have hk0 : (0 : Int) ≤ (k : Int) := by omega
      have hk2 : (k : Int) < (m : Int) := by omega
      have hj0 : (0 : Int) ≤ (j : Int) := by omega
      have hj2 : (j : Int) < (n : Int) := by omega
      clear hcell hw ho hst hlen hr2 hino
      have hbt := bit_test stay (k % 64) H64.out
      by_cases hb : stay.testBit (k % 64) = true
      · rw [if_pos hb] at hbt
        obtain ⟨g, cap, hv, _, hgl⟩ := hrel.own.form (by rw [HL.out]; omega)
        injection hv with e1 e2 e3
        subst e1
        obtain ⟨⟨u, s0⟩, s1, s2⟩ := hrel.at_ j (by rw [HL.out]; exact hj)
        have hne1 : g ≠ w.heap.size := by omega
        have hs' : settleK stay wet sure (k + 1) = (settleK stay wet sure k).set j od := by
          rw [HS.out]; unfold setStep; rw [if_pos]
          · rfl
          · exact ⟨hb, by simp, by rw [HL.out]; simpa using hj⟩
        have HS' := Lib.hid hs'
        have HREL := Lib.hid hrel
        clear hb hs' e2 e3 hrel
        go_wp2_with fail
        go_region_with (fail)
        all_goals
          go_wp2_with fail
          exact ⟨⟨k + 1, hk1, by go_num, by rw [HS'.out]; exact HREL.out.drew.set j (by rw [HL.out]; exact hj) od⟩, by simp [intOf]; omega⟩
      · rw [if_neg hb] at hbt
        have hs' : settleK stay wet sure (k + 1) = settleK stay wet sure k := by
          rw [HS.out]; unfold setStep; rw [if_neg]; exact fun h => hb h.1
        have HS' := Lib.hid hs'
        have HREL := Lib.hid hrel
        clear hb hs' hrel
        go_wp2_with fail
        exact ⟨⟨k + 1, hk1, by go_num, by rw [HS'.out]; exact HREL.out⟩, by simp [intOf]; omega⟩
    · have hkm : k = m := by omega
      have hfin : settleF stay wet sure = settleK stay wet sure k := by rw [hkm, HM.out]; rfl
      have HF := Lib.hid hfin
      have hlen : (settleK stay wet sure k).length = n := by rw [settleK_length, HN.out]
      have HL := Lib.hid hlen
      obtain ⟨⟨hq0, hq1, hq2, hq3⟩, hg0, hg1, hg2, hg3⟩ := box4 hrel.res
      clear hkm hfin hlen
      go_wp2_with fail
      refine bodyPost_ret (v := .agg #[.slice A2 n cc2, .slice none 0 0, .bool dead, .int .i64 left]) (by simp [results, Try.results29, go_sem, hq0, hq1, hq2, hq3, hg0, hg1, hg2, hg3]) rfl ⟨_, rfl, ?_, ?_⟩
      · have h0' := SL.of_own hrel.own
        rw [HL.out, ← HF.out] at h0'
        have h1' := h0'.other (w' := (wr.setCell ⟨w.heap.size, 0, none⟩ (.slice A2 n cc2)).setCell ⟨w.heap.size, 1, none⟩ (.slice none 0 0)) hrel.box (by decide) (fun b hb => by rw [Below.heap_setCell _ _ _ _ hb, Below.heap_setCell _ _ _ _ hb])
        exact h1'.other (by rw [Below.heap_setCell _ _ _ _ (by simp), Below.heap_setCell _ _ _ _ (by simp)]; exact hrel.res) (by decide) (store4_other _ _ _ _ _ _)
      · exact below_store4 ((hrel.below.setCell (p := ⟨w.heap.size, 0, none⟩) (Nat.le_refl _) _).setCell (p := ⟨w.heap.size, 1, none⟩) (Nat.le_refl _) _) _ (by omega) _ _ _ _

end Go.Proofs.Ytnnbbkfdijionaa
