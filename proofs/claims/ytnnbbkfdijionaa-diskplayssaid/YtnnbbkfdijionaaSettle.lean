/- disk.settled: what is to be is, where a bit says so. No statement is proved here. -/
import Derived.Test.YtnnbbkfdijionaaWith
namespace Go.Proofs.Ytnnbbkfdijionaa
open Go.RowKit

/-- Sector o.1 is o.2, if the bit says so, and there is that sector. -/
def setStep (stay k : Nat) (o : Wt) (s : List ByteArray) : List ByteArray := if stay.testBit (k % 64) = true ∧ 0 ≤ o.1 ∧ o.1 < s.length then s.set o.1.toNat o.2 else s
/-- The sectors behind the first k of those that are to be something. -/
def settleK (stay : Nat) (wet : List Wt) (sure : List ByteArray) : Nat → List ByteArray
  | 0 => sure
  | k + 1 => match wet[k]? with
    | some o => setStep stay k o (settleK stay wet sure k)
    | none => settleK stay wet sure k
def settleF (stay : Nat) (wet : List Wt) (sure : List ByteArray) : List ByteArray := settleK stay wet sure wet.length

theorem setStep_length (stay k : Nat) (o : Wt) (s : List ByteArray) : (setStep stay k o s).length = s.length := by
  unfold setStep; split <;> simp
theorem settleK_length (stay : Nat) (wet : List Wt) (sure : List ByteArray) : ∀ k, (settleK stay wet sure k).length = sure.length
  | 0 => rfl
  | k + 1 => by
    unfold settleK
    split
    · rw [setStep_length, settleK_length stay wet sure k]
    · exact settleK_length stay wet sure k

set_option maxHeartbeats 1000000 in
theorem settled_none (A : Option Addr) (n c : Nat) (A' : Option Addr) (c' : Nat) (dead : Bool) (left : Int) (stay : Nat) (w : World) :
    Calls Try.prog 31 #[.agg #[.slice A n c, .slice A' 0 c', .bool dead, .int .i64 left], .int .u64 stay] w fun e w' =>
      e = .returned (.agg #[.slice A n c, .slice none 0 0, .bool dead, .int .i64 left]) ∧ Below w.heap.size w w' := by
  go_enter Try.func31, Try.ntmps31
  go_wp2_with fail
  refine wp_loop_rounds 1 ?_
  rw [rounds_succ]
  go_wp2_with fail
  exact bodyPost_ret (v := .agg #[.slice A n c, .slice none 0 0, .bool dead, .int .i64 left]) (by simp [results, Try.results31, go_sem]) rfl ⟨rfl, ((Below.refl _ _).alloc (Nat.le_refl _) _).alloc (by simp) _⟩

theorem heap_setCell_at {w : World} {g i : Nat} {u : Value} {cur : Array Value} {t : TypeId} {fr : Nat × Nat} (h : w.heap[g]? = some (.cells cur t fr)) : (w.setCell ⟨g, i, none⟩ u).heap[g]? = some (.cells (cur.setIfInBounds i u) t fr) := by
  simp [World.setCell, Array.getElem?_modify, h]

/-- What holds at each round's head. -/
structure SetRel (w : World) (v vw : Value) (dead : Bool) (left : Int) (ss : List ByteArray) (wr : World) : Prop where
  own : wr.ownsRow (w.heap.size + 2) 9 1 v ss.length (ss.map Value.string)
  box : wr.heap[w.heap.size]? = some (.cells #[v, vw, .bool dead, .int .i64 left] 28 (0, 0))
  res : wr.heap[w.heap.size + 1]? = some (.cells #[.slice none 0 0, .slice none 0 0, .bool false, .int .i64 0] 28 (0, 0))
  below : Below w.heap.size w wr

theorem SetRel.kept {w : World} {v vw : Value} {dead : Bool} {left : Int} {ss : List ByteArray} {wr w2 : World} (h : SetRel w v vw dead left ss wr) (hb : Below wr.heap.size wr w2) : SetRel w v vw dead left ss w2 := by
  have hle := h.below.size
  refine ⟨?_, box_kept _ h.box hb, box_kept _ h.res hb, below_trans' h.below hb⟩
  exact h.own.kept (row := none) ⟨hb.os, hb.tape, hb.output, hb.size, fun k hk _ => hb.block k hk⟩ (by cases hv : v.ownBlock <;> simp)

theorem SetRel.set {w : World} {g n cc : Nat} {vw : Value} {dead : Bool} {left : Int} {ss : List ByteArray} {wr : World} (h : SetRel w (.slice (some ⟨g, 0, none⟩) n cc) vw dead left ss wr) (j : Nat) (hj : j < ss.length) (u : ByteArray) :
    SetRel w (.slice (some ⟨g, 0, none⟩) n cc) vw dead left (ss.set j u) (wr.setCell ⟨g, j, none⟩ (.string u)) := by
  obtain ⟨hl, hor⟩ := h.own
  rcases hor with ⟨hv, _⟩ | ⟨g', cap, cur, hv, hbg, hg, hnc, hcm, hcs, ht⟩
  · cases hv
  · injection hv with e1 e2 e3
    injection e1 with e1
    injection e1 with e1
    subst e1
    subst e3
    refine ⟨⟨by simp, .inr ⟨g, cc, cur.setIfInBounds j (.string u), ?_, hbg, heap_setCell_at hg, by simpa using hnc, hcm, by simpa using hcs, ?_⟩⟩, ?_, ?_, ?_⟩
    · rw [e2]; simp
    · simp only [List.length_set, Nat.mul_one, Array.toList_setIfInBounds, List.take_set]
      rw [Nat.mul_one] at ht
      rw [ht, List.map_set]
    · rw [Below.heap_setCell _ _ _ _ (by simp; omega)]; exact h.box
    · rw [Below.heap_setCell _ _ _ _ (by simp; omega)]; exact h.res
    · exact h.below.setCell (p := ⟨g, j, none⟩) (by simp; omega) _

theorem SetRel.at_ {w : World} {g n cc : Nat} {vw : Value} {dead : Bool} {left : Int} {ss : List ByteArray} {wr : World} (h : SetRel w (.slice (some ⟨g, 0, none⟩) n cc) vw dead left ss wr) (j : Nat) (hj : j < ss.length) :
    (∃ u, wr.cell? ⟨g, j, none⟩ = some (.string u)) ∧ wr.frozen? ⟨g, j, none⟩ = false ∧ w.heap.size + 1 < g := by
  obtain ⟨hl, hor⟩ := h.own
  rcases hor with ⟨hv, _⟩ | ⟨g', cap, cur, hv, hbg, hg, hnc, hcm, hcs, ht⟩
  · cases hv
  · injection hv with e1 e2 e3
    injection e1 with e1
    injection e1 with e1
    subst e1
    refine ⟨⟨ss[j], ?_⟩, ?_, by omega⟩
    · have := h.own.cells (g := g) rfl j (.string ss[j]) (by simp [hj])
      rw [Addr.add_lit, Nat.zero_add] at this
      exact this
    · simp [World.frozen?, hg]

theorem bit_test (stay j : Nat) (h : stay < 18446744073709551616) : bits .and .u64 ((stay : Int) / 2 ^ j) 1 = if stay.testBit j = true then 1 else 0 := by
  have e : (stay : Int) / 2 ^ j = ((stay / 2 ^ j : Nat) : Int) := by
    rw [Int.natCast_ediv, Int.natCast_pow]; rfl
  have hlt : stay / 2 ^ j < 18446744073709551616 := Nat.lt_of_le_of_lt (Nat.div_le_self _ _) h
  have h1 := bits_and_u64_nat (stay / 2 ^ j) 1 hlt (by omega)
  rw [e, show (1 : Int) = ((1 : Nat) : Int) from rfl, h1, Nat.and_one_is_mod, Nat.testBit_eq_decide_div_mod_eq]
  by_cases hh : stay / 2 ^ j % 2 = 1
  · simp [hh]
  · have h2 : stay / 2 ^ j % 2 = 0 := by omega
    simp [h2]

set_option maxHeartbeats 2000000 in
theorem settled_some (A : Option Addr) (sure : List ByteArray) (c : Nat) (A' : Option Addr) (c' : Nat) (wet : List Wt) (dead : Bool) (left : Int) (stay : Nat) (w : World) (hst64 : stay < 18446744073709551616) (h0 : 0 < wet.length) (hn : sure.length ≤ 1000000) (hm : wet.length ≤ 1000000)
    (h1 : SL w 9 1 (.slice A sure.length c) sure.length (sure.map Value.string)) (h2 : SL w 52 2 (.slice A' wet.length c') wet.length (wetCells wet)) :
    Calls Try.prog 31 #[.agg #[.slice A sure.length c, .slice A' wet.length c', .bool dead, .int .i64 left], .int .u64 stay] w fun e w' =>
      ∃ v, e = .returned (.agg #[v, .slice none 0 0, .bool dead, .int .i64 left]) ∧ SL w' 9 1 v sure.length ((settleF stay wet sure).map Value.string) ∧ Below w.heap.size w w' := by
  obtain ⟨n, hnl⟩ : ∃ n, n = sure.length := ⟨_, rfl⟩
  obtain ⟨m, hml⟩ : ∃ m, m = wet.length := ⟨_, rfl⟩
  rw [← hnl] at h1 hn ⊢
  rw [← hml] at h2 hm h0 ⊢
  have hm0 : decide ((0 : Int) < m) = true := by simpa using h0
  have H64 := Lib.hid hst64
  have HN := Lib.hid hnl
  have HM := Lib.hid hml
  have H1 := Lib.hid h1
  have H2 := Lib.hid h2
  clear hnl hml h1 h2 hst64
  go_enter Try.func31, Try.ntmps31
  go_wp2_with fail
  have hb0 : Below w.heap.size w ((w.alloc (.cells #[.slice A n c, .slice A' m c', .bool dead, .int .i64 left] 28)).alloc (.cells #[.slice none 0 0, .slice none 0 0, .bool false, .int .i64 0] 28)) := ((Below.refl _ _).alloc (Nat.le_refl _) _).alloc (by simp) _
  have hcl := clone_calls (.slice A n c) sure _ (by rw [← HN.out]; exact H1.out.below hb0) (by rw [← HN.out]; exact hn)
  refine hcl.mono ?_
  rintro e w1 ⟨v, rfl, hown, hb1⟩
  have hg1 := box_kept w.heap.size (box_alloc (heap_alloc_new w _) _) hb1
  have hg2 : w1.heap[w.heap.size + 1]? = some (.cells #[.slice none 0 0, .slice none 0 0, .bool false, .int .i64 0] 28 (0, 0)) := box_kept (w.heap.size + 1) (by have := heap_alloc_new (w.alloc (.cells #[.slice A n c, .slice A' m c', .bool dead, .int .i64 left] 28)) (.cells #[.slice none 0 0, .slice none 0 0, .bool false, .int .i64 0] 28); simpa using this) hb1
  have hbw := below_trans' hb0 hb1
  obtain ⟨⟨c0, c1, c2, c3⟩, f0, f1, f2, f3⟩ := box4 hg1
  have hrel0 : SetRel w v (.slice A' m c') dead left sure (w1.setCell ⟨w.heap.size, 0, none⟩ v) := by
    refine ⟨?_, ?_, ?_, ?_⟩
    · exact ownsRow_setCell_below (by simpa using hown) (by simp) v
    · rw [heap_setCell_at hg1]; rfl
    · rw [Below.heap_setCell _ _ _ _ (by simp)]; exact hg2
    · exact hbw.setCell (p := ⟨w.heap.size, 0, none⟩) (Nat.le_refl _) _
  obtain ⟨A2, cc2, ev⟩ : ∃ A2 cc2, v = .slice A2 n cc2 := by
    obtain ⟨A2, cc2, ev, _⟩ := SL.of_own hown
    exact ⟨A2, cc2, by rw [ev, HN.out]⟩
  subst ev
  have HR0 := Lib.hid hrel0
  clear hcl hown hb1 hb0 hg1 hg2 hbw hrel0
  go_wp2_with fail
  go_loopw [18] (fun u wr => ∃ k : Nat, k ≤ m ∧ u = .int .i64 k ∧ SetRel w (.slice A2 n cc2) (.slice A' m c') dead left (settleK stay wet sure k) wr) (fun u _ => m - (intOf u).toNat)
  case atStart => exact ⟨0, Nat.zero_le _, rfl, HR0.out⟩
  case round =>
    obtain ⟨k, hk, rfl, hrel⟩ := hrel
    clear HR0 c0 c1 c2 c3 f0 f1 f2 f3
    by_cases hlt : k < m
    · obtain ⟨o, ho⟩ : ∃ o, wet[k]? = some o := ⟨_, List.getElem?_eq_getElem (by have := HM.out; omega)⟩
      obtain ⟨A3, c3, e3, _, hr2⟩ := H2.out
      cases e3
      obtain ⟨b, off, rfl, hbl, hcell⟩ := hr2.at_ (by omega)
      have hw := wetCells_at wet k o ho
      have hst : settleK stay wet sure (k + 1) = setStep stay k o (settleK stay wet sure k) := by
        show (match wet[k]? with | some o => setStep stay k o (settleK stay wet sure k) | none => settleK stay wet sure k) = _
        rw [ho]
      have hlen : (settleK stay wet sure k).length = n := by rw [settleK_length, HN.out]
      obtain ⟨oa, od⟩ := o
      have hc0 : wr.cell? ⟨b, off + k * 2, none⟩ = some (.int .i64 oa) := (hrel.below.cell (p := ⟨b, off + k * 2, none⟩) hbl).trans (hcell _ _ hw.1)
      have hc1 : wr.cell? ⟨b, off + k * 2 + 1, none⟩ = some (.string od) := (hrel.below.cell (p := ⟨b, off + k * 2 + 1, none⟩) hbl).trans (hcell _ _ hw.2)
      obtain ⟨⟨hp0, hp1, hp2, hp3⟩, _⟩ := box4 hrel.box
      have hz : w.heap.size + 1 < wr.heap.size := (Array.getElem?_eq_some_iff.1 hrel.res).1
      have hz' : w.heap.size < wr.heap.size := by omega
      have hbz : b < wr.heap.size := by omega
      have HS := Lib.hid hst
      have HL := Lib.hid hlen
      have hk1 : k + 1 ≤ m := hlt
      clear hcell hw ho hst hlen hr2
      have hbt := bit_test stay (k % 64) H64.out
      have hrelA := hrel.kept ((Below.refl _ _).alloc (Nat.le_refl _) (.cells #[.int .i64 oa, .string od] 52))
      by_cases hb : stay.testBit (k % 64) = true
      · rw [if_pos hb] at hbt
        have HBT := Lib.hid hb
        clear hb
        go_wp2_with fail
        refine (has_any A2 n cc2 _ m c' dead left oa _).mono ?_
        rintro e w2 ⟨rfl, hb2⟩
        have hrel2 := hrelA.kept hb2
        have hbox2 := box_kept _ (heap_alloc_new wr (.cells #[.int .i64 oa, .string od] 52)) hb2
        obtain ⟨⟨q0, q1⟩, _⟩ := box2 hbox2
        obtain ⟨⟨r0, r1, r2, r3⟩, _⟩ := box4 hrel2.box
        by_cases hin : 0 ≤ oa ∧ oa < n
        · have hh : (decide (0 ≤ oa) && decide (oa < (n : Int))) = true := by simpa using hin
          rw [hh]
          obtain ⟨j, rfl⟩ := Int.eq_ofNat_of_zero_le hin.1
          have hj : j < n := by omega
          obtain ⟨g, cap, hv, _, hgl⟩ := hrel2.own.form (by rw [HL.out]; omega)
          injection hv with e1 e2 e3
          subst e1
          obtain ⟨⟨u, s0⟩, s1, s2⟩ := hrel2.at_ j (by rw [HL.out]; exact hj)
          have hne1 : g ≠ w.heap.size := by omega
          have hs' : settleK stay wet sure (k + 1) = (settleK stay wet sure k).set j od := by
            rw [HS.out]; unfold setStep; rw [if_pos]
            · rfl
            · exact ⟨HBT.out, by simp, by rw [HL.out]; simpa using hj⟩
          have HS' := Lib.hid hs'
          clear hbox2 hb2 hrelA hh hin e2 e3 hs'
          go_wp2_with fail
          exact ⟨⟨k + 1, hk1, by go_num, by rw [HS'.out]; exact hrel2.set j (by rw [HL.out]; exact hj) od⟩, by simp [intOf]; omega⟩
        · have hh : (decide (0 ≤ oa) && decide (oa < (n : Int))) = false := by
            rw [Bool.eq_false_iff]; intro h; simp at h; exact hin h
          rw [hh]
          have hs' : settleK stay wet sure (k + 1) = settleK stay wet sure k := by
            rw [HS.out]; unfold setStep; rw [if_neg]; rw [HL.out]; exact fun h => hin h.2
          have HS' := Lib.hid hs'
          clear hbox2 hb2 hrelA hh hin hs'
          go_wp2_with fail
          exact ⟨⟨k + 1, hk1, by go_num, by rw [HS'.out]; exact hrel2⟩, by simp [intOf]; omega⟩
      · rw [if_neg hb] at hbt
        have hs' : settleK stay wet sure (k + 1) = settleK stay wet sure k := by
          rw [HS.out]; unfold setStep; rw [if_neg]; exact fun h => hb h.1
        have HS' := Lib.hid hs'
        clear hb hs'
        go_wp2_with fail
        exact ⟨⟨k + 1, hk1, by go_num, by rw [HS'.out]; exact hrelA⟩, by simp [intOf]; omega⟩
    · have hkm : k = m := by omega
      have hfin : settleF stay wet sure = settleK stay wet sure k := by rw [hkm, HM.out]; rfl
      have HF := Lib.hid hfin
      have hlen : (settleK stay wet sure k).length = n := by rw [settleK_length, HN.out]
      have HL := Lib.hid hlen
      obtain ⟨⟨hp0, hp1, hp2, hp3⟩, hf0, hf1, hf2, hf3⟩ := box4 hrel.box
      obtain ⟨⟨hq0, hq1, hq2, hq3⟩, hg0, hg1, hg2, hg3⟩ := box4 hrel.res
      clear hkm hfin hlen
      go_wp2_with fail
      refine bodyPost_ret (v := .agg #[.slice A2 n cc2, .slice none 0 0, .bool dead, .int .i64 left]) (by simp [results, Try.results31, go_sem, hq0, hq1, hq2, hq3, hg0, hg1, hg2, hg3]) rfl ⟨_, rfl, ?_, ?_⟩
      · have h0' := SL.of_own hrel.own
        rw [HL.out, ← HF.out] at h0'
        have h1' := h0'.other (w' := wr.setCell ⟨w.heap.size, 1, none⟩ (.slice none 0 0)) hrel.box (by decide) (fun b hb => Below.heap_setCell _ _ _ _ hb)
        exact h1'.other (by rw [Below.heap_setCell _ _ _ _ (by simp)]; exact hrel.res) (by decide) (store4_other _ _ _ _ _ _)
      · exact below_store4 (hrel.below.setCell (p := ⟨w.heap.size, 1, none⟩) (Nat.le_refl _) _) _ (by omega) _ _ _ _

/-- disk.settled. -/
theorem settled_calls (v : Value) (d : DK) (stay : Nat) (w : World) (hv : IsDisk w v d) (hst : stay < 18446744073709551616) (hn : d.sure.length ≤ 1000000) (hm : d.wet.length ≤ 1000000) :
    Calls Try.prog 31 #[v, .int .u64 stay] w fun e w' => ∃ v', e = .returned v' ∧ IsDisk w' v' { d with sure := settleF stay d.wet d.sure, wet := [] } ∧ Below w.heap.size w w' := by
  obtain ⟨sure, wet, dead, left⟩ := d
  obtain ⟨_, _, rfl, h3, h4⟩ := hv
  obtain ⟨A, c, rfl, hc, hr⟩ := id h3
  obtain ⟨A', c', rfl, hc', hr'⟩ := id h4
  dsimp only at *
  rcases Nat.eq_zero_or_pos wet.length with h0 | h0
  · have e0 : wet = [] := List.eq_nil_of_length_eq_zero h0
    subst e0
    refine (settled_none A sure.length c A' c' dead left stay w).mono ?_
    rintro e w' ⟨rfl, hb⟩
    exact ⟨_, rfl, ⟨_, _, rfl, h3.below hb, SL.nil _ _ _⟩, hb⟩
  · refine (settled_some A sure c A' c' wet dead left stay w hst h0 hn hm h3 h4).mono ?_
    rintro e w' ⟨v', rfl, hs, hb⟩
    refine ⟨_, rfl, ⟨_, _, rfl, ?_, SL.nil _ _ _⟩, hb⟩
    have e1 : (settleF stay wet sure).length = sure.length := settleK_length _ _ _ _
    dsimp only
    rw [e1]
    exact hs
end Go.Proofs.Ytnnbbkfdijionaa
