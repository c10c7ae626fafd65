/- disk.Write. No statement is proved here. -/
import Derived.Test.YtnnbbkfdijionaaFlush
import Derived.Deep.RegionHeld3
import Derived.Deep.DrawnRows
namespace Go.Proofs.Ytnnbbkfdijionaa
open Go.RowKit
attribute [local go_sem ↓] Go.wp_at_zero Go.wp_at_succ

/-- Two boxes laid ahead of a call are there behind it. -/
theorem two_boxes {w w1 : World} {o1 o2 : Obj} (hb : Below ((w.alloc o1).alloc o2).heap.size ((w.alloc o1).alloc o2) w1) : w1.heap[w.heap.size]? = some o1 ∧ w1.heap[w.heap.size + 1]? = some o2 ∧ Below w.heap.size w w1 := by
  refine ⟨box_kept w.heap.size (box_alloc (heap_alloc_new w o1) o2) hb, ?_, below_trans' (((Below.refl _ _).alloc (Nat.le_refl _) _).alloc (by simp) _) hb⟩
  exact box_kept (w.heap.size + 1) (by have := heap_alloc_new (w.alloc o1) o2; simpa using this) hb

theorem below_of_drew {w w' : World} (h : Below w.drew.heap.size w.drew w') : Below w.heap.size w w' := ⟨h.os, h.tape, h.output, h.size, h.block⟩

theorem IsDisk.rewet {w : World} {A A' A5 : Option Addr} {n c m c' n5 c5 : Nat} {b : Bool} {l : Int} {d : DK} {wet5 : List (Int × ByteArray)} (h : IsDisk w (.agg #[.slice A n c, .slice A' m c', .bool b, .int .i64 l]) d) (h5 : SL w 52 2 (.slice A5 n5 c5) wet5.length (wetCells wet5)) :
    IsDisk w (.agg #[.slice A n c, .slice A5 n5 c5, .bool b, .int .i64 l]) { d with wet := wet5 } := by
  obtain ⟨vs, vw, e, h3, h4⟩ := h
  simp only [Value.agg.injEq, Array.mk.injEq, List.cons.injEq] at e
  obtain ⟨rfl, rfl, e3, e4, _⟩ := e
  exact ⟨_, _, by rw [e3, e4], h3, h5⟩

/-- The parts of a disk's value, with the lengths that they say. -/
theorem IsDisk.open_ {w : World} {v : Value} {d : DK} (h : IsDisk w v d) : ∃ A n c A' m c', v = .agg #[.slice A n c, .slice A' m c', .bool d.dead, .int .i64 d.left] ∧ n = d.sure.length ∧ m = d.wet.length ∧ SL w 52 2 (.slice A' m c') m (wetCells d.wet) := by
  obtain ⟨vs, vw, rfl, h3, h4⟩ := h
  obtain ⟨A, c, rfl, _⟩ := h3
  obtain ⟨A', c', rfl, _⟩ := id h4
  exact ⟨A, _, c, A', _, c', rfl, rfl, rfl, h4⟩

set_option maxHeartbeats 1000000 in
/-- Refused for its argument: the disk is as it was. -/
theorem write_arg (v : Value) (d : DK) (at_ : Int) (data : ByteArray) (w : World) (hv : IsDisk w v d) (hbad : ¬ (0 ≤ at_ ∧ at_ < d.sure.length ∧ data.size ≤ 256)) :
    Calls Try.prog 22 #[v, .int .i64 at_, .string data] w fun e w' => ∃ v', e = .returned (.tuple #[v', .int .i64 1]) ∧ IsDisk w' v' d ∧ Below w.heap.size w w' := by
  obtain ⟨sure, wet, dead, left⟩ := d
  obtain ⟨A, n, c, A', m, c', rfl, hn, hm, -⟩ := hv.open_
  dsimp only at *
  have HV := Lib.hid hv
  have HN := Lib.hid hn
  rw [← hn] at hbad
  clear hv hn hm
  by_cases hin : 0 ≤ at_ ∧ at_ < n
  · have hds : decide ((256 : Int) < data.size) = true := by simp; omega
    have hh : (decide (0 ≤ at_) && decide (at_ < (n : Int))) = true := by simpa using hin
    have HH := Lib.hid hh
    clear hbad hin hh
    go_enter Try.func22, Try.ntmps22
    go_wp2_with (go_at_call 32; refine (has_any A n c A' m c' dead left at_ _).mono ?_; rintro e w1 ⟨rfl, hb1⟩; rw [HH.out]; obtain ⟨hg1, hg2, hbw⟩ := two_boxes hb1; obtain ⟨⟨hp0, hp1, hp2, hp3⟩, hf0, hf1, hf2, hf3⟩ := box4 hg1; obtain ⟨⟨hq0, hq1, hq2, hq3⟩, hr0, hr1, hr2, hr3⟩ := box4 hg2; have HB := Lib.hid hbw; have HG2 := Lib.hid hg2; clear hb1 hg1 hg2 hbw)
    refine bodyPost_ret (v := .tuple #[.agg #[.slice A n c, .slice A' m c', .bool dead, .int .i64 left], .int .i64 1]) (by simp [results, Try.results22, go_sem, hq0, hq1, hq2, hq3, hr0, hr1, hr2, hr3]) rfl ⟨_, rfl, ?_, ?_⟩
    · exact (HV.out.below HB.out).other HG2.out (by decide) (by decide) (store4_other _ _ _ _ _ _)
    · exact below_store4 HB.out _ (by omega) _ _ _ _
  · have hh : (decide (0 ≤ at_) && decide (at_ < (n : Int))) = false := by
      rw [Bool.eq_false_iff]; intro h; simp at h; exact hin h
    have HH := Lib.hid hh
    clear hbad hin hh
    go_enter Try.func22, Try.ntmps22
    go_wp2_with (go_at_call 32; refine (has_any A n c A' m c' dead left at_ _).mono ?_; rintro e w1 ⟨rfl, hb1⟩; rw [HH.out]; obtain ⟨hg1, hg2, hbw⟩ := two_boxes hb1; obtain ⟨⟨hp0, hp1, hp2, hp3⟩, hf0, hf1, hf2, hf3⟩ := box4 hg1; obtain ⟨⟨hq0, hq1, hq2, hq3⟩, hr0, hr1, hr2, hr3⟩ := box4 hg2; have HB := Lib.hid hbw; have HG2 := Lib.hid hg2; clear hb1 hg1 hg2 hbw)
    refine bodyPost_ret (v := .tuple #[.agg #[.slice A n c, .slice A' m c', .bool dead, .int .i64 left], .int .i64 1]) (by simp [results, Try.results22, go_sem, hq0, hq1, hq2, hq3, hr0, hr1, hr2, hr3]) rfl ⟨_, rfl, ?_, ?_⟩
    · exact (HV.out.below HB.out).other HG2.out (by decide) (by decide) (store4_other _ _ _ _ _ _)
    · exact below_store4 HB.out _ (by omega) _ _ _ _

/-- The disk behind a Write whose argument may be. -/
def writeD (d : DK) (at_ : Int) (data : ByteArray) : DK := if deedB d = true then { deedD d with wet := withF (at_, padB data) d.wet } else deedD d

set_option maxHeartbeats 1000000 in
theorem write_may (v : Value) (d : DK) (at_ : Int) (data : ByteArray) (w : World) (hv : IsDisk w v d) (hd : d.ok) (h1 : 0 ≤ at_) (h2 : at_ < d.sure.length) (h3 : data.size ≤ 256) :
    Calls Try.prog 22 #[v, .int .i64 at_, .string data] w fun e w' => ∃ v', e = .returned (.tuple #[v', .int .i64 (if deedB d = true then 0 else 12)]) ∧ IsDisk w' v' (writeD d at_ data) ∧ Below w.heap.size w w' := by
  obtain ⟨A, n, c, A', m, c', rfl, hn, hm, -⟩ := hv.open_
  have hwt : (deedD d).wet = d.wet := by unfold deedD; split <;> (try split) <;> rfl
  unfold writeD
  obtain ⟨P, hP⟩ : ∃ P, P = padB data := ⟨_, rfl⟩
  have hpad : ∀ W : World, Calls Try.prog 27 #[.string data] W fun e w' => e = .returned (.string P) ∧ Below W.heap.size W w' := fun W => by rw [hP]; exact padded_calls data W h3
  rw [← hP]
  have HPad := Lib.hid hpad
  clear hpad hP
  have hdo := deedD_ok hd
  obtain ⟨d1, hd1⟩ : ∃ d1, d1 = deedD d := ⟨_, rfl⟩
  obtain ⟨b1, hb1⟩ : ∃ b1, b1 = deedB d := ⟨_, rfl⟩
  have hde : ∀ W : World, Below w.heap.size w W → Calls Try.prog 30 #[.agg #[.slice A n c, .slice A' m c', .bool d.dead, .int .i64 d.left]] W fun e w' => ∃ v', e = .returned (.tuple #[v', .bool b1]) ∧ IsDisk w' v' d1 ∧ Below W.heap.size W w' := fun W hb => by
    rw [hd1, hb1]; exact deed_calls _ d W (hv.below hb) hd.hi
  rw [← hd1] at hwt hdo ⊢
  rw [← hb1, ← hwt]
  have hh : (decide (0 ≤ at_) && decide (at_ < (n : Int))) = true := by rw [hn]; simp [h1, h2]
  clear hd1 hb1 hwt hv hd hn hm h1 h2
  obtain ⟨sure, wet, dead, left⟩ := d
  dsimp only at hde ⊢
  have HDE := Lib.hid hde
  have HDO := Lib.hid hdo
  have HH := Lib.hid hh
  have hds : decide ((256 : Int) < data.size) = false := by simp; omega
  clear hde hdo hh
  go_enter Try.func22, Try.ntmps22
  go_wp2_with (go_at_call 32; refine (has_any A n c A' m c' dead left at_ _).mono ?_; rintro e w1 ⟨rfl, hb1⟩; rw [HH.out]; obtain ⟨hg1, hg2, hbw⟩ := two_boxes hb1; obtain ⟨⟨hp0, hp1, hp2, hp3⟩, hf0, hf1, hf2, hf3⟩ := box4 hg1; have HB := Lib.hid hbw; have HG1 := Lib.hid hg1; have HG2 := Lib.hid hg2; clear hb1 hg1 hg2 hbw)
  with_reducible refine (HDE.out _ HB.out).mono ?_
  clear HDE
  rintro e w2 ⟨v2, rfl, hv2, hb2⟩
  obtain ⟨A1, n1, c1, A1', m1, c1', rfl, -, hm1, hsl⟩ := hv2.open_
  obtain ⟨sure1, wet1, dead1, left1⟩ := d1
  dsimp only at hv2 hm1 hsl ⊢
  have hg1 := box_kept w.heap.size HG1.out hb2
  have hg2 := box_kept (w.heap.size + 1) HG2.out hb2
  have hbw := below_trans' HB.out hb2
  obtain ⟨w3, e3, hG3, hK3, hB3⟩ := box_store4 hg1 (.slice A1 n1 c1) (.slice A1' m1 c1') (.bool dead1) (.int .i64 left1)
  have HV3 := Lib.hid (hv2.other hg1 (by decide) (by decide) hK3)
  have HSL := Lib.hid (hsl.other hg1 (by decide) hK3)
  have HB3 := Lib.hid (hB3 _ _ hbw (Nat.le_refl _))
  have hr3 : w3.heap[w.heap.size + 1]? = _ := (hK3 _ (by omega)).trans hg2
  have HG3 := Lib.hid hG3
  have HR3 := Lib.hid hr3
  have E3 := Lib.hid e3
  have HM1 := Lib.hid hm1
  clear hp0 hp1 hp2 hp3 hf0 hf1 hf2 hf3
  obtain ⟨⟨hp0, hp1, hp2, hp3⟩, hf0, hf1, hf2, hf3⟩ := box4 hg1
  clear hb2 hv2 hg1 hg2 hbw e3 hG3 hK3 hB3 hr3 hsl HB HG1 HG2 hm1
  go_upto_region 4 with (fail)
  rw [E3.out]
  clear hp0 hp1 hp2 hp3 hf0 hf1 hf2 hf3 E3
  obtain ⟨⟨hp0, hp1, hp2, hp3⟩, hf0, hf1, hf2, hf3⟩ := box4 HG3.out
  cases b1 with
  | false =>
    obtain ⟨⟨hq0, hq1, hq2, hq3⟩, hr0, hr1, hr2, hr3⟩ := box4 HR3.out
    go_wp2_with fail
    refine bodyPost_ret (v := .tuple #[.agg #[.slice A1 n1 c1, .slice A1' m1 c1', .bool dead1, .int .i64 left1], .int .i64 12]) (by simp [results, Try.results22, go_sem, hq0, hq1, hq2, hq3, hr0, hr1, hr2, hr3]) rfl ⟨_, rfl, ?_, ?_⟩
    · exact HV3.out.other HR3.out (by decide) (by decide) (store4_other _ _ _ _ _ _)
    · exact below_store4 HB3.out _ (by omega) _ _ _ _
  | true =>
    have hwith : ∀ W : World, Below w3.heap.size w3 W → Calls Try.prog 33 #[.slice A1' m1 c1', .agg #[.int .i64 at_, .string P]] W fun e w' => ∃ A5 n5 c5, e = .returned (.slice A5 n5 c5) ∧ SL w' 52 2 (.slice A5 n5 c5) (withF (at_, P) wet1).length (wetCells (withF (at_, P) wet1)) ∧ Below W.heap.size W w' := fun W hb => by
      refine (with_calls (.slice A1' m1 c1') wet1 (at_, P) W ?_ ?_).mono ?_
      · rw [← HM1.out]; exact HSL.out.below hb
      · have := HDO.out.wet; dsimp only at this; omega
      · rintro e w' ⟨v', rfl, hs, hb'⟩
        obtain ⟨A5, c5, e5, _⟩ := id hs
        subst e5
        exact ⟨_, _, _, rfl, hs, hb'⟩
    have HWith := Lib.hid hwith
    have hz : w.heap.size < w3.heap.size := (Array.getElem?_eq_some_iff.1 HG3.out).1
    clear hwith
    go_wp2_with fail
    go_region_with (first | (go_at_call 27; refine (HPad.out _).mono ?_; rintro e w4 ⟨rfl, hb4⟩; have hb4' := below_of_drew hb4; clear hb4; have hp4 := (hb4'.cell (p := ⟨w.heap.size, 1, none⟩) hz).trans hp1) | (go_at_call 33; refine (HWith.out _ hb4').mono ?_; rintro e w5 ⟨A5, n5, c5, rfl, hs5, hb5⟩; obtain ⟨⟨s0, s1, s2, s3⟩, g0, g1, g2, g3⟩ := box4 (box_kept _ (box_kept _ HG3.out hb4') hb5)))
    all_goals
      have hbw5 := below_trans' HB3.out (below_trans' hb4' hb5)
      have hgB := box_kept _ (box_kept _ HG3.out hb4') hb5
      have hgR := box_kept _ (box_kept _ HR3.out hb4') hb5
      have hv5 := (HV3.out.below hb4').below hb5
      obtain ⟨⟨hq0, hq1, hq2, hq3⟩, hr0, hr1, hr2, hr3⟩ := box4 hgR
      have HS5 := Lib.hid hs5
      have HV5 := Lib.hid hv5
      have HGB := Lib.hid hgB
      have HGR := Lib.hid hgR
      have HB5 := Lib.hid hbw5
      clear hs5 hb5 hb4' hp4 hbw5 hgB hgR hv5 hp0 hp1 hp2 hp3 hf0 hf1 hf2 hf3
      go_wp2_with fail
      refine bodyPost_ret (v := .tuple #[.agg #[.slice A1 n1 c1, .slice A5 n5 c5, .bool dead1, .int .i64 left1], .int .i64 0]) (by simp [results, Try.results22, go_sem, hq0, hq1, hq2, hq3, hr0, hr1, hr2, hr3]) rfl ⟨_, rfl, ?_, ?_⟩
      · have h5 := HV5.out.rewet HS5.out
        have h6 := h5.other (w' := w5.setCell ⟨w.heap.size, 1, none⟩ (.slice A5 n5 c5)) HGB.out (by decide) (by decide) (fun b hb => Below.heap_setCell _ _ _ _ hb)
        exact h6.other (by rw [Below.heap_setCell _ _ _ _ (by simp)]; exact HGR.out) (by decide) (by decide) (store4_other _ _ _ _ _ _)
      · exact below_store4 (HB5.out.setCell (p := ⟨w.heap.size, 1, none⟩) (Nat.le_refl _) _) _ (by omega) _ _ _ _
end Go.Proofs.Ytnnbbkfdijionaa
