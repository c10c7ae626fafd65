/- The document's own Flush and Start. No statement is proved here. -/
import Derived.Test.YtnnbbkfdijionaaRSettle
import Derived.Test.YtnnbbkfdijionaaRDeed
namespace Go.Proofs.Ytnnbbkfdijionaa
open Go.RowKit

/-- What is to be somewhere lies in the disk. -/
def WetIn (d : DK) : Prop := ∀ o ∈ d.wet, 0 ≤ o.1 ∧ o.1 < d.sure.length

set_option maxHeartbeats 1000000 in
theorem rsettle_nil (c : Nat) (A' : Option Addr) (c' : Nat) (dead : Bool) (left : Int) (stay : Nat) (w : World) :
    Calls Try.prog 29 #[.agg #[.slice none 0 c, .slice A' 0 c', .bool dead, .int .i64 left], .int .u64 stay] w fun e w' =>
      ∃ g, e = .returned (.agg #[.slice g 0 0, .slice none 0 0, .bool dead, .int .i64 left]) ∧ Below w.heap.size w w' := by
  go_enter Try.func29, Try.ntmps29
  go_wp2_with fail
  refine wp_loop_rounds 1 ?_
  rw [rounds_succ]
  go_wp2_with fail
  exact bodyPost_ret (v := .agg #[.slice (some ⟨w.heap.size + 1 + 1, 0, none⟩) 0 0, .slice none 0 0, .bool dead, .int .i64 left]) (by simp [results, Try.results29, go_sem]) rfl ⟨_, rfl, (((Below.refl _ _).alloc (Nat.le_refl _) _).alloc (by simp) _).alloc (by simp; omega) _⟩

set_option maxHeartbeats 1000000 in
theorem rsettle_zero (a : Addr) (c : Nat) (A' : Option Addr) (c' : Nat) (dead : Bool) (left : Int) (stay : Nat) (w : World) :
    Calls Try.prog 29 #[.agg #[.slice (some a) 0 c, .slice A' 0 c', .bool dead, .int .i64 left], .int .u64 stay] w fun e w' =>
      ∃ g, e = .returned (.agg #[.slice g 0 0, .slice none 0 0, .bool dead, .int .i64 left]) ∧ Below w.heap.size w w' := by
  go_enter Try.func29, Try.ntmps29
  go_wp2_with fail
  refine wp_loop_rounds 1 ?_
  rw [rounds_succ]
  go_wp2_with fail
  exact bodyPost_ret (v := .agg #[.slice (some ⟨w.heap.size + 1 + 1, 0, none⟩) 0 0, .slice none 0 0, .bool dead, .int .i64 left]) (by simp [results, Try.results29, go_sem]) rfl ⟨_, rfl, (((Below.refl _ _).alloc (Nat.le_refl _) _).alloc (by simp) _).alloc (by simp; omega) _⟩

/-- ref.settle. -/
theorem rsettle_calls (v : Value) (d : DK) (stay : Nat) (w : World) (hv : IsDisk w v d) (hst : stay < 18446744073709551616) (hn : d.sure.length ≤ 1000000) (hm : d.wet.length ≤ 1000000) (hin : WetIn d) :
    Calls Try.prog 29 #[v, .int .u64 stay] w fun e w' => ∃ v', e = .returned v' ∧ IsDisk w' v' { d with sure := settleF stay d.wet d.sure, wet := [] } ∧ Below w.heap.size w w' := by
  obtain ⟨sure, wet, dead, left⟩ := d
  obtain ⟨_, _, rfl, h3, h4⟩ := hv
  obtain ⟨A, c, rfl, hc, hr⟩ := id h3
  obtain ⟨A', c', rfl, hc', hr'⟩ := id h4
  unfold WetIn at hin
  dsimp only at *
  cases A with
  | none =>
    have h0 : sure.length = 0 := by
      rcases Nat.eq_zero_or_pos sure.length with h | h
      · exact h
      · obtain ⟨b, off, e, _⟩ := hr.at_ h
        cases e
    have e0 : sure = [] := List.eq_nil_of_length_eq_zero h0
    subst e0
    have e1 : wet = [] := by
      cases wet with
      | nil => rfl
      | cons o l => have := hin o (by simp); simp at this; omega
    subst e1
    refine (rsettle_nil c A' c' dead left stay w).mono ?_
    rintro e w' ⟨g, rfl, hb⟩
    exact ⟨_, rfl, ⟨_, _, rfl, ⟨g, 0, rfl, Nat.le_refl _, Reads.none_⟩, SL.nil _ _ _⟩, hb⟩
  | some a =>
    rcases Nat.eq_zero_or_pos sure.length with h0 | h0
    · have e0 : sure = [] := List.eq_nil_of_length_eq_zero h0
      subst e0
      have e1 : wet = [] := by
        cases wet with
        | nil => rfl
        | cons o l => have := hin o (by simp); simp at this; omega
      subst e1
      refine (rsettle_zero a c A' c' dead left stay w).mono ?_
      rintro e w' ⟨g, rfl, hb⟩
      exact ⟨_, rfl, ⟨_, _, rfl, ⟨g, 0, rfl, Nat.le_refl _, Reads.none_⟩, SL.nil _ _ _⟩, hb⟩
    obtain ⟨b, off, ea, _⟩ := hr.at_ h0
    injection ea with ea
    subst ea
    refine (rsettle_some b off sure c A' c' wet dead left stay w hst hn hm hin h3 h4).mono ?_
    rintro e w' ⟨v', rfl, hs, hb⟩
    refine ⟨_, rfl, ⟨_, _, rfl, ?_, SL.nil _ _ _⟩, hb⟩
    have e1 : (settleF stay wet sure).length = sure.length := settleK_length _ _ _ _
    dsimp only
    rw [e1]
    exact hs

theorem rsettle_all (v : Value) (d : DK) (w : World) (hv : IsDisk w v d) (hd : d.ok) (hin : WetIn d) :
    Calls Try.prog 29 #[v, .int .u64 18446744073709551615] w fun e w' => ∃ v', e = .returned v' ∧ IsDisk w' v' { d with sure := settleF allBits d.wet d.sure, wet := [] } ∧ Below w.heap.size w w' :=
  rsettle_calls v d allBits w hv (by decide) (by have := hd.sure; omega) (by have := hd.wet; omega) hin

set_option maxHeartbeats 1000000 in
theorem rstart_calls (v : Value) (d : DK) (stay : Nat) (w : World) (hv : IsDisk w v d) (hd : d.ok) (hin : WetIn d) (hst : stay < 18446744073709551616) :
    Calls Try.prog 18 #[v, .int .u64 stay] w fun e w' => ∃ v', e = .returned v' ∧ IsDisk w' v' ⟨settleF stay d.wet d.sure, [], false, -1⟩ ∧ Below w.heap.size w w' := by
  obtain ⟨A, n, c, A', m, c', rfl⟩ := hv.parts
  obtain ⟨sure, wet, dead, left⟩ := d
  dsimp only at hv ⊢
  have HV := Lib.hid hv
  have HD := Lib.hid hd
  have HIN := Lib.hid hin
  have HS := Lib.hid hst
  clear hv hd hst hin
  go_enter Try.func18, Try.ntmps18
  go_wp2_with fail
  have hb0 : Below w.heap.size w ((w.alloc (.cells #[.slice A n c, .slice A' m c', .bool dead, .int .i64 left] 28)).alloc (.cells #[.slice none 0 0, .slice none 0 0, .bool false, .int .i64 0] 28)) := ((Below.refl _ _).alloc (Nat.le_refl _) _).alloc (by simp) _
  have hcl := rsettle_calls _ _ stay _ (HV.out.below hb0) HS.out (by have := HD.out.sure; omega) (by have := HD.out.wet; omega) HIN.out
  with_reducible refine hcl.mono ?_
  clear hcl
  rintro e w1 ⟨v1, rfl, hv1, hb1⟩
  obtain ⟨A1, n1, c1, A1', m1, c1', rfl⟩ := hv1.parts
  dsimp only at hv1 ⊢
  have hg1 := box_kept w.heap.size (box_alloc (heap_alloc_new w _) _) hb1
  have hg2 : w1.heap[w.heap.size + 1]? = some (.cells #[.slice none 0 0, .slice none 0 0, .bool false, .int .i64 0] 28 (0, 0)) := box_kept (w.heap.size + 1) (by have := heap_alloc_new (w.alloc (.cells #[.slice A n c, .slice A' m c', .bool dead, .int .i64 left] 28)) (.cells #[.slice none 0 0, .slice none 0 0, .bool false, .int .i64 0] 28); simpa using this) hb1
  have hbw := below_trans' hb0 hb1
  obtain ⟨w2, e2, hG2, hK2, hB2⟩ := box_store4 hg1 (.slice A1 n1 c1) (.slice A1' m1 c1') (.bool dead) (.int .i64 left)
  have HV2 := Lib.hid (hv1.other hg1 (by decide) (by decide) hK2)
  have HB := Lib.hid (hB2 _ _ hbw (Nat.le_refl _))
  have hr2 : w2.heap[w.heap.size + 1]? = _ := (hK2 _ (by omega)).trans hg2
  obtain ⟨⟨hp0, hp1, hp2, hp3⟩, hf0, hf1, hf2, hf3⟩ := box4 hg1
  have HG2 := Lib.hid hG2
  have HR2 := Lib.hid hr2
  have E2 := Lib.hid e2
  clear hb0 hb1 hv1 hg1 hg2 hbw e2 hG2 hK2 hB2 hr2
  go_upto_region 2 with (fail)
  rw [E2.out]
  clear hp0 hp1 hp2 hp3 hf0 hf1 hf2 hf3 E2
  obtain ⟨⟨hp0, hp1, hp2, hp3⟩, hf0, hf1, hf2, hf3⟩ := box4 HG2.out
  obtain ⟨⟨hq0, hq1, hq2, hq3⟩, hr0, hr1, hr2, hr3⟩ := box4 HR2.out
  go_wp2_with fail
  refine bodyPost_ret (v := .agg #[.slice A1 n1 c1, .slice A1' m1 c1', .bool false, .int .i64 (-1)]) (by simp [results, Try.results18, go_sem, hq0, hq1, hq2, hq3, hr0, hr1, hr2, hr3]) rfl ⟨_, rfl, ?_, ?_⟩
  · have h1 : IsDisk w2 (.agg #[.slice A1 n1 c1, .slice A1' m1 c1', .bool false, .int .i64 (-1)]) ⟨settleF stay wet sure, [], false, -1⟩ := HV2.out.redo false (-1)
    have h2 := h1.other (w' := (w2.setCell ⟨w.heap.size, 2, none⟩ (.bool false)).setCell ⟨w.heap.size, 3, none⟩ (.int .i64 (-1))) HG2.out (by decide) (by decide) (fun b hb => by rw [Below.heap_setCell _ _ _ _ hb, Below.heap_setCell _ _ _ _ hb])
    exact h2.other (by rw [Below.heap_setCell _ _ _ _ (by simp), Below.heap_setCell _ _ _ _ (by simp)]; exact HR2.out) (by decide) (by decide) (store4_other _ _ _ _ _ _)
  · exact below_store4 ((HB.out.setCell (p := ⟨w.heap.size, 2, none⟩) (Nat.le_refl _) _).setCell (p := ⟨w.heap.size, 3, none⟩) (Nat.le_refl _) _) _ (by omega) _ _ _ _

set_option maxHeartbeats 1000000 in
theorem rflush_calls (v : Value) (d : DK) (w : World) (hv : IsDisk w v d) (hd : d.ok) (hin : WetIn d) :
    Calls Try.prog 16 #[v] w fun e w' => ∃ v', e = .returned (.tuple #[v', .int .i64 (if deedB d = true then 0 else 12)]) ∧ IsDisk w' v' (if deedB d = true then { deedD d with sure := settleF allBits d.wet d.sure, wet := [] } else deedD d) ∧ Below w.heap.size w w' := by
  obtain ⟨A, n, c, A', m, c', rfl⟩ := hv.parts
  have hwt : (deedD d).wet = d.wet := by unfold deedD; split <;> (try split) <;> rfl
  have hsr : (deedD d).sure = d.sure := by unfold deedD; split <;> (try split) <;> rfl
  have hdo := deedD_ok hd
  have hdi : WetIn (deedD d) := by unfold WetIn; rw [hwt, hsr]; exact hin
  obtain ⟨d1, hd1⟩ : ∃ d1, d1 = deedD d := ⟨_, rfl⟩
  obtain ⟨b1, hb1⟩ : ∃ b1, b1 = deedB d := ⟨_, rfl⟩
  have hde : ∀ W : World, Below w.heap.size w W → Calls Try.prog 28 #[.agg #[.slice A n c, .slice A' m c', .bool d.dead, .int .i64 d.left]] W fun e w' => ∃ v', e = .returned (.tuple #[v', .bool b1]) ∧ IsDisk w' v' d1 ∧ Below W.heap.size W w' := fun W hb => by
    rw [hd1, hb1]; exact rdeed_calls _ d W (hv.below hb) hd.lo hd.hi
  rw [← hd1] at hwt hsr hdo hdi ⊢
  rw [← hb1, ← hwt, ← hsr]
  clear hd1 hb1 hwt hsr hv hd hin
  obtain ⟨sure, wet, dead, left⟩ := d
  dsimp only at hde
  have HDE := Lib.hid hde
  have HDO := Lib.hid hdo
  have HDI := Lib.hid hdi
  clear hde hdo hdi
  go_enter Try.func16, Try.ntmps16
  go_wp2_with fail
  have hb0 : Below w.heap.size w ((w.alloc (.cells #[.slice A n c, .slice A' m c', .bool dead, .int .i64 left] 28)).alloc (.cells #[.slice none 0 0, .slice none 0 0, .bool false, .int .i64 0] 28)) := ((Below.refl _ _).alloc (Nat.le_refl _) _).alloc (by simp) _
  with_reducible refine (HDE.out _ hb0).mono ?_
  clear HDE
  rintro e w1 ⟨v1, rfl, hv1, hb1⟩
  obtain ⟨A1, n1, c1, A1', m1, c1', rfl⟩ := hv1.parts
  obtain ⟨sure1, wet1, dead1, left1⟩ := d1
  dsimp only at hv1 ⊢
  have hg1 := box_kept w.heap.size (box_alloc (heap_alloc_new w _) _) hb1
  have hg2 : w1.heap[w.heap.size + 1]? = some (.cells #[.slice none 0 0, .slice none 0 0, .bool false, .int .i64 0] 28 (0, 0)) := box_kept (w.heap.size + 1) (by have := heap_alloc_new (w.alloc (.cells #[.slice A n c, .slice A' m c', .bool dead, .int .i64 left] 28)) (.cells #[.slice none 0 0, .slice none 0 0, .bool false, .int .i64 0] 28); simpa using this) hb1
  have hbw := below_trans' hb0 hb1
  obtain ⟨w2, e2, hG2, hK2, hB2⟩ := box_store4 hg1 (.slice A1 n1 c1) (.slice A1' m1 c1') (.bool dead1) (.int .i64 left1)
  have HV2 := Lib.hid (hv1.other hg1 (by decide) (by decide) hK2)
  have HB := Lib.hid (hB2 _ _ hbw (Nat.le_refl _))
  have hr2 : w2.heap[w.heap.size + 1]? = _ := (hK2 _ (by omega)).trans hg2
  obtain ⟨⟨hp0, hp1, hp2, hp3⟩, hf0, hf1, hf2, hf3⟩ := box4 hg1
  have HG2 := Lib.hid hG2
  have HR2 := Lib.hid hr2
  have E2 := Lib.hid e2
  clear hb0 hb1 hv1 hg1 hg2 hbw e2 hG2 hK2 hB2 hr2
  go_upto_region 2 with (fail)
  rw [E2.out]
  clear hp0 hp1 hp2 hp3 hf0 hf1 hf2 hf3 E2
  obtain ⟨⟨hp0, hp1, hp2, hp3⟩, hf0, hf1, hf2, hf3⟩ := box4 HG2.out
  obtain ⟨⟨hq0, hq1, hq2, hq3⟩, hr0, hr1, hr2, hr3⟩ := box4 HR2.out
  cases b1 with
  | false =>
    go_wp2_with fail
    refine bodyPost_ret (v := .tuple #[.agg #[.slice A1 n1 c1, .slice A1' m1 c1', .bool dead1, .int .i64 left1], .int .i64 12]) (by simp [results, Try.results16, go_sem, hq0, hq1, hq2, hq3, hr0, hr1, hr2, hr3]) rfl ⟨_, rfl, ?_, ?_⟩
    · exact HV2.out.other HR2.out (by decide) (by decide) (store4_other _ _ _ _ _ _)
    · exact below_store4 HB.out _ (by omega) _ _ _ _
  | true =>
    go_wp2_with fail
    with_reducible refine (rsettle_all _ _ _ HV2.out HDO.out HDI.out).mono ?_
    rintro e w3 ⟨v3, rfl, hv3, hb3⟩
    obtain ⟨A3, n3, c3, A3', m3, c3', rfl⟩ := hv3.parts
    dsimp only at hv3 ⊢
    have hg3 := box_kept _ HR2.out hb3
    have HV3 := Lib.hid hv3
    have HB3 := Lib.hid (below_trans' HB.out (hb3.mono (by have := HB.out.size; omega)))
    have HG3 := Lib.hid hg3
    clear hq0 hq1 hq2 hq3 hr0 hr1 hr2 hr3 hp0 hp1 hp2 hp3 hf0 hf1 hf2 hf3
    obtain ⟨⟨hq0, hq1, hq2, hq3⟩, hr0, hr1, hr2, hr3⟩ := box4 hg3
    clear hv3 hb3 hg3
    go_wp2_with fail
    refine bodyPost_ret (v := .tuple #[.agg #[.slice A3 n3 c3, .slice A3' m3 c3', .bool dead1, .int .i64 left1], .int .i64 0]) (by simp [results, Try.results16, go_sem, hq0, hq1, hq2, hq3, hr0, hr1, hr2, hr3]) rfl ⟨_, rfl, ?_, ?_⟩
    · exact HV3.out.other HG3.out (by decide) (by decide) (store4_other _ _ _ _ _ _)
    · exact below_store4 HB3.out _ (by omega) _ _ _ _
end Go.Proofs.Ytnnbbkfdijionaa
