/- The document's own Write, where it refuses. No statement is proved here. -/
import Derived.Test.YtnnbbkfdijionaaRDeed
import Derived.Test.YtnnbbkfdijionaaFlush
namespace Go.Proofs.Ytnnbbkfdijionaa
open Go.RowKit

set_option maxHeartbeats 1000000 in
theorem rwrite_arg (v : Value) (d : DK) (at_ : Int) (data : ByteArray) (w : World) (hv : IsDisk w v d) (hbad : ¬ (0 ≤ at_ ∧ at_ < d.sure.length ∧ data.size ≤ 256)) :
    Calls Try.prog 14 #[v, .int .i64 at_, .string data] w fun e w' => ∃ v', e = .returned (.tuple #[v', .int .i64 1]) ∧ IsDisk w' v' d ∧ Below w.heap.size w w' := by
  obtain ⟨sure, wet, dead, left⟩ := d
  obtain ⟨_, _, rfl, h3, h4⟩ := hv
  obtain ⟨A, c, rfl, _⟩ := id h3
  obtain ⟨A', c', rfl, _⟩ := id h4
  dsimp only at *
  have hb2 : Below w.heap.size w ((w.alloc (.cells #[.slice A sure.length c, .slice A' wet.length c', .bool dead, .int .i64 left] 28)).alloc (.cells #[.slice A sure.length c, .slice A' wet.length c', .bool dead, .int .i64 left] 28)) := ((Below.refl _ _).alloc (Nat.le_refl _) _).alloc (by simp) _
  have hfin : ∃ v', Ending.returned (.tuple #[.agg #[.slice A sure.length c, .slice A' wet.length c', .bool dead, .int .i64 left], .int .i64 1]) = .returned (.tuple #[v', .int .i64 1]) ∧ IsDisk ((w.alloc (.cells #[.slice A sure.length c, .slice A' wet.length c', .bool dead, .int .i64 left] 28)).alloc (.cells #[.slice A sure.length c, .slice A' wet.length c', .bool dead, .int .i64 left] 28)) v' ⟨sure, wet, dead, left⟩ ∧ Below w.heap.size w ((w.alloc (.cells #[.slice A sure.length c, .slice A' wet.length c', .bool dead, .int .i64 left] 28)).alloc (.cells #[.slice A sure.length c, .slice A' wet.length c', .bool dead, .int .i64 left] 28)) :=
    ⟨_, rfl, ⟨_, _, rfl, h3.below hb2, h4.below hb2⟩, hb2⟩
  have HF := Lib.hid hfin
  clear h3 h4 hb2 hfin
  by_cases h0 : at_ < 0
  · have hd0 : decide (at_ < 0) = true := decide_eq_true h0
    go_enter Try.func14, Try.ntmps14
    go_wp2_with fail
    exact bodyPost_ret (v := .tuple #[.agg #[.slice A sure.length c, .slice A' wet.length c', .bool dead, .int .i64 left], .int .i64 1]) (by simp [results, Try.results14, go_sem]) rfl HF.out
  · have hd0 : decide (at_ < 0) = false := decide_eq_false h0
    by_cases h1 : (sure.length : Int) ≤ at_
    · have hd1 : decide ((sure.length : Int) ≤ at_) = true := decide_eq_true h1
      go_enter Try.func14, Try.ntmps14
      go_wp2_with fail
      exact bodyPost_ret (v := .tuple #[.agg #[.slice A sure.length c, .slice A' wet.length c', .bool dead, .int .i64 left], .int .i64 1]) (by simp [results, Try.results14, go_sem]) rfl HF.out
    · have hd1 : decide ((sure.length : Int) ≤ at_) = false := decide_eq_false h1
      have hd2 : decide ((256 : Int) < (data.size : Int)) = true := by simp; omega
      go_enter Try.func14, Try.ntmps14
      go_wp2_with fail
      exact bodyPost_ret (v := .tuple #[.agg #[.slice A sure.length c, .slice A' wet.length c', .bool dead, .int .i64 left], .int .i64 1]) (by simp [results, Try.results14, go_sem]) rfl HF.out

set_option maxHeartbeats 1000000 in
theorem rwrite_down (v : Value) (d : DK) (at_ : Int) (data : ByteArray) (w : World) (hv : IsDisk w v d) (hd : d.ok) (h1 : 0 ≤ at_) (h2 : at_ < d.sure.length) (h3 : data.size ≤ 256) (hdown : deedB d = false) :
    Calls Try.prog 14 #[v, .int .i64 at_, .string data] w fun e w' => ∃ v', e = .returned (.tuple #[v', .int .i64 12]) ∧ IsDisk w' v' (deedD d) ∧ Below w.heap.size w w' := by
  obtain ⟨A, n, c, A', m, c', rfl⟩ := hv.parts
  have hnl : d.sure.length = n := by
    obtain ⟨vs, vw, e, ⟨A1, c1, e1, _⟩, _⟩ := hv
    simp only [Value.agg.injEq, Array.mk.injEq, List.cons.injEq] at e
    rw [e1] at e
    injection e.1 with _ e2
    exact e2.symm
  rw [hnl] at h2
  have hd0 : decide (at_ < 0) = false := decide_eq_false (by omega)
  have hd1' : decide ((n : Int) ≤ at_) = false := decide_eq_false (by omega)
  have hd2 : decide ((256 : Int) < (data.size : Int)) = false := by simp; omega
  have hwt : (deedD d).wet = d.wet := by unfold deedD; split <;> (try split) <;> rfl
  have hsr : (deedD d).sure = d.sure := by unfold deedD; split <;> (try split) <;> rfl
  have hdo := deedD_ok hd
  obtain ⟨d1, hd1⟩ : ∃ d1, d1 = deedD d := ⟨_, rfl⟩
  obtain ⟨b1, hb1⟩ : ∃ b1, b1 = deedB d := ⟨_, rfl⟩
  have hde : ∀ W : World, Below w.heap.size w W → Calls Try.prog 28 #[.agg #[.slice A n c, .slice A' m c', .bool d.dead, .int .i64 d.left]] W fun e w' => ∃ v', e = .returned (.tuple #[v', .bool b1]) ∧ IsDisk w' v' d1 ∧ Below W.heap.size W w' := fun W hb => by
    rw [hd1, hb1]; exact rdeed_calls _ d W (hv.below hb) hd.lo hd.hi
  rw [← hd1] at hwt hsr hdo ⊢
  rw [hdown] at hb1
  subst hb1
  clear hd1 hwt hsr hv hd hnl
  obtain ⟨sure, wet, dead, left⟩ := d
  dsimp only at hde
  have HDE := Lib.hid hde
  have HDO := Lib.hid hdo
  clear hde hdo
  go_enter Try.func14, Try.ntmps14
  go_wp2_with fail
  have hb0 : Below w.heap.size w ((w.alloc (.cells #[.slice A n c, .slice A' m c', .bool dead, .int .i64 left] 28)).alloc (.cells #[.slice none 0 0, .slice none 0 0, .bool false, .int .i64 0] 28)) := ((Below.refl _ _).alloc (Nat.le_refl _) _).alloc (by simp) _
  with_reducible refine (HDE.out _ hb0).mono ?_
  clear HDE
  rintro e w1 ⟨v1, rfl, hv1, hb1⟩
  obtain ⟨A1, n1, c1, A1', m1, c1', rfl⟩ := hv1.parts
  obtain ⟨sure1, wet1, dead1, left1⟩ := d1
  dsimp only at hv1 ⊢
  have hg1 := box_kept w.heap.size (box_alloc (heap_alloc_new w _) _) hb1
  have hg2 : w1.heap[w.heap.size + 1]? = some (.cells #[.slice none 0 0, .slice none 0 0, .bool false, .int .i64 0] 28 (0, 0)) := box_kept (w.heap.size + 1) (by have := heap_alloc_new (w.alloc (.cells #[.slice A n c, .slice A' m c', .bool dead, .int .i64 left] 28)) (.cells #[.slice none 0 0, .slice none 0 0, .bool false, .int .i64 0] 28); simpa using this) hb1
  have hbw := below_trans' hb0 hb1
  obtain ⟨w2, e2, hG2, hK2, hB2⟩ := box_store4 hg1 (.slice A1 n1 c1) (.slice A1' m1 c1') (.bool dead1) (.int .i64 left1)
  have HV2 := Lib.hid (hv1.other hg1 (by decide) (by decide) hK2)
  have HB := Lib.hid (hB2 _ _ hbw (Nat.le_refl _))
  have hr2 : w2.heap[w.heap.size + 1]? = _ := (hK2 _ (by omega)).trans hg2
  obtain ⟨⟨hp0, hp1, hp2, hp3⟩, hf0, hf1, hf2, hf3⟩ := box4 hg1
  have HG2 := Lib.hid hG2
  have HR2 := Lib.hid hr2
  have E2 := Lib.hid e2
  clear hb0 hb1 hv1 hg1 hg2 hbw e2 hG2 hK2 hB2 hr2
  go_upto_region 4 with (fail)
  rw [E2.out]
  clear hp0 hp1 hp2 hp3 hf0 hf1 hf2 hf3 E2
  obtain ⟨⟨hp0, hp1, hp2, hp3⟩, hf0, hf1, hf2, hf3⟩ := box4 HG2.out
  obtain ⟨⟨hq0, hq1, hq2, hq3⟩, hr0, hr1, hr2, hr3⟩ := box4 HR2.out
  go_wp2_with fail
  refine bodyPost_ret (v := .tuple #[.agg #[.slice A1 n1 c1, .slice A1' m1 c1', .bool dead1, .int .i64 left1], .int .i64 12]) (by simp [results, Try.results14, go_sem, hq0, hq1, hq2, hq3, hr0, hr1, hr2, hr3]) rfl ⟨_, rfl, ?_, ?_⟩
  · exact HV2.out.other HR2.out (by decide) (by decide) (store4_other _ _ _ _ _ _)
  · exact below_store4 HB.out _ (by omega) _ _ _ _

end Go.Proofs.Ytnnbbkfdijionaa
