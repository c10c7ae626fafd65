/- The document's own calls against the same plain disk, and what stays true of it behind each deed. No statement is proved here. -/
import Derived.Test.YtnnbbkfdijionaaRNew
import Derived.Test.YtnnbbkfdijionaaPlayed
import Derived.Test.YtnnbbkfdijionaaRFlush
import Derived.Test.YtnnbbkfdijionaaRSame
namespace Go.Proofs.Ytnnbbkfdijionaa
open Go.RowKit

/-- A disk of n sectors behind i deeds. -/
structure Pl (n i : Nat) (D : DK) : Prop where
  good : Good n i D
  rise : Rising D.wet
  inn : WetIn D

theorem Pl.ok {n i : Nat} {D : DK} (h : Pl n i D) (hn : n ≤ 2000) (hi : i ≤ 2000) : D.ok := h.good.ok hn hi

theorem deedD_wet (d : DK) : (deedD d).wet = d.wet := by unfold deedD; split <;> (try split) <;> rfl
theorem deedD_sure (d : DK) : (deedD d).sure = d.sure := by unfold deedD; split <;> (try split) <;> rfl

theorem WetIn.deed {d : DK} (h : WetIn d) : WetIn (deedD d) := by
  unfold WetIn
  rw [deedD_wet, deedD_sure]; exact h

theorem wetIn_nil {d : DK} (h : d.wet = []) : WetIn d := by
  unfold WetIn
  rw [h]; intro o ho; cases ho

theorem rising_nil : Rising [] := List.Pairwise.nil

theorem wrD_pl {n i : Nat} {D : DK} (h : Pl n i D) (at_ : Int) (data : ByteArray) : Pl n (i + 1) (wrD D at_ data) := by
  refine ⟨wrD_good h.good at_ data, ?_, ?_⟩
  · unfold wrD
    split
    · unfold writeD
      split
      · exact h.rise.with_ _
      · rw [deedD_wet]; exact h.rise
    · exact h.rise
  · unfold wrD
    split
    · rename_i hok
      unfold writeD
      split
      · intro o ho
        show 0 ≤ o.1 ∧ o.1 < (deedD D).sure.length
        rw [deedD_sure]
        rcases with_mem _ _ _ ho with rfl | ⟨ho, _⟩
        · exact ⟨hok.1, hok.2.1⟩
        · exact h.inn o ho
      · exact h.inn.deed
    · exact h.inn

theorem flD_pl {n i : Nat} {D : DK} (h : Pl n i D) : Pl n i (flD D) := by
  refine ⟨flD_good h.good, ?_, ?_⟩
  · unfold flD
    split
    · exact rising_nil
    · rw [deedD_wet]; exact h.rise
  · unfold flD
    split
    · exact wetIn_nil rfl
    · exact h.inn.deed

theorem doesD_pl {n i : Nat} {D : DK} (h : Pl n i D) (a : AK) (ha : a.place ≤ 9223372036854775807) : Pl n (i + 1) (doesD D a) := by
  refine ⟨doesD_good h.good a ha, ?_, ?_⟩
  · unfold doesD
    split
    · exact (wrD_pl h _ _).rise
    · split
      · exact (flD_pl h).rise
      · split
        · exact h.rise
        · split
          · exact rising_nil
          · exact h.rise
  · unfold doesD
    split
    · exact (wrD_pl h _ _).inn
    · split
      · exact (flD_pl h).inn
      · split
        · exact h.inn
        · split
          · exact wetIn_nil rfl
          · exact h.inn

theorem rwr_calls (v : Value) (d : DK) (at_ : Int) (data : ByteArray) (w : World) (hv : IsDisk w v d) (hd : d.ok) (hr : Rising d.wet) :
    Calls Try.prog 14 #[v, .int .i64 at_, .string data] w fun e w' => ∃ v', e = .returned (.tuple #[v', .int .i64 (wrE d at_ data)]) ∧ IsDisk w' v' (wrD d at_ data) ∧ Below w.heap.size w w' := by
  by_cases hok : wrOk d at_ data
  · unfold wrE wrD
    rw [if_pos hok, if_pos hok]
    cases hb : deedB d with
    | true =>
      have := rwrite_done v d at_ data w hv hd hok.1 hok.2.1 hok.2.2 hb hr
      unfold writeD
      rw [hb, if_pos rfl, if_pos rfl]
      exact this
    | false =>
      have := rwrite_down v d at_ data w hv hd hok.1 hok.2.1 hok.2.2 hb
      unfold writeD
      rw [hb, if_neg (by simp), if_neg (by simp)]
      exact this
  · have := rwrite_arg v d at_ data w hv hok
    unfold wrE wrD
    rw [if_neg hok, if_neg hok]
    exact this

theorem rrd_calls (v : Value) (d : DK) (at_ : Int) (w : World) (hv : IsDisk w v d) (hd : d.ok) (hr : Rising d.wet) :
    Calls Try.prog 15 #[v, .int .i64 at_] w fun e w' => e = .returned (.tuple #[.string (rdS d at_), .int .i64 (rdE d at_)]) ∧ Below w.heap.size w w' := by
  by_cases hok : rdOk d at_
  · cases hde : d.dead with
    | false =>
      have := rread_walk v d at_ w hv hd.wet hok.1 hok.2 hde
      obtain ⟨j, rfl⟩ := Int.eq_ofNat_of_zero_le hok.1
      rw [find_read hr.uniq] at this
      unfold rdS rdE
      rw [if_pos ⟨hok, hde⟩, if_pos hok, if_pos hde]
      exact this
    | true =>
      have := rread_down v d at_ w hv hok.1 hok.2 hde
      unfold rdS rdE
      rw [if_neg (by rw [hde]; simp), if_pos hok, if_neg (by rw [hde]; simp)]
      exact this
  · have := rread_arg v d at_ w hv hok
    unfold rdS rdE
    rw [if_neg (fun h => hok h.1), if_neg hok]
    exact this

theorem rfl_calls (v : Value) (d : DK) (w : World) (hv : IsDisk w v d) (hd : d.ok) (hin : WetIn d) :
    Calls Try.prog 16 #[v] w fun e w' => ∃ v', e = .returned (.tuple #[v', .int .i64 (flE d)]) ∧ IsDisk w' v' (flD d) ∧ Below w.heap.size w w' :=
  rflush_calls v d w hv hd hin

/-- The disk that is none. -/
def zeroD : DK := ⟨[], [], false, 0⟩

theorem zero_disk (w : World) : IsDisk w (.agg #[.slice none 0 0, .slice none 0 0, .bool false, .int .i64 0]) zeroD :=
  ⟨_, _, rfl, SL.nil _ _ _, SL.nil _ _ _⟩

/-- New, and the document's own. -/
theorem new_both (n : Int) : ∃ (N : Nat) (D : DK) (E : Int), N ≤ 2000 ∧ Pl N 0 D ∧
    (∀ W : World, Calls Try.prog 10 #[.int .i64 n] W fun e w' => ∃ v, e = .returned (.tuple #[v, .int .i64 E]) ∧ IsDisk w' v D ∧ Below W.heap.size W w') ∧
    (∀ W : World, Calls Try.prog 11 #[.int .i64 n] W fun e w' => ∃ v, e = .returned (.tuple #[v, .int .i64 E]) ∧ IsDisk w' v D ∧ Below W.heap.size W w') := by
  have hz : Pl 0 0 zeroD := ⟨⟨rfl, Nat.le_refl _, by simp [zeroD], by simp [zeroD]⟩, rising_nil, wetIn_nil rfl⟩
  by_cases h1 : n < 1
  · refine ⟨0, zeroD, 1, by omega, hz, fun W => (new_bad_lo n h1 W).mono ?_, fun W => (rnew_bad_lo n h1 W).mono ?_⟩
    all_goals
      rintro e w' ⟨rfl, hb⟩
      exact ⟨_, rfl, zero_disk _, hb⟩
  · by_cases h2 : 2000 < n
    · refine ⟨0, zeroD, 1, by omega, hz, fun W => (new_bad_hi n h2 W).mono ?_, fun W => (rnew_bad_hi n h2 W).mono ?_⟩
      all_goals
        rintro e w' ⟨rfl, hb⟩
        exact ⟨_, rfl, zero_disk _, hb⟩
    · obtain ⟨k, rfl⟩ := Int.eq_ofNat_of_zero_le (show 0 ≤ n by omega)
      exact ⟨k, newD k, 0, by omega, ⟨newD_good k, rising_nil, wetIn_nil rfl⟩, fun W => new_calls k (by omega) (by omega) W, fun W => rnew_calls k (by omega) (by omega) W⟩

end Go.Proofs.Ytnnbbkfdijionaa
