/- Contracts and plain mathematics that the statement's proof wants: no statement is proved here, nothing is assumed. -/
import Derived.Test.YtgeiemccjionpaaGreatMg06
import Derived.Test.YtgeiemccjionpaaGreatMg14
import Derived.Test.YtgeiemccjionpaaGreatMg15
import Derived.Test.YtgeiemccjionpaaGreatMg16
/- DRDoes -/
namespace Go.Proofs.YtgeiemccjionpaaGreat.Dsk
open Go.RowKit

theorem rwr_calls (v : Value) (d : DK) (at_ : Int) (data : ByteArray) (w : World) (hv : IsDisk w v d) (hd : d.ok) (hr : Rising d.wet) :
    Calls Tryz.prog 31 #[v, .int .i64 at_, .string data] w fun e w' => ∃ v', e = .returned (.tuple #[v', .int .i64 (wrE d at_ data)]) ∧ IsDisk w' v' (wrD d at_ data) ∧ Below w.heap.size w w' := by
  by_cases hok : wrOk d at_ data
  · unfold wrE wrD
    rw [if_pos hok, if_pos hok]
    cases hb : deedB d with
    | true =>
      have := rwrite_done v d at_ data w hv hd hok.1 hok.2.1 hok.2.2 hb hr
      unfold writeD
      rw [hb, if_pos rfl, if_pos rfl]
      exact this
    | false =>
      have := rwrite_down v d at_ data w hv hd hok.1 hok.2.1 hok.2.2 hb
      unfold writeD
      rw [hb, if_neg (by simp), if_neg (by simp)]
      exact this
  · have := rwrite_arg v d at_ data w hv hok
    unfold wrE wrD
    rw [if_neg hok, if_neg hok]
    exact this

theorem rrd_calls (v : Value) (d : DK) (at_ : Int) (w : World) (hv : IsDisk w v d) (hd : d.ok) (hr : Rising d.wet) :
    Calls Tryz.prog 52 #[v, .int .i64 at_] w fun e w' => e = .returned (.tuple #[.string (rdS d at_), .int .i64 (rdE d at_)]) ∧ Below w.heap.size w w' := by
  by_cases hok : rdOk d at_
  · cases hde : d.dead with
    | false =>
      have := rread_walk v d at_ w hv hd.wet hok.1 hok.2 hde
      obtain ⟨j, rfl⟩ := Int.eq_ofNat_of_zero_le hok.1
      rw [find_read hr.uniq] at this
      unfold rdS rdE
      rw [if_pos ⟨hok, hde⟩, if_pos hok, if_pos hde]
      exact this
    | true =>
      have := rread_down v d at_ w hv hok.1 hok.2 hde
      unfold rdS rdE
      rw [if_neg (by rw [hde]; simp), if_pos hok, if_neg (by rw [hde]; simp)]
      exact this
  · have := rread_arg v d at_ w hv hok
    unfold rdS rdE
    rw [if_neg (fun h => hok h.1), if_neg hok]
    exact this

theorem rfl_calls (v : Value) (d : DK) (w : World) (hv : IsDisk w v d) (hd : d.ok) (hin : WetIn d) :
    Calls Tryz.prog 33 #[v] w fun e w' => ∃ v', e = .returned (.tuple #[v', .int .i64 (flE d)]) ∧ IsDisk w' v' (flD d) ∧ Below w.heap.size w w' :=
  rflush_calls v d w hv hd hin

theorem zero_disk (w : World) : IsDisk w (.agg #[.slice none 0 0, .slice none 0 0, .bool false, .int .i64 0]) zeroD :=
  ⟨_, _, rfl, SL.nil _ _ _, SL.nil _ _ _⟩

end Go.Proofs.YtgeiemccjionpaaGreat.Dsk
