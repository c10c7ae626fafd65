/- Contracts and plain mathematics that the statement's proof wants: no statement is proved here, nothing is assumed. -/
import Derived.StillTailTactics
import Derived.Test.YtgeiemccjionpaaGreatMg04
/- NStr -/
namespace Go.Proofs.YtgeiemccjionpaaGreat.Nm
open Go.RowKit

theorem begins_of (l m : List UInt8) (h : ((strB m).size : Int) ≤ (strB l).size) : (((strB l).extract 0 (strB m).size).toList == (strB m).toList) = begins l m := by
  rw [strB_size, strB_size] at h
  rw [strB_size, strB_extract, strB_toList, strB_toList]
  unfold begins
  rw [decide_eq_true (by omega : m.length ≤ l.length), Bool.true_and]
  rfl
theorem begins_not (l m : List UInt8) (h : ¬ ((strB m).size : Int) ≤ (strB l).size) : begins l m = false := by
  rw [strB_size, strB_size] at h
  unfold begins
  rw [decide_eq_false (by omega : ¬ m.length ≤ l.length), Bool.false_and]

set_option maxRecDepth 100000 in
set_option maxHeartbeats 1000000 in
theorem slPrefix_calls (l m : List UInt8) (w : World) :
    Calls Tryz.prog 107 #[.string (strB l), .string (strB m)] w fun e w' => e = .returned (.bool (begins l m)) ∧ w' = w := by
  by_cases h : ((strB m).size : Int) ≤ (strB l).size
  · have hb := begins_of l m h
    go_enter Tryz.func107, Tryz.ntmps107
    go_wp2_with fail
    go_ret
    exact ⟨rfl, rfl⟩
  · rw [begins_not l m h]
    go_enter Tryz.func107, Tryz.ntmps107
    go_wp2_with fail
    go_ret
    exact ⟨rfl, rfl⟩

set_option maxRecDepth 100000 in
set_option maxHeartbeats 1000000 in
theorem prefix_calls (l m : List UInt8) (w : World) :
    Calls Tryz.prog 101 #[.string (strB l), .string (strB m)] w fun e w' => e = .returned (.bool (begins l m)) ∧ w' = w := by
  go_enter Tryz.func101, Tryz.ntmps101
  go_wp2_with fail
  (with_reducible refine (slPrefix_calls l m _).mono ?_)
  rintro e w1 ⟨rfl, rfl⟩
  go_wp2_with fail
  go_ret
  exact ⟨rfl, rfl⟩

end Go.Proofs.YtgeiemccjionpaaGreat.Nm
