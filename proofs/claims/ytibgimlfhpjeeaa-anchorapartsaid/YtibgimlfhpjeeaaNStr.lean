/- strings.Contains at one byte, strings.HasPrefix; name.nameByte, Begins, Grove, and the document's: what each call does. No statement is proved here. -/
import Derived.Test.YtibgimlfhpjeeaaNPlain
import Derived.StillTailTactics
namespace Go.Proofs.Ytibgimlfhpjeeaa.Nm
open Go.RowKit

theorem begins_of (l m : List UInt8) (h : ((strB m).size : Int) ≤ (strB l).size) : (((strB l).extract 0 (strB m).size).toList == (strB m).toList) = begins l m := by
  rw [strB_size, strB_size] at h
  rw [strB_size, strB_extract, strB_toList, strB_toList]
  unfold begins
  rw [decide_eq_true (by omega : m.length ≤ l.length), Bool.true_and]
  rfl
theorem begins_not (l m : List UInt8) (h : ¬ ((strB m).size : Int) ≤ (strB l).size) : begins l m = false := by
  rw [strB_size, strB_size] at h
  unfold begins
  rw [decide_eq_false (by omega : ¬ m.length ≤ l.length), Bool.false_and]

set_option maxHeartbeats 1000000 in
theorem slPrefix_calls (l m : List UInt8) (w : World) :
    Calls Try.prog 42 #[.string (strB l), .string (strB m)] w fun e w' => e = .returned (.bool (begins l m)) ∧ w' = w := by
  by_cases h : ((strB m).size : Int) ≤ (strB l).size
  · have hb := begins_of l m h
    go_enter Try.func42, Try.ntmps42
    go_wp2_with fail
    go_ret
    exact ⟨rfl, rfl⟩
  · rw [begins_not l m h]
    go_enter Try.func42, Try.ntmps42
    go_wp2_with fail
    go_ret
    exact ⟨rfl, rfl⟩

set_option maxHeartbeats 1000000 in
theorem prefix_calls (l m : List UInt8) (w : World) :
    Calls Try.prog 31 #[.string (strB l), .string (strB m)] w fun e w' => e = .returned (.bool (begins l m)) ∧ w' = w := by
  go_enter Try.func31, Try.ntmps31
  go_wp2_with fail
  (with_reducible refine (slPrefix_calls l m _).mono ?_)
  rintro e w1 ⟨rfl, rfl⟩
  go_wp2_with fail
  go_ret
  exact ⟨rfl, rfl⟩

end Go.Proofs.Ytibgimlfhpjeeaa.Nm
