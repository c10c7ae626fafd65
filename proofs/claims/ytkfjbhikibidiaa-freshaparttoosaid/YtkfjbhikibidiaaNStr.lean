/- strings.Contains at one byte, strings.HasPrefix; name.nameByte, Begins, Grove, and the document's: what each call does. No statement is proved here. -/
import Derived.Test.YtkfjbhikibidiaaNPlain
import Derived.StillTailTactics
namespace Go.Proofs.Ytkfjbhikibidiaa.Nm
open Go.RowKit

set_option maxHeartbeats 1000000 in
theorem slIndexByte_calls (s : ByteArray) (c : Int) (w : World) :
    Calls Try.prog 52 #[.string s, .int .u8 c] w fun e w' => e = .returned (.int .i64 (Lib.indexByte s.data.toList c.toNat.toUInt8)) ∧ w' = w := by
  go_enter Try.func52, Try.ntmps52
  go_wp2_with fail
  rw [run_callFunc_extern Try.func58 (by kernel_rfl) (by kernel_rfl) (by kernel_rfl) (e := Extern.BytealgIndexByte.indexByte) (by kernel_rfl), Lib.run_indexByteString]
  simp only [Result.andThen]
  rw [Oper.upon_value]
  go_wp2_with fail
  go_ret
  exact ⟨rfl, rfl⟩

set_option maxHeartbeats 2000000 in
set_option maxRecDepth 100000 in
theorem slIndex_calls (s : ByteArray) (c : UInt8) (w : World) :
    Calls Try.prog 49 #[.string s, .string ⟨#[c]⟩] w fun e w' => e = .returned (.int .i64 (Lib.indexByte s.data.toList c)) ∧ w' = w := by
  go_enter Try.func49, Try.ntmps49
  go_wp2_with (go_at_call 52; refine (slIndexByte_calls _ _ _).mono ?_; rintro e w' ⟨rfl, rfl⟩)
  · have h : ([c] == s.toList) = true := by assumption
    go_ret
    refine ⟨?_, rfl⟩
    have e : s.data.toList = [c] := by rw [← Lib.toList_data]; exact (beq_iff_eq.1 h).symm
    rw [e]
    simp [Lib.indexByte]
  · go_ret
    exact ⟨rfl, rfl⟩

set_option maxHeartbeats 1000000 in
theorem index_calls0 (s : ByteArray) (c : UInt8) (w : World) :
    Calls Try.prog 44 #[.string s, .string ⟨#[c]⟩] w fun e w' => e = .returned (.int .i64 (Lib.indexByte s.data.toList c)) ∧ w' = w := by
  go_enter Try.func44, Try.ntmps44
  go_wp2_with fail
  (with_reducible refine (slIndex_calls s c _).mono ?_)
  rintro e w1 ⟨rfl, rfl⟩
  go_wp2_with fail
  go_ret
  exact ⟨rfl, rfl⟩

set_option maxHeartbeats 1000000 in
theorem contains_calls (s : ByteArray) (c : UInt8) (w : World) :
    Calls Try.prog 39 #[.string s, .string ⟨#[c]⟩] w fun e w' => e = .returned (.bool (decide (0 ≤ Lib.indexByte s.data.toList c))) ∧ w' = w := by
  go_enter Try.func39, Try.ntmps39
  go_wp2_with fail
  (with_reducible refine (index_calls0 s c _).mono ?_)
  rintro e w1 ⟨rfl, rfl⟩
  go_wp2_with fail
  go_ret
  exact ⟨rfl, rfl⟩

theorem begins_of (l m : List UInt8) (h : ((strB m).size : Int) ≤ (strB l).size) : (((strB l).extract 0 (strB m).size).toList == (strB m).toList) = begins l m := by
  rw [strB_size, strB_size] at h
  rw [strB_size, strB_extract, strB_toList, strB_toList]
  unfold begins
  rw [decide_eq_true (by omega : m.length ≤ l.length), Bool.true_and]
  rfl
theorem begins_not (l m : List UInt8) (h : ¬ ((strB m).size : Int) ≤ (strB l).size) : begins l m = false := by
  rw [strB_size, strB_size] at h
  unfold begins
  rw [decide_eq_false (by omega : ¬ m.length ≤ l.length), Bool.false_and]

set_option maxHeartbeats 1000000 in
theorem slPrefix_calls (l m : List UInt8) (w : World) :
    Calls Try.prog 48 #[.string (strB l), .string (strB m)] w fun e w' => e = .returned (.bool (begins l m)) ∧ w' = w := by
  by_cases h : ((strB m).size : Int) ≤ (strB l).size
  · have hb := begins_of l m h
    go_enter Try.func48, Try.ntmps48
    go_wp2_with fail
    go_ret
    exact ⟨rfl, rfl⟩
  · rw [begins_not l m h]
    go_enter Try.func48, Try.ntmps48
    go_wp2_with fail
    go_ret
    exact ⟨rfl, rfl⟩

set_option maxHeartbeats 1000000 in
theorem prefix_calls (l m : List UInt8) (w : World) :
    Calls Try.prog 43 #[.string (strB l), .string (strB m)] w fun e w' => e = .returned (.bool (begins l m)) ∧ w' = w := by
  go_enter Try.func43, Try.ntmps43
  go_wp2_with fail
  (with_reducible refine (slPrefix_calls l m _).mono ?_)
  rintro e w1 ⟨rfl, rfl⟩
  go_wp2_with fail
  go_ret
  exact ⟨rfl, rfl⟩

end Go.Proofs.Ytkfjbhikibidiaa.Nm
