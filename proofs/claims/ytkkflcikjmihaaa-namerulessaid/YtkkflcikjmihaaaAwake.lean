/- The chapter's examples: awake answers true. No statement is proved here. -/
import Derived.Test.YtkkflcikjmihaaaOrder
namespace Go.Proofs.Ytkkflcikjmihaaa
open Go.RowKit

theorem aw_bucket (l : List UInt8) (b : Bool) (h : bucketOK l = b) (w : World) : Calls Try.prog 10 #[.string ⟨l.toArray⟩] w fun e w' => e = .returned (.bool b) ∧ w' = w := by
  rw [← h]
  exact bucket_calls l w
theorem aw_key (l : List UInt8) (b : Bool) (h : keyOK l = b) (w : World) : Calls Try.prog 12 #[.string ⟨l.toArray⟩] w fun e w' => e = .returned (.bool b) ∧ w' = w := by
  rw [← h]
  exact key_calls l w
theorem aw_begins (l m : List UInt8) (b : Bool) (h : begins l m = b) (w : World) : Calls Try.prog 14 #[.string ⟨l.toArray⟩, .string ⟨m.toArray⟩] w fun e w' => e = .returned (.bool b) ∧ w' = w := by
  rw [← h]
  exact begins_calls l m w
theorem aw_grove (l : List UInt8) (n : Int) (h : ((groveN l : Nat) : Int) = n) (w : World) : Calls Try.prog 16 #[.string ⟨l.toArray⟩] w fun e w' => e = .returned (.int .i64 n) ∧ w' = w := by
  rw [← h]
  exact grove_calls l w
theorem aw_back_no (w : World) : Calls Try.prog 8 #[.string ⟨#[97, 98]⟩] w fun e w' => e = .returned (.tuple #[.string ⟨#[]⟩, .int .i64 0, .bool false]) ∧ w' = w := by
  refine (back_calls [97, 98] w (by decide)).mono ?_
  rintro e w' ⟨rfl, rfl⟩
  have h : backOK [97, 98] = false := by decide
  refine ⟨?_, rfl⟩
  rw [(back_no _ h).1, (back_no _ h).2, h]
  rfl
theorem aw_back (w : World) : Calls Try.prog 8 #[.string (strB (indexL [97, 98] 7))] w fun e w' => e = .returned (.tuple #[.string ⟨#[97, 98]⟩, .int .i64 7, .bool true]) ∧ w' = w := by
  refine (back_calls (indexL [97, 98] 7) w (by simp [indexL, nb_len])).mono ?_
  rintro e w' ⟨rfl, rfl⟩
  obtain ⟨h1, h2, h3⟩ := back_index [97, 98] 7 (by decide) (by decide) (by decide)
  refine ⟨?_, rfl⟩
  rw [h1, h2, h3]
  rfl
theorem aw_index (l : List UInt8) (n : Int) (hL : l.length ≤ 1000) (h0 : -9223372036854775808 ≤ n) (h1 : n < 9223372036854775808) (w : World) : Calls Try.prog 18 #[.string ⟨l.toArray⟩, .int .i64 n] w fun e w' => e = .returned (.string (strB (indexL l n))) ∧ Below w.heap.size w w' :=
  index_calls l n w hL h0 h1
theorem aw_less : Op.bytesLess (strB (indexL [97] 2)).toList (strB (indexL [97] 1)).toList = true := by
  rw [strB_toList, strB_toList, index_less [97] 2 1 (by decide) (by decide) (by decide) (by decide) [97] (by decide) (by decide)]
  decide

set_option maxRecDepth 100000 in
set_option maxHeartbeats 2000000 in
theorem awake_true (w : World) : Calls Try.prog 7 #[] w fun e w' => e = .returned (.bool true) ∧ Below w.heap.size w w' := by
  have hl := aw_less
  have hnot : ∀ (x : Bool) (w : World), (Op.unary .not (.bool x)).run Try.prog w = .ok (.bool (!x)) w := fun _ _ => rfl
  go_enter Try.func7, Try.ntmps7
  go_wp2_with fail
  (with_reducible refine (aw_index [97, 98] 7 (by decide) (by decide) (by decide) _).mono ?_)
  rintro e w1 ⟨rfl, hB1⟩
  have B1 := Lib.hid hB1
  clear hB1
  go_wp2_with fail
  (with_reducible refine (aw_back _).mono ?_)
  rintro e w2 ⟨rfl, rfl⟩
  go_wp2_with fail
  (with_reducible refine (aw_back_no _).mono ?_)
  rintro e w2 ⟨rfl, rfl⟩
  go_wp2_with fail
  (with_reducible refine (aw_bucket [109, 121, 45, 98, 111, 120, 49] true (by decide) _).mono ?_)
  rintro e w2 ⟨rfl, rfl⟩
  go_wp2_with fail
  (with_reducible refine (aw_bucket [45, 98, 111, 120] false (by decide) _).mono ?_)
  rintro e w2 ⟨rfl, rfl⟩
  go_wp2_with fail
  (with_reducible refine (aw_bucket [98, 111, 120, 45] false (by decide) _).mono ?_)
  rintro e w2 ⟨rfl, rfl⟩
  go_wp2_with fail
  (with_reducible refine (aw_bucket [97, 98] false (by decide) _).mono ?_)
  rintro e w2 ⟨rfl, rfl⟩
  go_wp2_with fail
  (with_reducible refine (aw_bucket [66, 111, 120] false (by decide) _).mono ?_)
  rintro e w2 ⟨rfl, rfl⟩
  go_wp2_with fail
  (with_reducible refine (aw_key [97, 47, 98] true (by decide) _).mono ?_)
  rintro e w2 ⟨rfl, rfl⟩
  go_wp2_with fail
  (with_reducible refine (aw_key [] false (by decide) _).mono ?_)
  rintro e w2 ⟨rfl, rfl⟩
  go_wp2_with fail
  (with_reducible refine (aw_key [97, 0] false (by decide) _).mono ?_)
  rintro e w2 ⟨rfl, rfl⟩
  go_wp2_with fail
  (with_reducible refine (aw_begins [97, 98, 99] [97, 98] true (by decide) _).mono ?_)
  rintro e w2 ⟨rfl, rfl⟩
  go_wp2_with fail
  (with_reducible refine (aw_begins [97, 98] [97, 98, 99] false (by decide) _).mono ?_)
  rintro e w2 ⟨rfl, rfl⟩
  go_wp2_with fail
  (with_reducible refine (aw_index [97] 2 (by decide) (by decide) (by decide) _).mono ?_)
  rintro e w3 ⟨rfl, hB3⟩
  have B3 := Lib.hid (below_two B1.out hB3)
  clear hB3 B1
  go_wp2_with fail
  (with_reducible refine (aw_index [97] 1 (by decide) (by decide) (by decide) _).mono ?_)
  rintro e w4 ⟨rfl, hB4⟩
  have B4 := Lib.hid (below_two B3.out hB4)
  clear hB4 B3
  go_wp2_with fail
  (with_reducible refine (aw_grove [97] 0 (by decide) _).mono ?_)
  rintro e w2 ⟨rfl, rfl⟩
  go_wp2_with fail
  (with_reducible refine (aw_grove [103] 1 (by decide) _).mono ?_)
  rintro e w2 ⟨rfl, rfl⟩
  go_wp2_with fail
  (with_reducible refine (aw_grove [110] 2 (by decide) _).mono ?_)
  rintro e w2 ⟨rfl, rfl⟩
  go_wp2_with fail
  (with_reducible refine (aw_grove [116] 3 (by decide) _).mono ?_)
  rintro e w2 ⟨rfl, rfl⟩
  go_wp2_with fail
  go_ret
  exact ⟨rfl, B4.out⟩
end Go.Proofs.Ytkkflcikjmihaaa
