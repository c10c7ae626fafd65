/- NameTells: the walk. No statement is proved here. -/
import Derived.Test.YtkkflcikjmihaaaAwake
namespace Go.Proofs.Ytkkflcikjmihaaa
open Go.RowKit

set_option maxRecDepth 100000 in
set_option maxHeartbeats 2000000 in
theorem tells_few (l m : List UInt8) (n : Int) (w : World) (hl : l.length ≤ 300) (hm : m.length ≤ 300) (h0 : -9223372036854775808 ≤ n) (h1 : n < 9223372036854775808) :
    Calls Try.prog 3 #[.string (strB l), .string (strB m), .int .i64 n] w fun e w' => e = .returned (.bool true) ∧ Below w.heap.size w w' := by
  have g1 : ¬ (300 : Int) < (strB l).size := by rw [strB_size]; omega
  have g2 : ¬ (300 : Int) < (strB m).size := by rw [strB_size]; omega
  go_enter Try.func3, Try.ntmps3
  go_wp2_with fail
  (with_reducible refine (back_calls m _ (by omega)).mono ?_)
  rintro e w1 ⟨rfl, rfl⟩
  go_wp2_with fail
  (with_reducible refine (rback_calls m _ (by omega)).mono ?_)
  rintro e w2 ⟨rfl, rfl⟩
  go_wp2_with fail
  (with_reducible refine (awake_true _).mono ?_)
  rintro e w3 ⟨rfl, hB3⟩
  have B3 := Lib.hid hB3
  clear hB3
  go_wp2_with fail
  (with_reducible refine (bucket_calls l _).mono ?_)
  rintro e w4 ⟨rfl, rfl⟩
  go_wp2_with fail
  (with_reducible refine (rbucket_calls l _ (by omega)).mono ?_)
  rintro e w5 ⟨rfl, rfl⟩
  go_wp2_with fail
  (with_reducible refine (key_calls l _).mono ?_)
  rintro e w6 ⟨rfl, rfl⟩
  go_wp2_with fail
  (with_reducible refine (rkey_calls l _ (by omega)).mono ?_)
  rintro e w7 ⟨rfl, rfl⟩
  go_wp2_with fail
  (with_reducible refine (begins_calls l m _).mono ?_)
  rintro e w8 ⟨rfl, rfl⟩
  go_wp2_with fail
  (with_reducible refine (rbegins_calls l m _).mono ?_)
  rintro e w9 ⟨rfl, rfl⟩
  go_wp2_with fail
  (with_reducible refine (grove_calls l _).mono ?_)
  rintro e w10 ⟨rfl, rfl⟩
  go_wp2_with fail
  (with_reducible refine (rgrove_calls l _).mono ?_)
  rintro e w11 ⟨rfl, rfl⟩
  go_wp2_with fail
  (with_reducible refine (index_calls l n _ (by omega) h0 h1).mono ?_)
  rintro e w12 ⟨rfl, hB12⟩
  have B12 := Lib.hid (below_two B3.out hB12)
  clear hB12 B3
  go_wp2_with fail
  (with_reducible refine (rindex_calls l n _ (by omega) h0 h1).mono ?_)
  rintro e w13 ⟨rfl, hB13⟩
  have B13 := Lib.hid (below_two B12.out hB13)
  clear hB13 B12
  go_wp2_with fail
  go_ret
  exact ⟨by simp, B13.out⟩

set_option maxRecDepth 100000 in
set_option maxHeartbeats 2000000 in
theorem tells_calls (s t : ByteArray) (n : Int) (w : World) (h0 : -9223372036854775808 ≤ n) (h1 : n < 9223372036854775808) :
    Calls Try.prog 3 #[.string s, .string t, .int .i64 n] w fun e w' => e = .returned (.bool true) ∧ Below w.heap.size w w' := by
  by_cases hs : s.size ≤ 300
  · by_cases ht : t.size ≤ 300
    · have h := tells_few s.data.toList t.data.toList n w (by rw [len_data]; exact hs) (by rw [len_data]; exact ht) h0 h1
      rw [strB_of, strB_of] at h
      exact h
    · have g1 : ¬ (300 : Int) < s.size := by omega
      have g2 : (300 : Int) < t.size := by omega
      go_enter Try.func3, Try.ntmps3
      go_wp2_with fail
      (with_reducible refine (awake_true _).mono ?_)
      rintro e w3 ⟨rfl, hB3⟩
      go_wp2_with fail
      go_ret
      exact ⟨rfl, hB3⟩
  · have g1 : (300 : Int) < s.size := by omega
    go_enter Try.func3, Try.ntmps3
    go_wp2_with fail
    (with_reducible refine (awake_true _).mono ?_)
    rintro e w3 ⟨rfl, hB3⟩
    go_wp2_with fail
    go_ret
    exact ⟨rfl, hB3⟩
end Go.Proofs.Ytkkflcikjmihaaa
