/- WireWrites: the walk. No statement is proved here. -/
import Derived.Test.YthpellhoponocaaAwake
namespace Go.Proofs.Ythpellhoponocaa
open Go.RowKit

set_option maxRecDepth 100000 in
set_option maxHeartbeats 1600000 in
theorem writes_few (n : Int) (l : List UInt8) (w : World) (hl : l.length ≤ 70000) :
    Calls Try.prog 3 #[.int .i64 n, .string (strB l)] w fun e w' => e = .returned (.bool true) ∧ Below w.heap.size w w' := by
  have g1 : ¬ (70000 : Int) < (strB l).size := by rw [strB_size]; omega
  clear hl
  go_enter Try.func3, Try.ntmps3
  go_wp2_with fail
  (with_reducible refine (awake_true _).mono ?_)
  rintro e w1 ⟨rfl, hB1⟩
  go_wp2_with fail
  (with_reducible refine (two_calls n _).mono ?_)
  rintro e w2 ⟨rfl, hB2⟩
  go_wp2_with fail
  (with_reducible refine (rtwo_calls n _).mono ?_)
  rintro e w3 ⟨rfl, hB3⟩
  go_wp2_with fail
  (with_reducible refine (four_calls n _).mono ?_)
  rintro e w4 ⟨rfl, hB4⟩
  go_wp2_with fail
  (with_reducible refine (rfour_calls n _).mono ?_)
  rintro e w5 ⟨rfl, hB5⟩
  go_wp2_with fail
  (with_reducible refine (text_calls l _).mono ?_)
  rintro e w6 ⟨rfl, hB6⟩
  go_wp2_with fail
  (with_reducible refine (rtext_calls l _).mono ?_)
  rintro e w7 ⟨rfl, hB7⟩
  go_wp2_with fail
  go_ret
  exact ⟨rfl, below_two (below_two (below_two (below_two (below_two (below_two hB1 hB2) hB3) hB4) hB5) hB6) hB7⟩

set_option maxRecDepth 100000 in
set_option maxHeartbeats 1600000 in
theorem writes_calls (n : Int) (s : ByteArray) (w : World) : Calls Try.prog 3 #[.int .i64 n, .string s] w fun e w' => e = .returned (.bool true) ∧ Below w.heap.size w w' := by
  by_cases h1 : s.size ≤ 70000
  · have h := writes_few n s.data.toList w (by rw [len_data]; exact h1)
    rw [strB_of] at h
    exact h
  · have g1 : (70000 : Int) < s.size := by omega
    go_enter Try.func3, Try.ntmps3
    go_wp2_with fail
    (with_reducible refine (awake_true _).mono ?_)
    rintro e w3 ⟨rfl, hB3⟩
    go_wp2_with fail
    go_ret
    exact ⟨rfl, hB3⟩
end Go.Proofs.Ythpellhoponocaa
