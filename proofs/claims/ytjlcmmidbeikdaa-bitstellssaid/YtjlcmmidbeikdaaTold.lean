/- BitsTells: the walk, at every input. No statement is proved here. -/
import Derived.Test.YtjlcmmidbeikdaaTells
namespace Go.Proofs.Ytjlcmmidbeikdaa
open Go.RowKit Go.Sort

set_option maxRecDepth 100000 in
set_option maxHeartbeats 4000000 in
theorem tells_calls (s : ByteArray) (a b c : Int) (r : List (Int × Int)) (A : Option Addr) (n cap : Nat) (w : World) (hv : Sps w (.slice A n cap) r) :
    Calls Try.prog 3 #[.string s, .agg #[.int .i64 a, .int .i64 b, .int .i64 c], .slice A n cap] w fun e w' => e = .returned (.bool true) ∧ Below w.heap.size w w' := by
  by_cases h1 : s.size ≤ 300
  · by_cases h2 : n ≤ 30
    · by_cases h3 : c ≤ 1000
      · have := tells_few s.data.toList a b c r A n cap w (by rw [← strB_size, strB_of]; exact h1) hv h2 h3
        rw [strB_of] at this
        exact this
      · have g1 : ¬ (300 : Int) < (s.size : Int) := by omega
        have g2 : ¬ (30 : Int) < (n : Int) := by omega
        have g3 : (1000 : Int) < c := by omega
        clear hv
        go_enter Try.func3, Try.ntmps3
        go_wp2_with fail
        (with_reducible refine (awake_true _).mono ?_)
        rintro e w3 ⟨rfl, hB⟩
        have HB := Lib.hid (below_trans2 (below_one _ _) hB)
        clear hB
        go_wp2_with fail
        go_ret
        exact ⟨rfl, HB.out⟩
    · have g1 : ¬ (300 : Int) < (s.size : Int) := by omega
      have g2 : (30 : Int) < (n : Int) := by omega
      clear hv
      go_enter Try.func3, Try.ntmps3
      go_wp2_with fail
      (with_reducible refine (awake_true _).mono ?_)
      rintro e w3 ⟨rfl, hB⟩
      have HB := Lib.hid (below_trans2 (below_one _ _) hB)
      clear hB
      go_wp2_with fail
      go_ret
      exact ⟨rfl, HB.out⟩
  · have g1 : (300 : Int) < (s.size : Int) := by omega
    clear hv
    go_enter Try.func3, Try.ntmps3
    go_wp2_with fail
    (with_reducible refine (awake_true _).mono ?_)
    rintro e w3 ⟨rfl, hB⟩
    have HB := Lib.hid (below_trans2 (below_one _ _) hB)
    clear hB
    go_wp2_with fail
    go_ret
    exact ⟨rfl, HB.out⟩
end Go.Proofs.Ytjlcmmidbeikdaa
