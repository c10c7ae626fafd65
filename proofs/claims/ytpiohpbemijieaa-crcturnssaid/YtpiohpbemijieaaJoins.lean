/- CrcJoins: the walk. No statement is proved here. -/
import Derived.Test.YtpiohpbemijieaaAwake
namespace Go.Proofs.Ytpiohpbemijieaa
open Go.RowKit

theorem strB_data (l : List UInt8) : (strB l).data.toList = l := rfl
theorem strB_of (s : ByteArray) : strB s.data.toList = s := by cases s; rfl
theorem strB_toList (l : List UInt8) : (strB l).toList = l := by rw [ByteArray.toList_eq]; rfl

theorem sealL (l : List UInt8) (w : World) (h : l.length ≤ 5000) :
    Calls Try.prog 11 #[.string (strB l)] w fun e w' => e = .returned (.string (strB (sealB l))) ∧ Below w.heap.size w w' :=
  seal_calls (strB l) w (by rw [strB_size]; omega)

theorem openL (l : List UInt8) (w : World) (h : l.length ≤ 5000) :
    Calls Try.prog 7 #[.string (strB (sealB l))] w fun e w' => e = .returned (.tuple #[.string (strB l), .bool true]) ∧ Below w.heap.size w w' := by
  have h := open_calls (strB (sealB l)) w (by rw [strB_size, sealB_len]; unfold maxLen; omega)
  rw [strB_data, opens_seal] at h
  have e : openS (strB (sealB l)) = strB l := by
    unfold openS
    rw [strB_data, opens_seal, if_pos rfl, sealB_take]
  rw [e] at h
  exact h

set_option maxRecDepth 100000 in
set_option maxHeartbeats 1600000 in
theorem joins_few (l m : List UInt8) (w : World) (hl : l.length ≤ 500) (hm : m.length ≤ 500) :
    Calls Try.prog 5 #[.string (strB l), .string (strB m)] w fun e w' => e = .returned (.bool true) ∧ Below w.heap.size w w' := by
  have HL2 : Hid ((sealB l).length ≤ 5000) := by show (sealB l).length ≤ 5000; rw [sealB_len]; omega
  have HL1 : Hid (l.length ≤ 5000) := by show l.length ≤ 5000; omega
  have HM1 : Hid (m.length ≤ 5000) := by show m.length ≤ 5000; omega
  have g1 : ¬ (500 : Int) < (strB l).size := by rw [strB_size]; omega
  have g2 : ¬ (500 : Int) < (strB m).size := by rw [strB_size]; omega
  have g1' : (strB l).size ≤ 500 := by rw [strB_size]; omega
  have g3 : ((strB (sealB (sealB l))).size : Int) = ((strB l).size : Int) + 8 := by rw [strB_size, strB_size, sealB_len, sealB_len]; omega
  have g4 : ((strB (sealB l)).toList == (strB (sealB m)).toList) = ((strB l).toList == (strB m).toList) := by
    rw [strB_toList, strB_toList, strB_toList, strB_toList, Bool.eq_iff_iff, beq_iff_eq, beq_iff_eq]
    exact ⟨sealB_inj, fun h => by rw [h]⟩
  clear hl hm
  go_enter Try.func5, Try.ntmps5
  go_wp2_with fail
  (with_reducible refine (sealL l _ HL1.out).mono ?_)
  rintro e w1 ⟨rfl, hB1⟩
  go_wp2_with fail
  (with_reducible refine (sealL (sealB l) _ HL2.out).mono ?_)
  rintro e w2 ⟨rfl, hB2⟩
  go_wp2_with fail
  (with_reducible refine (openL (sealB l) _ HL2.out).mono ?_)
  rintro e w3 ⟨rfl, hB3⟩
  go_wp2_with fail
  (with_reducible refine (openL l _ HL1.out).mono ?_)
  rintro e w4 ⟨rfl, hB4⟩
  go_wp2_with fail
  (with_reducible refine (awake_true _).mono ?_)
  rintro e w5 ⟨rfl, hB5⟩
  go_wp2_with fail
  (with_reducible refine (sealL l _ HL1.out).mono ?_)
  rintro e w6 ⟨rfl, hB6⟩
  go_wp2_with fail
  (with_reducible refine (sealL m _ HM1.out).mono ?_)
  rintro e w7 ⟨rfl, hB7⟩
  go_wp2_with fail
  go_ret
  exact ⟨rfl, below_two (below_two (below_two (below_two (below_two (below_two hB1 hB2) hB3) hB4) hB5) hB6) hB7⟩

set_option maxRecDepth 100000 in
set_option maxHeartbeats 1600000 in
theorem joins_calls (s t : ByteArray) (w : World) : Calls Try.prog 5 #[.string s, .string t] w fun e w' => e = .returned (.bool true) ∧ Below w.heap.size w w' := by
  by_cases h1 : s.size ≤ 500
  · by_cases h2 : t.size ≤ 500
    · have h := joins_few s.data.toList t.data.toList w (by rw [len_data]; exact h1) (by rw [len_data]; exact h2)
      rw [strB_of, strB_of] at h
      exact h
    · have g1 : ¬ (500 : Int) < s.size := by omega
      have g2 : (500 : Int) < t.size := by omega
      go_enter Try.func5, Try.ntmps5
      go_wp2_with fail
      (with_reducible refine (awake_true _).mono ?_)
      rintro e w3 ⟨rfl, hB3⟩
      go_wp2_with fail
      go_ret
      exact ⟨rfl, hB3⟩
  · have g1 : (500 : Int) < s.size := by omega
    go_enter Try.func5, Try.ntmps5
    go_wp2_with fail
    (with_reducible refine (awake_true _).mono ?_)
    rintro e w3 ⟨rfl, hB3⟩
    go_wp2_with fail
    go_ret
    exact ⟨rfl, hB3⟩
end Go.Proofs.Ytpiohpbemijieaa
