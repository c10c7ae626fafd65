/- The document's Right and Ordered: what each call does. No statement is proved here. -/
import Derived.Test.YtgnhjcgegibpdaaOrd
namespace Go.Proofs.Ytgnhjcgegibpdaa
open Go.RowKit
open Go.Sort (grow)

theorem right_key {x : It} (h : keyOK x.key = false) : rightB x = false := by unfold rightB; rw [h, Bool.false_and]
theorem right_num {x : It} (h : numOK x = false) : rightB x = false := by unfold rightB; rw [h, Bool.false_and, Bool.and_false]
theorem right_fill {x : It} (h : fillOK x = false) : rightB x = false := by unfold rightB; rw [h, Bool.and_false, Bool.and_false]
theorem num_low {x : It} (h : x.seq < 1) : numOK x = false := by unfold numOK; rw [decide_eq_false (by omega), Bool.false_and]
theorem num_high {x : It} (h : 2147483648 ≤ x.seq) : numOK x = false := by unfold numOK; rw [decide_eq_false (p := x.seq ≤ 2147483647) (by omega), Bool.false_and, Bool.and_false]
theorem num_ver {x : It} (h : ¬ x.ver = 0) (h2 : ¬ x.ver = x.seq) : numOK x = false := by unfold numOK; rw [decide_eq_false h, decide_eq_false h2, Bool.or_false, Bool.and_false, Bool.and_false]
theorem num_good {x : It} (h1 : ¬ x.seq < 1) (h2 : ¬ 2147483648 ≤ x.seq) (h : x.ver = 0 ∨ x.ver = x.seq) : numOK x = true := by
  unfold numOK
  rw [decide_eq_true (by omega), decide_eq_true (by omega), Bool.true_and, Bool.true_and, Bool.or_eq_true, decide_eq_true_iff, decide_eq_true_iff]
  exact h
theorem not_empty {l : List UInt8} (h : 0 < l.length) : l.isEmpty = false := by cases l <;> simp_all
theorem fill_mt {x : It} (h : 40 < x.mt.length) : fillOK x = false := by
  unfold fillOK
  rw [not_empty (l := x.mt) (by omega), Bool.false_and, decide_eq_false (by omega), Bool.false_and]
  simp
theorem fill_tag {x : It} (h : 24 < x.tag.length) : fillOK x = false := by
  unfold fillOK
  rw [not_empty (l := x.tag) (by omega), decide_eq_false (p := x.tag.length ≤ 24) (by omega)]
  simp
theorem fill_body {x : It} (h : 1500 < x.body.length) : fillOK x = false := by
  unfold fillOK
  rw [not_empty (l := x.body) (by omega), decide_eq_false (p := x.body.length ≤ 1500) (by omega)]
  simp
theorem fill_mark {x : It} (h : x.mark = true) : fillOK x = (x.mt.isEmpty && (x.tag.isEmpty && x.body.isEmpty)) := by unfold fillOK; rw [h, if_pos rfl]
theorem fill_plain {x : It} (h : x.mark = false) (h1 : ¬ 40 < x.mt.length) (h2 : ¬ 24 < x.tag.length) (h3 : ¬ 1500 < x.body.length) : fillOK x = decide (16 ≤ x.tag.length) := by
  unfold fillOK
  rw [h, if_neg (by simp), decide_eq_true (p := x.mt.length ≤ 40) (by omega), decide_eq_true (p := x.tag.length ≤ 24) (by omega), decide_eq_true (p := x.body.length ≤ 1500) (by omega)]
  simp
theorem right_good {x : It} (h1 : keyOK x.key = true) (h2 : numOK x = true) : rightB x = fillOK x := by unfold rightB; rw [h1, h2, Bool.true_and, Bool.true_and]

set_option maxRecDepth 100000 in
set_option maxHeartbeats 8000000 in
theorem rright_calls (x : It) (w : World) (hL : x.key.length ≤ 2500) :
    Calls Try.prog 10 #[itV x] w fun e w' => e = .returned (.bool (rightB x)) ∧ Below w.heap.size w w' := by
  unfold itV
  have e4 := strB_toList x.mt
  have e5 := strB_toList x.tag
  have e6 := strB_toList x.body
  have s4 := strB_size x.mt
  have s5 := strB_size x.tag
  have s6 := strB_size x.body
  cases hk : keyOK x.key with
  | false =>
    have HR := Lib.hid (right_key hk)
    go_enter Try.func10, Try.ntmps10
    go_wp2_with fail
    (with_reducible refine (rkey_calls x.key _ hL).mono ?_)
    rintro e w1 ⟨rfl, rfl⟩
    rw [hk]
    go_wp2_with fail
    go_ret
    exact ⟨ret_bool HR.out.symm, below_one _ _⟩
  | true =>
    by_cases h1 : x.seq < 1
    · have HR := Lib.hid (right_num (num_low h1))
      go_enter Try.func10, Try.ntmps10
      go_wp2_with fail
      (with_reducible refine (rkey_calls x.key _ hL).mono ?_)
      rintro e w1 ⟨rfl, rfl⟩
      rw [hk]
      go_wp2_with fail
      go_ret
      exact ⟨ret_bool HR.out.symm, below_one _ _⟩
    · by_cases h2 : 2147483648 ≤ x.seq
      · have HR := Lib.hid (right_num (num_high h2))
        go_enter Try.func10, Try.ntmps10
        go_wp2_with fail
        (with_reducible refine (rkey_calls x.key _ hL).mono ?_)
        rintro e w1 ⟨rfl, rfl⟩
        rw [hk]
        go_wp2_with fail
        go_ret
        exact ⟨ret_bool HR.out.symm, below_one _ _⟩
      · by_cases h3 : x.ver = 0
        · have d3 : (x.ver == 0) = true := by simpa using h3
          have HNG := Lib.hid (num_good h1 h2 (Or.inl h3))
          by_cases h4 : 40 < x.mt.length
          · have g4 : (40 : Int) < (x.mt.length : Int) := by omega
            have HR := Lib.hid (right_fill (fill_mt h4))
            go_enter Try.func10, Try.ntmps10
            go_wp2_with fail
            (with_reducible refine (rkey_calls x.key _ hL).mono ?_)
            rintro e w1 ⟨rfl, rfl⟩
            rw [hk]
            go_wp2_with fail
            go_ret
            exact ⟨ret_bool HR.out.symm, below_one _ _⟩
          · have g4 : ¬ (40 : Int) < (x.mt.length : Int) := by omega
            by_cases h6 : 1500 < x.body.length
            · have g6 : (1500 : Int) < (x.body.length : Int) := by omega
              have HR := Lib.hid (right_fill (fill_body h6))
              go_enter Try.func10, Try.ntmps10
              go_wp2_with fail
              (with_reducible refine (rkey_calls x.key _ hL).mono ?_)
              rintro e w1 ⟨rfl, rfl⟩
              rw [hk]
              go_wp2_with fail
              go_ret
              exact ⟨ret_bool HR.out.symm, below_one _ _⟩
            · have g6 : ¬ (1500 : Int) < (x.body.length : Int) := by omega
              by_cases h5 : 24 < x.tag.length
              · have g5 : (24 : Int) < (x.tag.length : Int) := by omega
                have HR := Lib.hid (right_fill (fill_tag h5))
                go_enter Try.func10, Try.ntmps10
                go_wp2_with fail
                (with_reducible refine (rkey_calls x.key _ hL).mono ?_)
                rintro e w1 ⟨rfl, rfl⟩
                rw [hk]
                go_wp2_with fail
                go_ret
                exact ⟨ret_bool HR.out.symm, below_one _ _⟩
              · have g5 : ¬ (24 : Int) < (x.tag.length : Int) := by omega
                cases hm : x.mark with
                | true =>
                  have HM := Lib.hid ((right_good hk HNG.out).trans (fill_mark hm))
                  cases k4 : x.mt.isEmpty with
                  | false =>
                    have HR := Lib.hid (HM.out.trans (by rw [k4, Bool.false_and] : _ = false))
                    go_enter Try.func10, Try.ntmps10
                    go_wp2_with fail
                    (with_reducible refine (rkey_calls x.key _ hL).mono ?_)
                    rintro e w1 ⟨rfl, rfl⟩
                    rw [hk]
                    go_wp2_with fail
                    go_ret
                    exact ⟨ret_bool HR.out.symm, below_one _ _⟩
                  | true =>
                    cases k5 : x.tag.isEmpty with
                    | false =>
                      have HR := Lib.hid (HM.out.trans (by rw [k4, k5, Bool.false_and, Bool.and_false] : _ = false))
                      go_enter Try.func10, Try.ntmps10
                      go_wp2_with fail
                      (with_reducible refine (rkey_calls x.key _ hL).mono ?_)
                      rintro e w1 ⟨rfl, rfl⟩
                      rw [hk]
                      go_wp2_with fail
                      go_ret
                      exact ⟨ret_bool HR.out.symm, below_one _ _⟩
                    | true =>
                      have HR := Lib.hid (HM.out.trans (by rw [k4, k5, Bool.true_and, Bool.true_and] : _ = x.body.isEmpty))
                      go_enter Try.func10, Try.ntmps10
                      go_wp2_with fail
                      (with_reducible refine (rkey_calls x.key _ hL).mono ?_)
                      rintro e w1 ⟨rfl, rfl⟩
                      rw [hk]
                      go_wp2_with fail
                      go_ret
                      exact ⟨ret_bool HR.out.symm, below_one _ _⟩
                | false =>
                  have HR := Lib.hid ((right_good hk HNG.out).trans (fill_plain hm h4 h5 h6))
                  go_enter Try.func10, Try.ntmps10
                  go_wp2_with fail
                  (with_reducible refine (rkey_calls x.key _ hL).mono ?_)
                  rintro e w1 ⟨rfl, rfl⟩
                  rw [hk]
                  go_wp2_with fail
                  go_ret
                  exact ⟨ret_bool (by rw [HR.out]; simp; omega), below_one _ _⟩
        · have d3 : (x.ver == 0) = false := by simpa using h3
          by_cases h7 : x.ver = x.seq
          · have d7 : (x.ver == x.seq) = true := by simpa using h7
            have HNG := Lib.hid (num_good h1 h2 (Or.inr h7))
            by_cases h4 : 40 < x.mt.length
            · have g4 : (40 : Int) < (x.mt.length : Int) := by omega
              have HR := Lib.hid (right_fill (fill_mt h4))
              go_enter Try.func10, Try.ntmps10
              go_wp2_with fail
              (with_reducible refine (rkey_calls x.key _ hL).mono ?_)
              rintro e w1 ⟨rfl, rfl⟩
              rw [hk]
              go_wp2_with fail
              go_ret
              exact ⟨ret_bool HR.out.symm, below_one _ _⟩
            · have g4 : ¬ (40 : Int) < (x.mt.length : Int) := by omega
              by_cases h6 : 1500 < x.body.length
              · have g6 : (1500 : Int) < (x.body.length : Int) := by omega
                have HR := Lib.hid (right_fill (fill_body h6))
                go_enter Try.func10, Try.ntmps10
                go_wp2_with fail
                (with_reducible refine (rkey_calls x.key _ hL).mono ?_)
                rintro e w1 ⟨rfl, rfl⟩
                rw [hk]
                go_wp2_with fail
                go_ret
                exact ⟨ret_bool HR.out.symm, below_one _ _⟩
              · have g6 : ¬ (1500 : Int) < (x.body.length : Int) := by omega
                by_cases h5 : 24 < x.tag.length
                · have g5 : (24 : Int) < (x.tag.length : Int) := by omega
                  have HR := Lib.hid (right_fill (fill_tag h5))
                  go_enter Try.func10, Try.ntmps10
                  go_wp2_with fail
                  (with_reducible refine (rkey_calls x.key _ hL).mono ?_)
                  rintro e w1 ⟨rfl, rfl⟩
                  rw [hk]
                  go_wp2_with fail
                  go_ret
                  exact ⟨ret_bool HR.out.symm, below_one _ _⟩
                · have g5 : ¬ (24 : Int) < (x.tag.length : Int) := by omega
                  cases hm : x.mark with
                  | true =>
                    have HM := Lib.hid ((right_good hk HNG.out).trans (fill_mark hm))
                    cases k4 : x.mt.isEmpty with
                    | false =>
                      have HR := Lib.hid (HM.out.trans (by rw [k4, Bool.false_and] : _ = false))
                      go_enter Try.func10, Try.ntmps10
                      go_wp2_with fail
                      (with_reducible refine (rkey_calls x.key _ hL).mono ?_)
                      rintro e w1 ⟨rfl, rfl⟩
                      rw [hk]
                      go_wp2_with fail
                      go_ret
                      exact ⟨ret_bool HR.out.symm, below_one _ _⟩
                    | true =>
                      cases k5 : x.tag.isEmpty with
                      | false =>
                        have HR := Lib.hid (HM.out.trans (by rw [k4, k5, Bool.false_and, Bool.and_false] : _ = false))
                        go_enter Try.func10, Try.ntmps10
                        go_wp2_with fail
                        (with_reducible refine (rkey_calls x.key _ hL).mono ?_)
                        rintro e w1 ⟨rfl, rfl⟩
                        rw [hk]
                        go_wp2_with fail
                        go_ret
                        exact ⟨ret_bool HR.out.symm, below_one _ _⟩
                      | true =>
                        have HR := Lib.hid (HM.out.trans (by rw [k4, k5, Bool.true_and, Bool.true_and] : _ = x.body.isEmpty))
                        go_enter Try.func10, Try.ntmps10
                        go_wp2_with fail
                        (with_reducible refine (rkey_calls x.key _ hL).mono ?_)
                        rintro e w1 ⟨rfl, rfl⟩
                        rw [hk]
                        go_wp2_with fail
                        go_ret
                        exact ⟨ret_bool HR.out.symm, below_one _ _⟩
                  | false =>
                    have HR := Lib.hid ((right_good hk HNG.out).trans (fill_plain hm h4 h5 h6))
                    go_enter Try.func10, Try.ntmps10
                    go_wp2_with fail
                    (with_reducible refine (rkey_calls x.key _ hL).mono ?_)
                    rintro e w1 ⟨rfl, rfl⟩
                    rw [hk]
                    go_wp2_with fail
                    go_ret
                    exact ⟨ret_bool (by rw [HR.out]; simp; omega), below_one _ _⟩
          · have d7 : (x.ver == x.seq) = false := by simpa using h7
            have HR := Lib.hid (right_num (num_ver h3 h7))
            go_enter Try.func10, Try.ntmps10
            go_wp2_with fail
            (with_reducible refine (rkey_calls x.key _ hL).mono ?_)
            rintro e w1 ⟨rfl, rfl⟩
            rw [hk]
            go_wp2_with fail
            go_ret
            exact ⟨ret_bool HR.out.symm, below_one _ _⟩

end Go.Proofs.Ytgnhjcgegibpdaa
