/- Joined, and the document's num and Joined: what each call does. No statement is proved here. -/
import Derived.Test.YtgcinbkecgfmbaaDoorTag
import Derived.Test.YtgcinbkecgfmbaaDoorShelf
import Derived.Lib.SmallJoins
import Derived.Sort.Grow
namespace Go.Proofs.YtgcinbkecgfmbaaDoor
open Go.RowKit

/-- The library's table of powers of ten is as it was laid. -/
def Pow (w : World) : Prop := Lib.TabIs Tryd.prog w "internal/strconv.uint64pow10" .u64 Lib.pow10Tab
theorem pow_at : Tryd.prog.globalNamed "internal/strconv.uint64pow10" = some 0 := by kernel_rfl
theorem Pow.below {w w' : World} (h : Pow w) (hb : Below w.heap.size w w') : Pow w' := Go.Joins.tab_stays pow_at h hb (Nat.le_refl _)
theorem below_grow (w : World) (k : Nat) (os : Array Obj) : Below w.heap.size w (Go.Sort.grow (w.drewN k) os) :=
  ⟨rfl, rfl, rfl, by simp [Go.Sort.grow, World.drewN], fun i hi => by simp [Go.Sort.grow, World.drewN, Array.getElem?_append, hi]⟩

theorem itoa_calls (n : Nat) (w : World) (hn : n ≤ 1000) (hp : 100 ≤ n → Pow w) :
    Calls Tryd.prog 15 #[.int .i64 (n : Nat)] w fun e w' => e = .returned (.string (strB (Lib.decDigits n))) ∧ Below w.heap.size w w' := by
  by_cases h : n < 100
  · refine (Tryd.strconv_Itoa_small n h w).mono ?_
    rintro e w' ⟨rfl, rfl⟩
    exact ⟨rfl, Below.refl _ _⟩
  · refine (Tryd.strconv_Itoa (n : Int) (by omega) (by omega) w (hp (by omega))).mono ?_
    rintro e w' ⟨rfl, k, os, rfl⟩
    refine ⟨?_, below_grow w k os⟩
    unfold Lib.itoa
    rw [if_neg (by omega)]
    rfl

theorem dec_len (n : Nat) (h : n ≤ 1000) : (Lib.decDigits n).length ≤ 4 := by
  have one : ∀ k, k < 10 → (Lib.decDigits k).length = 1 := fun k hk => by rw [Lib.decDigits_one hk]; rfl
  have two : ∀ k, k < 100 → (Lib.decDigits k).length ≤ 2 := fun k hk => by
    by_cases h : k < 10
    · rw [one k h]; omega
    · rw [dec_more h, List.length_append, one _ (by omega)]; simp
  have three : ∀ k, k < 1000 → (Lib.decDigits k).length ≤ 3 := fun k hk => by
    by_cases h : k < 10
    · rw [one k h]; omega
    · rw [dec_more h, List.length_append]
      have := two (k / 10) (by omega)
      simp only [List.length_cons, List.length_nil]
      omega
  by_cases h1 : n < 1000
  · have := three n h1; omega
  · rw [dec_more (by omega), List.length_append]
    have := three (n / 10) (by omega)
    simp only [List.length_cons, List.length_nil]
    omega

set_option maxHeartbeats 1000000 in
theorem num_calls (n : Nat) (w : World) (hn : n ≤ 1000) :
    Calls Tryd.prog 16 #[.int .i64 (n : Nat)] w fun e w' => e = .returned (.string (strB (Lib.decDigits n))) ∧ w' = w := by
  induction n using Nat.strongRecOn generalizing w with
  | _ n ih =>
    by_cases h : n < 10
    · have hr := digit_run n h
      have HD := Lib.hid (dec_one h)
      have g : (n : Int) < 10 := by omega
      clear ih
      go_enter Tryd.func16, Tryd.ntmps16
      go_wp2_with fail
      go_ret
      exact ⟨ret_str (by rw [HD.out]), rfl⟩
    · have HI := Lib.hid (fun w => ih (n / 10) (by omega) w (by omega))
      have HD := Lib.hid (dec_snoc h)
      have g : ¬ (n : Int) < 10 := by omega
      obtain ⟨q, hq⟩ : ∃ q, q = n / 10 := ⟨_, rfl⟩
      obtain ⟨d, hd⟩ : ∃ d, d = n % 10 := ⟨_, rfl⟩
      have hqi : (n : Int) / 10 = (q : Nat) := by omega
      have hdi : (n : Int) % 10 = (d : Nat) := by omega
      have hd10 : d < 10 := by omega
      have hq100 : q ≤ 100 := by omega
      have hr := digit_run d hd10
      have hl := dec_len q (by omega)
      have hz : ¬ 9223372036854775807 < (strB (Lib.decDigits q)).size + (strB [dgt d]).size := by rw [strB_size, strB_size]; simp only [List.length_cons, List.length_nil]; omega
      have HA := Lib.hid (strB_append (Lib.decDigits q) [dgt d])
      rw [← hq, ← hd] at HD
      rw [← hq] at HI
      clear ih hq hd
      go_enter Tryd.func16, Tryd.ntmps16
      go_wp2_with fail
      (with_reducible refine (HI.out _).mono ?_)
      rintro e w1 ⟨rfl, rfl⟩
      go_wp2_with fail
      go_ret
      exact ⟨ret_str (by rw [HD.out]; exact HA.out), rfl⟩

theorem dash (l : List UInt8) : strB l ++ (⟨#[45]⟩ : ByteArray) = strB (l ++ [45]) := strB_append l [45]
theorem joinL_is (ls : List (List UInt8)) : joinL ls = (tagL ls.flatten ++ [45]) ++ Lib.decDigits ls.length := by unfold joinL; simp

set_option maxHeartbeats 1000000 in
theorem joined_calls (A : Option Addr) (n cap : Nat) (ls : List (List UInt8)) (w : World) (hA : StrsIn w A ls) (hln : ls.length = n) (hn : n ≤ 1000) (hL : ls.flatten.length ≤ 100000) (hp : 100 ≤ n → Pow w) :
    Calls Tryd.prog 11 #[.slice A n cap] w fun e w' => e = .returned (.string (strB (joinL ls))) ∧ Below w.heap.size w w' := by
  have HA := Lib.hid hA
  have HP := Lib.hid hp
  have ht := tagN_len (sumL ls.flatten)
  have hd := dec_len n hn
  have hz : ¬ 9223372036854775807 < (strB (tagN (sumL ls.flatten))).size + (⟨#[45]⟩ : ByteArray).size := by rw [strB_size]; show ¬ 9223372036854775807 < _ + 1; omega
  have ha := dash (tagN (sumL ls.flatten))
  have hz2 : ¬ 9223372036854775807 < (strB (tagN (sumL ls.flatten) ++ [45])).size + (strB (Lib.decDigits n)).size := by rw [strB_size, strB_size, List.length_append]; simp only [List.length_cons, List.length_nil]; omega
  have HE : Hid (strB (tagN (sumL ls.flatten) ++ [45]) ++ strB (Lib.decDigits n) = strB (joinL ls)) := Lib.hid (by rw [joinL_is, hln, strB_append]; rfl)
  clear hA hp
  go_enter Tryd.func11, Tryd.ntmps11
  go_wp2_with fail
  (with_reducible refine (sumOf_calls A n cap ls _ HA.out hln (by omega) hL).mono ?_)
  rintro e w1 ⟨rfl, hB1⟩
  have HB1 := Lib.hid hB1
  clear hB1
  go_wp2_with fail
  (with_reducible refine (written_calls (sumL ls.flatten) _ (sumL_lt _)).mono ?_)
  rintro e w2 ⟨rfl, hB2⟩
  have HB2 := Lib.hid (two_below HB1.out hB2)
  clear hB2 HB1
  go_wp2_with fail
  (with_reducible refine (itoa_calls n _ hn (fun h => (HP.out h).below HB2.out)).mono ?_)
  rintro e w3 ⟨rfl, hB3⟩
  have HB3 := Lib.hid (two_below HB2.out hB3)
  clear hB3 HB2
  go_wp2_with fail
  go_ret
  exact ⟨ret_str HE.out, HB3.out⟩

set_option maxHeartbeats 1000000 in
theorem rjoined_calls (A : Option Addr) (n cap : Nat) (ls : List (List UInt8)) (w : World) (hA : StrsIn w A ls) (hln : ls.length = n) (hn : n ≤ 1000) (hL : ls.flatten.length ≤ 100000) :
    Calls Tryd.prog 12 #[.slice A n cap] w fun e w' => e = .returned (.string (strB (joinL ls))) ∧ w' = w := by
  have HA := Lib.hid hA
  have ht := tagL_len ls.flatten
  have hd := dec_len n hn
  have hz : ¬ 9223372036854775807 < (strB (tagL ls.flatten)).size + (⟨#[45]⟩ : ByteArray).size := by rw [strB_size]; show ¬ 9223372036854775807 < _ + 1; omega
  have ha := dash (tagL ls.flatten)
  have hz2 : ¬ 9223372036854775807 < (strB (tagL ls.flatten ++ [45])).size + (strB (Lib.decDigits n)).size := by rw [strB_size, strB_size, List.length_append]; simp only [List.length_cons, List.length_nil]; omega
  have HE : Hid (strB (tagL ls.flatten ++ [45]) ++ strB (Lib.decDigits n) = strB (joinL ls)) := Lib.hid (by rw [joinL_is, hln, strB_append])
  clear hA
  subst hln
  go_enter Tryd.func12, Tryd.ntmps12
  go_wp2_with fail
  go_loop [3, 4] (fun vs vi => ∃ k : Nat, k ≤ ls.length ∧ vi = .int .i64 k ∧ vs = .string (strB (ls.take k).flatten)) (fun _ vi => ls.length - (intOf vi).toNat)
  case atStart => exact ⟨0, Nat.zero_le _, rfl, rfl⟩
  case round =>
    obtain ⟨k, hk, rfl, rfl⟩ := hrel
    by_cases h : k < ls.length
    · have g : (k : Int) < ls.length := by omega
      obtain ⟨b, off, rfl, hlt, hc⟩ := HA.out (by omega)
      have hc' := hc k h
      have HF := Lib.hid (flat_take ls k h)
      have hfl : ((ls.take k).flatten).length + (ls.getD k []).length ≤ 100000 := by
        have h1 := congrArg List.length HF.out
        rw [List.length_append] at h1
        have h2 : (ls.take (k + 1)).flatten.length ≤ ls.flatten.length := by
          conv => rhs; rw [← List.take_append_drop (k + 1) ls, List.flatten_append, List.length_append]
          omega
        omega
      obtain ⟨x, hx⟩ : ∃ x, x = ls.getD k [] := ⟨_, rfl⟩
      obtain ⟨y, hy⟩ : ∃ y, y = (ls.take k).flatten := ⟨_, rfl⟩
      rw [← hx] at hc' HF hfl
      rw [← hy] at HF hfl ⊢
      have hz3 : ¬ 9223372036854775807 < (strB y).size + (strB x).size := by rw [strB_size, strB_size]; omega
      have HS := Lib.hid (strB_append y x)
      clear hx hy hc
      go_wp2_with fail
      go_round
      case rel => exact ⟨k + 1, by omega, by go_num, by rw [HF.out, HS.out]⟩
      case measure => simp [intOf]; omega
    · obtain rfl : k = ls.length := by omega
      rw [List.take_length]
      go_wp2_with fail
      (with_reducible refine (rtag_calls ls.flatten _ hL).mono ?_)
      rintro e w1 ⟨rfl, rfl⟩
      go_wp2_with fail
      (with_reducible refine (num_calls ls.length _ hn).mono ?_)
      rintro e w2 ⟨rfl, rfl⟩
      go_wp2_with fail
      go_ret
      exact ⟨ret_str HE.out, rfl⟩
end Go.Proofs.YtgcinbkecgfmbaaDoor
