/- (*Tape).number: what each call does. No statement is proved here. -/
import Derived.Test.YtibgimlfhpjeeaaWTape
namespace Go.Proofs.Ytibgimlfhpjeeaa.Wire
open Go.RowKit

theorem i64_or_nat (a b : Nat) (ha : a < 9223372036854775808) (hb : b < 9223372036854775808) : bits .or .i64 (a : Int) (b : Int) = ((a ||| b : Nat) : Int) := by
  have hx : a ||| b < 2 ^ 63 := Nat.or_lt_two_pow (by omega) (by omega)
  show IntKind.i64.wrap ((BitVec.ofInt 64 (a : Int) ||| BitVec.ofInt 64 (b : Int)).toNat : Int) = _
  rw [BitVec.toNat_or, ofInt_u64 a (by omega), ofInt_u64 b (by omega)]
  simp [IntKind.wrap, IntKind.bits, IntKind.signed]
  omega

theorem or_byte (x : Nat) (c : UInt8) (h : x < 16777216) : bits .or .i64 ((x : Int) * 256) (c.toNat : Int) = ((x * 256 + c.toNat : Nat) : Int) := by
  have hc := c.toNat_lt
  have h1 := i64_or_nat (x * 256) c.toNat (by omega) (by omega)
  have h2 : x * 256 ||| c.toNat = x * 256 + c.toNat := by
    have := Nat.two_pow_add_eq_or_of_lt (i := 8) (b := c.toNat) (by omega) x
    simp only [Nat.reducePow] at this
    rw [Nat.mul_comm, this]
  rw [h2] at h1
  rw [← h1]
  simp

theorem numL_step (s : List UInt8) (j : Nat) (h : j < s.length) : numL (s.take (j + 1)) = numL (s.take j) * 256 + s[j].toNat := by
  rw [List.take_succ_eq_append_getElem h, numL_snoc]

theorem numL_small (s : List UInt8) (j : Nat) (h : j < 4) : numL (s.take j) < 16777216 := by
  have h1 := numL_lt (s.take j)
  have h2 : 256 ^ (s.take j).length ≤ 256 ^ 3 := Nat.pow_le_pow_right (by omega) (by simp; omega)
  omega

theorem ret_num {x y : Nat} {p q : Bool} (h : y = x) (h2 : p = q) : Ending.returned (.tuple #[.int .i64 (x : Nat), .bool p]) = .returned (.tuple #[.int .i64 (y : Nat), .bool q]) := by rw [h, h2]

set_option maxHeartbeats 1000000 in
theorem number_no (b k : Nat) (low high : Int) (t : TK) (w : World) (ht : TP 47 w b t) (hg : good k t = false) :
    Calls Try.prog 38 #[.pointer (some ⟨b, 0, none⟩), .int .i64 k, .int .i64 low, .int .i64 high] w fun e w' => e = .returned (.tuple #[.int .i64 0, .bool false]) ∧ TP 47 w' b (takeS k t) ∧ But b w w' := by
  go_enter Try.func38, Try.ntmps38
  go_wp2_with fail
  (with_reducible refine (take_calls b k t _ ht).mono ?_)
  rintro e w1 ⟨rfl, hT, hB⟩
  have HT := Lib.hid hT
  clear ht hT
  go_wp2_with fail
  go_ret2
  exact ⟨rfl, HT.out, hB⟩

set_option maxRecDepth 100000 in
set_option maxHeartbeats 1600000 in
theorem number_yes (b k : Nat) (low high : Int) (l : List UInt8) (w : World) (ht : TP 47 w b ⟨l, false⟩) (hk : k ≤ l.length) (hk4 : k ≤ 4) :
    Calls Try.prog 38 #[.pointer (some ⟨b, 0, none⟩), .int .i64 k, .int .i64 low, .int .i64 high] w fun e w' => e = .returned (.tuple #[.int .i64 (numV k low high ⟨l, false⟩ : Nat), .bool (inside k low high ⟨l, false⟩)]) ∧ TP 47 w' b (numS k low high ⟨l, false⟩) ∧ But b w w' := by
  go_enter Try.func38, Try.ntmps38
  go_wp2_with fail
  (with_reducible refine (take_good b k l _ ht hk).mono ?_)
  rintro e w1 ⟨rfl, hw1⟩
  have HT : Hid (TP 47 w1 b ⟨l.drop k, false⟩) := by rw [hw1]; exact ht.setRest _
  have HB : Hid (But b w w1) := by rw [hw1]; exact (But.refl _ _).setCell _ _
  have hfr := HT.out.free 1
  have hcb := HT.out.bad
  have hlen : (strB (l.take k)).size = k := by rw [strB_size, List.length_take]; omega
  have HL : Hid ((l.take k).length = k) := by show (l.take k).length = k; rw [List.length_take]; omega
  have HV : Hid (∀ x, x = inside k low high ⟨l, false⟩ → numS k low high ⟨l, false⟩ = ⟨l.drop k, !x⟩) := by
    rintro x rfl
    unfold numS
    rw [good_yes hk, if_pos rfl]
  have HI : Hid (inside k low high ⟨l, false⟩ = (decide (low ≤ (numL (l.take k) : Int)) && decide ((numL (l.take k) : Int) ≤ high))) := by
    show inside k low high ⟨l, false⟩ = _
    unfold inside
    rw [good_yes hk, Bool.true_and]
  have HN : Hid (numV k low high ⟨l, false⟩ = if inside k low high ⟨l, false⟩ then numL (l.take k) else 0) := rfl
  clear ht hk hw1
  generalize l.take k = s at *
  go_wp2_with fail
  go_loop [12, 24] (fun n i => ∃ j : Nat, j ≤ k ∧ i = .int .i64 j ∧ n = .int .i64 (numL (s.take j) : Nat)) (fun _ i => k - (intOf i).toNat)
  case atStart => exact ⟨0, Nat.zero_le _, rfl, rfl⟩
  case round =>
    obtain ⟨j, hj, rfl, rfl⟩ := hrel
    by_cases h : j < k
    · have hjs : j < s.length := by rw [HL.out]; exact h
      have HS := Lib.hid (numL_step s j hjs)
      have hsm := numL_small s j (by omega)
      have hor := or_byte (numL (s.take j)) s[j] hsm
      have hc : s[j].toNat < 256 := s[j].toNat_lt
      have hat : ∀ h', (strB s)[j]'h' = s[j] := fun _ => rfl
      generalize numL (s.take j) = x at *
      go_wp2_with fail
      go_round
      case rel => exact ⟨j + 1, by omega, by go_num, by rw [HS.out]; exact congrArg (Value.int .i64) hor⟩
      case measure => simp [intOf]; omega
    · obtain rfl : j = k := by omega
      have HE : Hid (s.take j = s) := List.take_of_length_le (by rw [HL.out]; exact Nat.le_refl _)
      rw [HE.out]
      generalize numL s = x at *
      by_cases h1 : (x : Int) < low
      · have hi : inside j low high ⟨l, false⟩ = false := by rw [HI.out, decide_eq_false (by omega), Bool.false_and]
        go_wp2_with fail
        go_ret2
        exact ⟨ret_num (by rw [HN.out, hi]; rfl) rfl, by rw [HV.out false hi.symm]; exact HT.out.setBad _, HB.out.setCell _ _⟩
      · by_cases h2 : high < (x : Int)
        · have hi : inside j low high ⟨l, false⟩ = false := by rw [HI.out, decide_eq_false (p := (x : Int) ≤ high) (by omega), Bool.and_false]
          go_wp2_with fail
          go_ret2
          exact ⟨ret_num (by rw [HN.out, hi]; rfl) rfl, by rw [HV.out false hi.symm]; exact HT.out.setBad _, HB.out.setCell _ _⟩
        · have hi : inside j low high ⟨l, false⟩ = true := by rw [HI.out, decide_eq_true (by omega), decide_eq_true (by omega)]; rfl
          go_wp2_with fail
          go_ret2
          exact ⟨ret_num (by rw [HN.out, hi]; rfl) rfl, by rw [HV.out true hi.symm]; exact HT.out, HB.out⟩

theorem number_calls (b k : Nat) (low high : Int) (t : TK) (w : World) (ht : TP 47 w b t) (hk4 : k ≤ 4) :
    Calls Try.prog 38 #[.pointer (some ⟨b, 0, none⟩), .int .i64 k, .int .i64 low, .int .i64 high] w fun e w' => e = .returned (.tuple #[.int .i64 (numV k low high t : Nat), .bool (inside k low high t)]) ∧ TP 47 w' b (numS k low high t) ∧ But b w w' := by
  cases hg : good k t with
  | false =>
    refine (number_no b k low high t w ht hg).mono ?_
    rintro e w' ⟨rfl, hT, hB⟩
    have hi : inside k low high t = false := by unfold inside; rw [hg]; rfl
    refine ⟨?_, ?_, hB⟩
    · unfold numV; rw [hi]; rfl
    · unfold numS; unfold takeS at hT; rw [hg] at hT ⊢; exact hT
  | true =>
    obtain ⟨l, bad⟩ := t
    cases bad with
    | true => cases hg
    | false => exact number_yes b k low high l w ht (by simpa [good] using hg) hk4

theorem number2 (b : Nat) (low high : Int) (t : TK) (w : World) (ht : TP 47 w b t) :
    Calls Try.prog 38 #[.pointer (some ⟨b, 0, none⟩), .int .i64 2, .int .i64 low, .int .i64 high] w fun e w' => e = .returned (.tuple #[.int .i64 (numV 2 low high t : Nat), .bool (inside 2 low high t)]) ∧ TP 47 w' b (numS 2 low high t) ∧ But b w w' :=
  number_calls b 2 low high t w ht (by omega)
theorem number4 (b : Nat) (low high : Int) (t : TK) (w : World) (ht : TP 47 w b t) :
    Calls Try.prog 38 #[.pointer (some ⟨b, 0, none⟩), .int .i64 4, .int .i64 low, .int .i64 high] w fun e w' => e = .returned (.tuple #[.int .i64 (numV 4 low high t : Nat), .bool (inside 4 low high t)]) ∧ TP 47 w' b (numS 4 low high t) ∧ But b w w' :=
  number_calls b 4 low high t w ht (by omega)

set_option maxHeartbeats 1000000 in
theorem ttwo_calls (b : Nat) (low high : Int) (t : TK) (w : World) (ht : TP 47 w b t) :
    Calls Try.prog 27 #[.pointer (some ⟨b, 0, none⟩), .int .i64 low, .int .i64 high] w fun e w' => e = .returned (.int .i64 (numV 2 low high t : Nat)) ∧ TP 47 w' b (numS 2 low high t) ∧ But b w w' := by
  go_enter Try.func27, Try.ntmps27
  go_wp2_with fail
  (with_reducible refine (number2 b low high t _ ht).mono ?_)
  rintro e w1 ⟨rfl, hT, hB⟩
  have HT := Lib.hid hT
  have HB := Lib.hid hB
  clear ht hT hB
  go_wp2_with fail
  go_ret
  exact ⟨rfl, HT.out, HB.out⟩

end Go.Proofs.Ytibgimlfhpjeeaa.Wire
