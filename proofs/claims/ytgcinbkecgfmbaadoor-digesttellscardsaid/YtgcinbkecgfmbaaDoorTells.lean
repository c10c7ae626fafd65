/- DigestTells: the walk. No statement is proved here. -/
import Derived.Test.YtgcinbkecgfmbaaDoorAwake
import Derived.Test.YtgcinbkecgfmbaaDoorCame
namespace Go.Proofs.YtgcinbkecgfmbaaDoor
open Go.RowKit

set_option maxHeartbeats 2000000 in
theorem tells_many (s : ByteArray) (A : Option Addr) (len cap : Nat) (ls : List (List UInt8)) (w : World) (hC : Came w A len ls) (h200 : 200 < len) :
    Calls Tryd.prog 3 #[.string s, .slice A len cap] w fun e w' => e = .returned (.bool true) ∧ Below w.heap.size w w' := by
  have HC := Lib.hid hC
  have hmost := hC.most
  clear hC
  have g : (200 : Int) < len := by omega
  go_enter Tryd.func3, Tryd.ntmps3
  go_wp2_with fail
  go_loop [5, 6] (fun vn vi => ∃ (k : Nat) (N : Int), k ≤ len ∧ vi = .int .i64 k ∧ vn = .int .i64 N) (fun _ vi => len - (intOf vi).toNat)
  case atStart => exact ⟨0, 0, Nat.zero_le _, rfl, rfl⟩
  case round =>
    obtain ⟨k, N, hk, rfl, rfl⟩ := hrel
    by_cases h : k < len
    · have g2 : (k : Int) < len := by omega
      obtain ⟨b, off, rfl, hlt, hc⟩ := HC.out.lie (by rw [HC.out.many]; omega)
      have hc' := hc k (by rw [HC.out.many]; omega)
      generalize strB (ls.getD k []) = x at hc'
      clear hc
      go_wp2_with fail
      go_round
      case rel => exact ⟨k + 1, _, by omega, by go_num, rfl⟩
      case measure => simp [intOf]; omega
    · obtain rfl : k = len := by omega
      by_cases h3 : (3000 : Int) < s.size
      · go_wp2_with fail
        (with_reducible refine (awake_true _).mono ?_)
        rintro e w3 ⟨rfl, hB3⟩
        go_wp2_with fail
        go_ret
        exact ⟨rfl, hB3⟩
      · by_cases h4 : 3000 < N
        · go_wp2_with fail
          (with_reducible refine (awake_true _).mono ?_)
          rintro e w3 ⟨rfl, hB3⟩
          go_wp2_with fail
          go_ret
          exact ⟨rfl, hB3⟩
        · go_wp2_with fail
          (with_reducible refine (awake_true _).mono ?_)
          rintro e w3 ⟨rfl, hB3⟩
          go_wp2_with fail
          go_ret
          exact ⟨rfl, hB3⟩

set_option maxRecDepth 100000 in
set_option maxHeartbeats 4000000 in
theorem tells_few (l : List UInt8) (A : Option Addr) (len cap : Nat) (ls : List (List UInt8)) (w : World) (hC : Came w A len ls) (h200 : len ≤ 200) (hp : Pow w) :
    Calls Tryd.prog 3 #[.string (strB l), .slice A len cap] w fun e w' => e = .returned (.bool true) ∧ Below w.heap.size w w' := by
  have HC := Lib.hid hC
  have HP := Lib.hid hp
  have hs := strB_size l
  clear hC hp
  have g : ¬ (200 : Int) < len := by omega
  go_enter Tryd.func3, Tryd.ntmps3
  go_wp2_with fail
  go_loop [5, 6] (fun vn vi => ∃ (k N : Nat), k ≤ len ∧ vi = .int .i64 k ∧ vn = .int .i64 N ∧ Hid (N = (ls.take k).flatten.length)) (fun _ vi => len - (intOf vi).toNat)
  case atStart => exact ⟨0, 0, Nat.zero_le _, rfl, rfl, Lib.hid rfl⟩
  case round =>
    obtain ⟨k, N, hk, rfl, rfl, HN⟩ := hrel
    by_cases h : k < len
    · have g2 : (k : Int) < len := by omega
      have hkl : k < ls.length := by rw [HC.out.many]; exact h
      obtain ⟨b, off, rfl, hlt, hc⟩ := HC.out.lie (by omega)
      have hc' := hc k hkl
      have HF := Lib.hid (flat_take ls k hkl)
      have he := HC.out.each k h
      have hNb : N ≤ 28147497670246400 := by
        have h1 := flat_le ls k (Nat.le_of_lt hkl) (fun j hj => HC.out.each j (by rw [← HC.out.many]; exact hj))
        have h2 : N ≤ k * 140737488351232 := HN.out ▸ h1
        omega
      obtain ⟨x, hx⟩ : ∃ x, x = ls.getD k [] := ⟨_, rfl⟩
      rw [← hx] at hc' HF he
      have hxs := strB_size x
      clear hc hx
      go_wp2_with fail
      go_round
      case rel => exact ⟨k + 1, N + x.length, by omega, by go_num, by go_num, Lib.hid (by rw [HF.out, List.length_append, ← HN.out])⟩
      case measure => simp [intOf]; omega
    · obtain rfl : k = len := by omega
      have HN' : Hid (N = ls.flatten.length) := Lib.hid (by have := HN.out; rwa [← HC.out.many, List.take_length] at this)
      by_cases h3 : l.length ≤ 3000
      · by_cases h4 : N ≤ 3000
        · have g3 : ¬ (3000 : Int) < l.length := by omega
          have g4 : ¬ (3000 : Int) < N := by omega
          go_wp2_with fail
          (with_reducible refine (awake_true _).mono ?_)
          rintro e w1 ⟨rfl, hB⟩
          have B1 := Lib.hid hB
          clear hB
          go_wp2_with fail
          (with_reducible refine (sum_calls l _ (by omega)).mono ?_)
          rintro e w2 ⟨rfl, hB⟩
          have B2 := Lib.hid (two_below B1.out hB)
          clear hB B1
          go_wp2_with fail
          (with_reducible refine (rsum_calls l _ (by omega)).mono ?_)
          rintro e w3 ⟨rfl, rfl⟩
          go_wp2_with fail
          (with_reducible refine (tag_calls l _ (by omega)).mono ?_)
          rintro e w4 ⟨rfl, hB⟩
          have B4 := Lib.hid (two_below B2.out hB)
          clear hB B2
          go_wp2_with fail
          (with_reducible refine (rtag_calls l _ (by omega)).mono ?_)
          rintro e w5 ⟨rfl, rfl⟩
          go_wp2_with fail
          (with_reducible refine (joined_calls A k cap ls _ (HC.out.lie.below B4.out) HC.out.many (by omega) (by rw [← HN'.out]; omega) (fun _ => HP.out.below B4.out)).mono ?_)
          rintro e w6 ⟨rfl, hB⟩
          have B6 := Lib.hid (two_below B4.out hB)
          clear hB B4
          go_wp2_with fail
          (with_reducible refine (rjoined_calls A k cap ls _ (HC.out.lie.below B6.out) HC.out.many (by omega) (by rw [← HN'.out]; omega)).mono ?_)
          rintro e w7 ⟨rfl, rfl⟩
          go_wp2_with fail
          go_ret
          exact ⟨by simp, B6.out⟩
        · have g3 : ¬ (3000 : Int) < l.length := by omega
          have g4 : (3000 : Int) < N := by omega
          go_wp2_with fail
          (with_reducible refine (awake_true _).mono ?_)
          rintro e w3 ⟨rfl, hB3⟩
          go_wp2_with fail
          go_ret
          exact ⟨rfl, hB3⟩
      · have g3 : (3000 : Int) < l.length := by omega
        go_wp2_with fail
        (with_reducible refine (awake_true _).mono ?_)
        rintro e w3 ⟨rfl, hB3⟩
        go_wp2_with fail
        go_ret
        exact ⟨rfl, hB3⟩

theorem tells_calls (s : ByteArray) (A : Option Addr) (len cap : Nat) (ls : List (List UInt8)) (w : World) (hC : Came w A len ls) (hp : Pow w) :
    Calls Tryd.prog 3 #[.string s, .slice A len cap] w fun e w' => e = .returned (.bool true) ∧ Below w.heap.size w w' := by
  by_cases h : len ≤ 200
  · have := tells_few s.data.toList A len cap ls w hC h hp
    rwa [strB_of] at this
  · exact tells_many s A len cap ls w hC (by omega)
end Go.Proofs.YtgcinbkecgfmbaaDoor
