/- small: just what it says. No statement is proved here. -/
import Derived.Test.YtnnbbkfdijionaaActs
import Derived.Test.YtnnbbkfdijionaaPlays
namespace Go.Proofs.Ytnnbbkfdijionaa
open Go.RowKit

def smallB (xs : List AK) : Bool := xs.all (fun a => decide (a.data.size ≤ 400)) && decide (xs.length ≤ 60)

set_option maxHeartbeats 1000000 in
theorem small_just (A : Option Addr) (len cap : Nat) (xs : List AK) (w : World) (hR : ActIn w A len xs) (hlm : len ≤ 9223372036854775807) :
    Calls Try.prog 8 #[.slice A len cap] w fun e w' => e = .returned (.bool (smallB xs)) ∧ Below w.heap.size w w' := by
  have HR := Lib.hid hR
  clear hR
  go_enter Try.func8, Try.ntmps8
  go_wp2_with fail
  go_loopw [3] (fun u3 wr => ∃ i : Nat, i ≤ len ∧ u3 = .int .i64 i ∧ (∀ j a, j < i → xs[j]? = some a → a.data.size ≤ 400) ∧ Below w.heap.size w wr) (fun u _ => len - (intOf u).toNat)
  case atStart => exact ⟨0, Nat.zero_le _, rfl, fun j a h => absurd h (by omega), Below.refl _ _⟩
  case round =>
    obtain ⟨i, hi, rfl, hall, hbr⟩ := hrel
    have HALL := Lib.hid hall
    clear hall
    by_cases hlt : i < len
    · obtain ⟨a, ha⟩ : ∃ a, xs[i]? = some a := ⟨_, List.getElem?_eq_getElem (by have := HR.out.1; omega)⟩
      obtain ⟨b, off, rfl, hbl, hcell⟩ := HR.out.2.2 (by omega)
      have hc0 : wr.cell? ⟨b, off + i * 4 + 2, none⟩ = some (.string a.data) := (hbr.cell (p := ⟨b, off + i * 4 + 2, none⟩) hbl).trans (hcell i a ha).2.2.1
      have hi1 : (0 : Int) ≤ (i : Int) := by omega
      have hi2 : (i : Int) < (len : Int) := by omega
      have HA := Lib.hid ha
      clear hcell ha
      by_cases h4 : 400 < a.data.size
      · have hd : decide ((400 : Int) < (a.data.size : Int)) = true := by simp; omega
        have hs : smallB xs = false := by
          unfold smallB
          rw [Bool.and_eq_false_iff]
          left
          rw [List.all_eq_false]
          exact ⟨a, List.mem_of_getElem? HA.out, by simp; omega⟩
        have HS := Lib.hid hs
        clear hs
        go_wp2_with fail
        go_ret
        exact ⟨by rw [HS.out]; rfl, hbr⟩
      · have hd : decide ((400 : Int) < (a.data.size : Int)) = false := by simp; omega
        go_wp2_with fail
        refine ⟨⟨i + 1, by omega, by go_num, fun j x hj hx => ?_, hbr⟩, by simp [intOf]; omega⟩
        by_cases e : j = i
        · subst e
          rw [HA.out] at hx
          injection hx with hx
          subst hx
          omega
        · exact HALL.out j x (by omega) hx
    · have hie : i = len := by omega
      have hnl : decide ((i : Int) < (len : Int)) = false := by simp; omega
      have hs : smallB xs = decide ((len : Int) ≤ 60) := by
        unfold smallB
        have h1 : xs.all (fun a => decide (a.data.size ≤ 400)) = true := by
          rw [List.all_eq_true]
          intro a ha
          obtain ⟨j, hj⟩ := List.getElem?_of_mem ha
          have := HALL.out j a (by have := (List.getElem?_eq_some_iff.1 hj).1; have := HR.out.1; omega) hj
          simpa using this
        rw [h1, Bool.true_and, HR.out.1, Bool.eq_iff_iff, decide_eq_true_iff, decide_eq_true_iff]
        omega
      have HS := Lib.hid hs
      clear hs hie
      go_wp2_with fail
      go_ret
      exact ⟨by rw [HS.out]; rfl, hbr⟩

theorem plays_calls (n : Int) (A0 : Option Addr) (len cap : Nat) (xs : List AK) (w : World) (hR : ActIn w A0 len xs) (hlm : len ≤ 9223372036854775807) :
    Calls Try.prog 3 #[.int .i64 n, .slice A0 len cap] w fun e w' => e = .returned (.bool true) ∧ Below w.heap.size w w' := by
  by_cases hn : 200 < n ∧ n ≤ 2000
  · exact plays_wide n hn.1 hn.2 A0 len cap w
  · cases hs : smallB xs with
    | true =>
      have hl : len ≤ 60 := by
        unfold smallB at hs
        rw [Bool.and_eq_true, decide_eq_true_iff] at hs
        have := hR.1
        omega
      refine plays_few n hn A0 len cap xs w hR hl fun W hb => ?_
      have := small_just A0 len cap xs W (hR.later hb) hlm
      rw [hs] at this
      exact this
    | false =>
      refine plays_many n hn A0 len cap w fun W hb => ?_
      have := small_just A0 len cap xs W (hR.later hb) hlm
      rw [hs] at this
      exact this
end Go.Proofs.Ytnnbbkfdijionaa
