/- name.Key and the document's: what each call does. No statement is proved here. -/
import Derived.Test.YtgnhjcgegibpdaaStr
namespace Go.Proofs.Ytgnhjcgegibpdaa
open Go.RowKit

theorem keyOK_nil : keyOK [] = false := rfl
theorem keyOK_long (l : List UInt8) (h : ¬ l.length ≤ 24) : keyOK l = false := by
  unfold keyOK
  rw [decide_eq_false h, Bool.false_and, Bool.and_false]
theorem keyOK_short (l : List UInt8) (h : l.length ≤ 24) (he : l.isEmpty = false) : keyOK l = !decide (0 ≤ Lib.indexByte l 0) := by
  unfold keyOK
  rw [decide_eq_true h, he]
  rfl

set_option maxHeartbeats 1000000 in
theorem key_calls (l : List UInt8) (w : World) :
    Calls Try.prog 23 #[.string (strB l)] w fun e w' => e = .returned (.bool (keyOK l)) ∧ w' = w := by
  have e := strB_toList l
  have hnot : ∀ (x : Bool) (w : World), (Op.unary .not (.bool x)).run Try.prog w = .ok (.bool (!x)) w := fun _ _ => rfl
  by_cases he : l.isEmpty = true
  · obtain rfl : l = [] := List.isEmpty_iff.1 he
    rw [keyOK_nil]
    go_enter Try.func23, Try.ntmps23
    go_wp2_with fail
    go_ret
    exact ⟨rfl, rfl⟩
  · have he' : l.isEmpty = false := Bool.eq_false_iff.2 he
    by_cases h : l.length ≤ 24
    · rw [keyOK_short l h he']
      have g : ((strB l).size : Int) ≤ 24 := by rw [strB_size]; omega
      go_enter Try.func23, Try.ntmps23
      go_wp2_with fail
      (with_reducible refine (contains_calls (strB l) 0 _).mono ?_)
      rintro e w1 ⟨rfl, rfl⟩
      go_wp2_with fail
      go_ret
      exact ⟨rfl, rfl⟩
    · rw [keyOK_long l h]
      have g : ¬ ((strB l).size : Int) ≤ 24 := by rw [strB_size]; omega
      go_enter Try.func23, Try.ntmps23
      go_wp2_with fail
      go_ret
      exact ⟨rfl, rfl⟩

theorem at_strB (l : List UInt8) (k : Nat) (h : k < (strB l).size) : (strB l)[k] = l.getD k 0 := by
  rw [strB_size] at h
  rw [List.getD_eq_getElem?_getD, List.getElem?_eq_getElem h]
  rfl

theorem no_zero (l : List UInt8) (k : Nat) (hk : k < l.length) (h : ∀ i < k, l.getD i 0 ≠ 0) (h0 : l.getD k 0 ≠ 0) : ∀ i < k + 1, l.getD i 0 ≠ 0 := by
  intro i hi
  by_cases e : i = k
  · rw [e]; exact h0
  · exact h i (by omega)
theorem all_of (l : List UInt8) (h : ∀ i < l.length, l.getD i 0 ≠ 0) : ∀ b ∈ l, b ≠ 0 := by
  intro b hb
  obtain ⟨i, hi, rfl⟩ := List.mem_iff_getElem.1 hb
  have := h i hi
  rwa [List.getD_eq_getElem?_getD, List.getElem?_eq_getElem hi] at this
theorem zero_in (l : List UInt8) (k : Nat) (hk : k < l.length) (h0 : l.getD k 0 = 0) : keyOK l = false := by
  rw [Bool.eq_false_iff]
  intro h
  obtain ⟨_, _, h3⟩ := (keyOK_is l).1 h
  rw [List.getD_eq_getElem?_getD, List.getElem?_eq_getElem hk] at h0
  exact h3 l[k] (List.getElem_mem hk) h0

set_option maxHeartbeats 1000000 in
theorem rkey_calls (l : List UInt8) (w : World) (hL : l.length ≤ 2500) :
    Calls Try.prog 26 #[.string (strB l)] w fun e w' => e = .returned (.bool (keyOK l)) ∧ w' = w := by
  have hs := strB_size l
  go_enter Try.func26, Try.ntmps26
  go_wp2_with fail
  go_loop [3] (fun vi => ∃ k : Nat, k ≤ l.length ∧ vi = .int .i64 k ∧ Hid (∀ i < k, l.getD i 0 ≠ 0)) (fun vi => l.length - (intOf vi).toNat)
  case atStart => exact ⟨0, Nat.zero_le _, rfl, Lib.hid fun i hi => by omega⟩
  case round =>
    obtain ⟨k, hk, rfl, H⟩ := hrel
    by_cases h : k < l.length
    · have g : (k : Int) < (strB l).size := by omega
      obtain ⟨x, hx⟩ : ∃ x, x = l.getD k 0 := ⟨_, rfl⟩
      have ha : ∀ h', (strB l)[k]'h' = x := fun h' => (at_strB l k h').trans hx.symm
      have HX := Lib.hid hx
      have hb := x.toNat_lt
      clear hx
      by_cases hz : x = 0
      · have HZ := Lib.hid (zero_in l k h (HX.out.symm.trans hz))
        have hz' : x.toNat = 0 := by rw [hz]; rfl
        clear hz
        go_wp2_with fail
        go_ret
        exact ⟨ret_bool HZ.out.symm, rfl⟩
      · have HZ := Lib.hid (no_zero l k h H.out (fun e => hz (HX.out.trans e)))
        have hz' : ¬ x.toNat = 0 := fun e => hz (UInt8.toNat_inj.1 e)
        clear hz
        go_wp2_with fail
        go_round
        case rel => exact ⟨k + 1, by omega, by go_num, HZ⟩
        case measure => simp [intOf]; omega
    · obtain rfl : k = l.length := by omega
      have HK := Lib.hid (all_of l H.out)
      by_cases h1 : 1 ≤ l.length
      · by_cases h2 : l.length ≤ 24
        · have HT := Lib.hid ((keyOK_is l).2 ⟨h1, h2, HK.out⟩)
          have g2 : (l.length : Int) ≤ 24 := by omega
          go_wp2_with fail
          go_ret
          exact ⟨ret_bool HT.out.symm, rfl⟩
        · have HT := Lib.hid (keyOK_long l h2)
          have g2 : ¬ (l.length : Int) ≤ 24 := by omega
          go_wp2_with fail
          go_ret
          exact ⟨ret_bool HT.out.symm, rfl⟩
      · obtain rfl : l = [] := List.eq_nil_of_length_eq_zero (by omega)
        go_wp2_with fail
        go_ret
        exact ⟨rfl, rfl⟩

end Go.Proofs.Ytgnhjcgegibpdaa
