/- name.Key and the document's: what each call does. No statement is proved here. -/
import Derived.Test.YtkfjbhikibidiaaIStr
namespace Go.Proofs.Ytkfjbhikibidiaa.Itm
open Go.RowKit

theorem keyOK_nil : keyOK [] = false := rfl
theorem keyOK_long (l : List UInt8) (h : ¬ l.length ≤ 24) : keyOK l = false := by
  unfold keyOK
  rw [decide_eq_false h, Bool.false_and, Bool.and_false]
theorem keyOK_short (l : List UInt8) (h : l.length ≤ 24) (he : l.isEmpty = false) : keyOK l = !decide (0 ≤ Lib.indexByte l 0) := by
  unfold keyOK
  rw [decide_eq_true h, he]
  rfl

set_option maxHeartbeats 1000000 in
theorem key_calls (l : List UInt8) (w : World) :
    Calls Try.prog 25 #[.string (strB l)] w fun e w' => e = .returned (.bool (keyOK l)) ∧ w' = w := by
  have e := strB_toList l
  have hnot : ∀ (x : Bool) (w : World), (Op.unary .not (.bool x)).run Try.prog w = .ok (.bool (!x)) w := fun _ _ => rfl
  by_cases he : l.isEmpty = true
  · obtain rfl : l = [] := List.isEmpty_iff.1 he
    rw [keyOK_nil]
    go_enter Try.func25, Try.ntmps25
    go_wp2_with fail
    go_ret
    exact ⟨rfl, rfl⟩
  · have he' : l.isEmpty = false := Bool.eq_false_iff.2 he
    by_cases h : l.length ≤ 24
    · rw [keyOK_short l h he']
      have g : ((strB l).size : Int) ≤ 24 := by rw [strB_size]; omega
      go_enter Try.func25, Try.ntmps25
      go_wp2_with fail
      (with_reducible refine (contains_calls (strB l) 0 _).mono ?_)
      rintro e w1 ⟨rfl, rfl⟩
      go_wp2_with fail
      go_ret
      exact ⟨rfl, rfl⟩
    · rw [keyOK_long l h]
      have g : ¬ ((strB l).size : Int) ≤ 24 := by rw [strB_size]; omega
      go_enter Try.func25, Try.ntmps25
      go_wp2_with fail
      go_ret
      exact ⟨rfl, rfl⟩

theorem at_strB (l : List UInt8) (k : Nat) (h : k < (strB l).size) : (strB l)[k] = l.getD k 0 := by
  rw [strB_size] at h
  rw [List.getD_eq_getElem?_getD, List.getElem?_eq_getElem h]
  rfl

theorem no_zero (l : List UInt8) (k : Nat) (hk : k < l.length) (h : ∀ i < k, l.getD i 0 ≠ 0) (h0 : l.getD k 0 ≠ 0) : ∀ i < k + 1, l.getD i 0 ≠ 0 := by
  intro i hi
  by_cases e : i = k
  · rw [e]; exact h0
  · exact h i (by omega)
theorem all_of (l : List UInt8) (h : ∀ i < l.length, l.getD i 0 ≠ 0) : ∀ b ∈ l, b ≠ 0 := by
  intro b hb
  obtain ⟨i, hi, rfl⟩ := List.mem_iff_getElem.1 hb
  have := h i hi
  rwa [List.getD_eq_getElem?_getD, List.getElem?_eq_getElem hi] at this
theorem zero_in (l : List UInt8) (k : Nat) (hk : k < l.length) (h0 : l.getD k 0 = 0) : keyOK l = false := by
  rw [Bool.eq_false_iff]
  intro h
  obtain ⟨_, _, h3⟩ := (keyOK_is l).1 h
  rw [List.getD_eq_getElem?_getD, List.getElem?_eq_getElem hk] at h0
  exact h3 l[k] (List.getElem_mem hk) h0

end Go.Proofs.Ytkfjbhikibidiaa.Itm
