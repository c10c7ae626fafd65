/- (*Tape).Mark, Done: what each call does. No statement is proved here. -/
import Derived.Test.YtibgimlfhpjeeaaWNumber
namespace Go.Proofs.Ytibgimlfhpjeeaa.Wire
open Go.RowKit

theorem take_len (b : Nat) (m : List UInt8) (t : TK) (w : World) (ht : TP 47 w b t) :
    Calls Try.prog 37 #[.pointer (some ⟨b, 0, none⟩), .int .i64 ((strB m).size : Nat)] w fun e w' => e = .returned (.tuple #[.string (strB (takeV m.length t)), .bool (good m.length t)]) ∧ TP 47 w' b (takeS m.length t) ∧ But b w w' := by
  rw [strB_size]
  exact take_calls b m.length t w ht

set_option maxHeartbeats 1000000 in
theorem mark_no (b : Nat) (m : List UInt8) (t : TK) (w : World) (ht : TP 47 w b t) (hg : good m.length t = false) :
    Calls Try.prog 26 #[.pointer (some ⟨b, 0, none⟩), .string (strB m)] w fun e w' => e = .returned (.tuple #[]) ∧ TP 47 w' b (takeS m.length t) ∧ But b w w' := by
  go_enter Try.func26, Try.ntmps26
  go_wp2_with fail
  (with_reducible refine (take_len b m t _ ht).mono ?_)
  rintro e w1 ⟨rfl, hT, hB⟩
  have HT := Lib.hid hT
  have HB := Lib.hid hB
  clear ht hT hB
  go_wp2_with fail
  go_end0
  exact ⟨rfl, HT.out, HB.out⟩

set_option maxHeartbeats 1000000 in
theorem mark_yes (b : Nat) (m : List UInt8) (t : TK) (w : World) (ht : TP 47 w b t) (hg : good m.length t = true) (he : (strB (takeV m.length t)).toList == (strB m).toList) :
    Calls Try.prog 26 #[.pointer (some ⟨b, 0, none⟩), .string (strB m)] w fun e w' => e = .returned (.tuple #[]) ∧ TP 47 w' b (takeS m.length t) ∧ But b w w' := by
  go_enter Try.func26, Try.ntmps26
  go_wp2_with fail
  (with_reducible refine (take_len b m t _ ht).mono ?_)
  rintro e w1 ⟨rfl, hT, hB⟩
  have HT := Lib.hid hT
  have HB := Lib.hid hB
  clear ht hT hB
  go_wp2_with fail
  go_end0
  exact ⟨rfl, HT.out, HB.out⟩

set_option maxHeartbeats 1000000 in
theorem mark_other (b : Nat) (m : List UInt8) (t : TK) (w : World) (ht : TP 47 w b t) (hg : good m.length t = true) (he : ((strB (takeV m.length t)).toList == (strB m).toList) = false) :
    Calls Try.prog 26 #[.pointer (some ⟨b, 0, none⟩), .string (strB m)] w fun e w' => e = .returned (.tuple #[]) ∧ TP 47 w' b ⟨(takeS m.length t).rest, true⟩ ∧ But b w w' := by
  go_enter Try.func26, Try.ntmps26
  go_wp2_with fail
  (with_reducible refine (take_len b m t _ ht).mono ?_)
  rintro e w1 ⟨rfl, hT, hB⟩
  have c1 := hT.bad
  have f1 := hT.free 1
  have HT := Lib.hid hT
  have HB := Lib.hid hB
  clear ht hT hB
  go_wp2_with fail
  go_end0
  exact ⟨rfl, HT.out.setBad _, HB.out.setCell _ _⟩

theorem mark_calls (b : Nat) (m : List UInt8) (t : TK) (w : World) (ht : TP 47 w b t) :
    Calls Try.prog 26 #[.pointer (some ⟨b, 0, none⟩), .string (strB m)] w fun e w' => e = .returned (.tuple #[]) ∧ TP 47 w' b (markS m t) ∧ But b w w' := by
  cases hg : good m.length t with
  | false =>
    have e : markS m t = takeS m.length t := by unfold markS takeS; rw [hg]; rfl
    rw [e]
    exact mark_no b m t w ht hg
  | true =>
    have e1 : takeV m.length t = t.rest.take m.length := by unfold takeV; rw [hg]; rfl
    have e2 : takeS m.length t = ⟨t.rest.drop m.length, false⟩ := by unfold takeS; rw [hg]; rfl
    have e3 : markS m t = ⟨t.rest.drop m.length, !(t.rest.take m.length == m)⟩ := by unfold markS; rw [hg]; rfl
    cases he : (t.rest.take m.length == m) with
    | true =>
      have h := mark_yes b m t w ht hg (by rw [e1, strB_toList, strB_toList]; exact he)
      rw [e2] at h
      rw [e3, he]
      exact h
    | false =>
      have h := mark_other b m t w ht hg (by rw [e1, strB_toList, strB_toList]; exact he)
      rw [e2] at h
      rw [e3, he]
      exact h

end Go.Proofs.Ytibgimlfhpjeeaa.Wire
