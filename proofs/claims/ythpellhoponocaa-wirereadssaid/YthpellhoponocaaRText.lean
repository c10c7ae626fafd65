/- The document's own Text, Mark and Done of a tape: what each call does. No statement is proved here. -/
import Derived.Test.YthpellhoponocaaRTape
namespace Go.Proofs.Ythpellhoponocaa
open Go.RowKit

theorem numS_bad {k : Nat} {low high : Int} {t : TK} (h : inside k low high t = false) : (numS k low high t).bad = true := by
  unfold numS
  rw [h]
  cases good k t <;> rfl
theorem numS_ok {k : Nat} {low high : Int} {t : TK} (h : inside k low high t = true) : (numS k low high t).bad = false := by
  have hg : good k t = true := by
    unfold inside at h
    cases hg : good k t with
    | true => rfl
    | false => rw [hg] at h; cases h
  unfold numS
  rw [h, hg]
  rfl

set_option maxHeartbeats 1000000 in
theorem rrtext_no (b : Nat) (most : Int) (t : TK) (w : World) (ht : TP 31 w b t) (hi : inside 2 0 most t = false) :
    Calls Try.prog 20 #[.pointer (some ⟨b, 0, none⟩), .int .i64 most] w fun e w' => e = .returned (.string ⟨#[]⟩) ∧ TP 31 w' b (numS 2 0 most t) ∧ But b w w' := by
  have HBAD := Lib.hid (numS_bad hi)
  clear hi
  go_enter Try.func20, Try.ntmps20
  go_wp2_with fail
  (with_reducible refine (rrtwo_calls b 0 most t _ ht).mono ?_)
  rintro e w1 ⟨rfl, T1, B1⟩
  obtain ⟨u, hu⟩ : ∃ u, u = numS 2 0 most t := ⟨_, rfl⟩
  rw [← hu] at T1 HBAD
  have HU := Lib.hid hu
  clear hu
  obtain ⟨l, bad⟩ := u
  obtain rfl : bad = true := HBAD.out
  have c1 := T1.bad
  have f1 := T1.free 1
  have HT := Lib.hid T1
  have HB := Lib.hid B1
  clear T1 B1 ht HBAD
  go_wp2_with fail
  go_ret
  exact ⟨rfl, by rw [← HU.out]; exact HT.out.setBad _, HB.out.setCell _ _⟩

set_option maxHeartbeats 1000000 in
theorem rrtext_short (b : Nat) (most : Int) (t : TK) (w : World) (ht : TP 31 w b t) (l : List UInt8) (hu : numS 2 0 most t = ⟨l, false⟩) (hl : l.length < numV 2 0 most t) :
    Calls Try.prog 20 #[.pointer (some ⟨b, 0, none⟩), .int .i64 most] w fun e w' => e = .returned (.string ⟨#[]⟩) ∧ TP 31 w' b ⟨l, true⟩ ∧ But b w w' := by
  have g : ((strB l).size : Int) < (numV 2 0 most t : Nat) := by rw [strB_size]; omega
  go_enter Try.func20, Try.ntmps20
  go_wp2_with fail
  (with_reducible refine (rrtwo_calls b 0 most t _ ht).mono ?_)
  rintro e w1 ⟨rfl, T1, B1⟩
  rw [hu] at T1
  have c0 := T1.rest
  have c1 := T1.bad
  have f1 := T1.free 1
  have HT := Lib.hid T1
  have HB := Lib.hid B1
  clear T1 B1 ht hu hl
  go_wp2_with fail
  go_ret
  exact ⟨rfl, HT.out.setBad _, HB.out.setCell _ _⟩

set_option maxHeartbeats 1000000 in
theorem rrtext_good (b : Nat) (most : Int) (t : TK) (w : World) (ht : TP 31 w b t) (l : List UInt8) (hu : numS 2 0 most t = ⟨l, false⟩) (hl : numV 2 0 most t ≤ l.length) :
    Calls Try.prog 20 #[.pointer (some ⟨b, 0, none⟩), .int .i64 most] w fun e w' => e = .returned (.string (strB (l.take (numV 2 0 most t)))) ∧ TP 31 w' b ⟨l.drop (numV 2 0 most t), false⟩ ∧ But b w w' := by
  have g : ¬ ((strB l).size : Int) < (numV 2 0 most t : Nat) := by rw [strB_size]; omega
  have HL := Lib.hid hl
  go_enter Try.func20, Try.ntmps20
  go_wp2_with fail
  (with_reducible refine (rrtwo_calls b 0 most t _ ht).mono ?_)
  rintro e w1 ⟨rfl, T1, B1⟩
  rw [hu] at T1
  have c0 := T1.rest
  have c1 := T1.bad
  have HT := Lib.hid T1
  have HB := Lib.hid B1
  clear T1 B1 ht hu hl
  go_wp2_with fail
  (with_reducible refine (rtake_good b (numV 2 0 most t) l _ HT.out HL.out).mono ?_)
  rintro e w2 ⟨rfl, T2, B2⟩
  have HT2 := Lib.hid T2
  have HB2 := Lib.hid B2
  clear T2 B2
  go_wp2_with fail
  go_ret
  exact ⟨rfl, HT2.out, HB.out.trans HB2.out⟩

theorem rrtext_calls (b : Nat) (most : Int) (t : TK) (w : World) (ht : TP 31 w b t) :
    Calls Try.prog 20 #[.pointer (some ⟨b, 0, none⟩), .int .i64 most] w fun e w' => e = .returned (.string (strB (txtV most t))) ∧ TP 31 w' b (txtS most t) ∧ But b w w' := by
  cases hi : inside 2 0 most t with
  | false =>
    have e1 : txtV most t = [] := by unfold txtV; rw [hi]; rfl
    have e2 : txtS most t = numS 2 0 most t := by unfold txtS; rw [hi]; rfl
    rw [e1, e2]
    exact rrtext_no b most t w ht hi
  | true =>
    have hb := numS_ok hi
    obtain ⟨l, hu⟩ : ∃ l, numS 2 0 most t = ⟨l, false⟩ := ⟨(numS 2 0 most t).rest, by rw [← hb]⟩
    have e1 : txtV most t = takeV (numV 2 0 most t) ⟨l, false⟩ := by unfold txtV; rw [hi, hu]; rfl
    have e2 : txtS most t = takeS (numV 2 0 most t) ⟨l, false⟩ := by unfold txtS; rw [hi, hu]; rfl
    rw [e1, e2]
    unfold takeV takeS
    by_cases h : numV 2 0 most t ≤ l.length
    · rw [good_yes h]
      exact rrtext_good b most t w ht l hu h
    · rw [good_no (by omega)]
      exact rrtext_short b most t w ht l hu (by omega)

section
variable (b : Nat) (m : List UInt8) (w : World)
theorem rtl_no (t : TK) (ht : TP 31 w b t) (hg : good m.length t = false) (hm : m.length ≤ 20) :
    Calls Try.prog 26 #[.pointer (some ⟨b, 0, none⟩), .int .i64 ((strB m).size : Nat)] w fun e w' => e = .returned (.string (strB (zeros m.length))) ∧ TP 31 w' b ⟨t.rest, true⟩ ∧ But b w w' := by
  rw [strB_size]
  exact rtake_no b m.length t w ht hg (by omega)
theorem rtl_yes (l : List UInt8) (ht : TP 31 w b ⟨l, false⟩) (hm : m.length ≤ l.length) :
    Calls Try.prog 26 #[.pointer (some ⟨b, 0, none⟩), .int .i64 ((strB m).size : Nat)] w fun e w' => e = .returned (.string (strB (l.take m.length))) ∧ TP 31 w' b ⟨l.drop m.length, false⟩ ∧ But b w w' := by
  rw [strB_size]
  exact rtake_good b m.length l w ht hm
end

set_option maxHeartbeats 1000000 in
theorem rmark_no (b : Nat) (m : List UInt8) (t : TK) (w : World) (ht : TP 31 w b t) (hg : good m.length t = false) (hm : m.length ≤ 20) :
    Calls Try.prog 22 #[.pointer (some ⟨b, 0, none⟩), .string (strB m)] w fun e w' => e = .returned (.tuple #[]) ∧ TP 31 w' b ⟨t.rest, true⟩ ∧ But b w w' := by
  go_enter Try.func22, Try.ntmps22
  go_wp2_with fail
  (with_reducible refine (rtl_no b m _ t ht hg hm).mono ?_)
  rintro e w1 ⟨rfl, T1, B1⟩
  have c1 := T1.bad
  have f1 := T1.free 1
  have HT := Lib.hid T1
  have HB := Lib.hid B1
  clear T1 B1 ht
  go_wp2_with fail
  all_goals go_end0
  · exact ⟨rfl, HT.out.setBad _, HB.out.setCell _ _⟩
  · exact ⟨rfl, HT.out, HB.out⟩

set_option maxHeartbeats 1000000 in
theorem rmark_yes (b : Nat) (m l : List UInt8) (w : World) (ht : TP 31 w b ⟨l, false⟩) (hm : m.length ≤ l.length) (he : (strB (l.take m.length)).toList == (strB m).toList) :
    Calls Try.prog 22 #[.pointer (some ⟨b, 0, none⟩), .string (strB m)] w fun e w' => e = .returned (.tuple #[]) ∧ TP 31 w' b ⟨l.drop m.length, false⟩ ∧ But b w w' := by
  go_enter Try.func22, Try.ntmps22
  go_wp2_with fail
  (with_reducible refine (rtl_yes b m _ l ht hm).mono ?_)
  rintro e w1 ⟨rfl, T1, B1⟩
  have HT := Lib.hid T1
  have HB := Lib.hid B1
  clear T1 B1 ht
  go_wp2_with fail
  go_end0
  exact ⟨rfl, HT.out, HB.out⟩

set_option maxHeartbeats 1000000 in
theorem rmark_other (b : Nat) (m l : List UInt8) (w : World) (ht : TP 31 w b ⟨l, false⟩) (hm : m.length ≤ l.length) (he : ((strB (l.take m.length)).toList == (strB m).toList) = false) :
    Calls Try.prog 22 #[.pointer (some ⟨b, 0, none⟩), .string (strB m)] w fun e w' => e = .returned (.tuple #[]) ∧ TP 31 w' b ⟨l.drop m.length, true⟩ ∧ But b w w' := by
  go_enter Try.func22, Try.ntmps22
  go_wp2_with fail
  (with_reducible refine (rtl_yes b m _ l ht hm).mono ?_)
  rintro e w1 ⟨rfl, T1, B1⟩
  have c1 := T1.bad
  have f1 := T1.free 1
  have HT := Lib.hid T1
  have HB := Lib.hid B1
  clear T1 B1 ht
  go_wp2_with fail
  go_end0
  exact ⟨rfl, HT.out.setBad _, HB.out.setCell _ _⟩

theorem rrmark_calls (b : Nat) (m : List UInt8) (t : TK) (w : World) (ht : TP 31 w b t) (hm : m.length ≤ 20) :
    Calls Try.prog 22 #[.pointer (some ⟨b, 0, none⟩), .string (strB m)] w fun e w' => e = .returned (.tuple #[]) ∧ TP 31 w' b (markS m t) ∧ But b w w' := by
  cases hg : good m.length t with
  | false =>
    have e : markS m t = ⟨t.rest, true⟩ := by unfold markS; rw [hg]; rfl
    rw [e]
    exact rmark_no b m t w ht hg hm
  | true =>
    obtain ⟨l, bad⟩ := t
    cases bad with
    | true => cases hg
    | false =>
      have hl : m.length ≤ l.length := by simpa [good] using hg
      have e3 : markS m ⟨l, false⟩ = ⟨l.drop m.length, !(l.take m.length == m)⟩ := by unfold markS; rw [hg]; rfl
      rw [e3]
      cases he : (l.take m.length == m) with
      | true => exact rmark_yes b m l w ht hl (by rw [strB_toList, strB_toList]; exact he)
      | false => exact rmark_other b m l w ht hl (by rw [strB_toList, strB_toList]; exact he)

set_option maxHeartbeats 1000000 in
theorem rdone_calls (b : Nat) (t : TK) (w : World) (ht : TP 31 w b t) :
    Calls Try.prog 24 #[.pointer (some ⟨b, 0, none⟩)] w fun e w' => e = .returned (.bool (doneV t)) ∧ w = w' := by
  obtain ⟨l, bad⟩ := t
  have c0 := ht.rest
  have c1 := ht.bad
  have HS := Lib.hid (done_spell l)
  clear ht
  cases bad with
  | true =>
    go_enter Try.func24, Try.ntmps24
    go_wp2_with fail
    go_ret
    exact ⟨rfl, rfl⟩
  | false =>
    go_enter Try.func24, Try.ntmps24
    go_wp2_with fail
    go_ret
    exact ⟨ret_bool HS.out, rfl⟩
end Go.Proofs.Ythpellhoponocaa
