/- fresh.Parse: what each call does. No statement is proved here. -/
import Derived.Test.YtkfjbhikibidiaaRRecord
import Derived.Test.YtkfjbhikibidiaaRRec
namespace Go.Proofs.Ytkfjbhikibidiaa
open Go.RowKit
open Wire (TK TP But textL twoL fourL markS txtV txtS numV numS doneV)
open Crc (opens sealB Only)

/-- What Parse gives. -/
def parseV (l : List UInt8) : Rec := if isRec l then readR (innerT l) else zeroR

theorem open_yes (l : List UInt8) (w : World) (hl : l.length ≤ 100000) (ho : opens l = true) :
    Calls Try.prog 21 #[.string (strB l)] w fun e w' => e = .returned (.tuple #[.string (strB (l.take (l.length - 4))), .bool true]) ∧ Below w.heap.size w w' := by
  have h := Crc.open_calls (strB l) w (by rw [strB_size]; unfold maxLen; omega)
  unfold Crc.openS at h
  rw [strB_data, ho, if_pos rfl] at h
  exact h
theorem open_no (l : List UInt8) (w : World) (hl : l.length ≤ 100000) (ho : opens l = false) :
    Calls Try.prog 21 #[.string (strB l)] w fun e w' => e = .returned (.tuple #[.string ⟨#[]⟩, .bool false]) ∧ Below w.heap.size w w' := by
  have h := Crc.open_calls (strB l) w (by rw [strB_size]; unfold maxLen; omega)
  rw [Crc.openS_no _ ho, strB_data, ho] at h
  exact h

theorem store_zero {w : World} {g : Nat} (h : RBox w g zeroR (.slice none 0 0)) :
    ∃ w2, ((((((((w.setCell ⟨g, 0, none⟩ (.string ⟨#[]⟩)).setCell ⟨g, 1, none⟩ (.int .i64 0)).setCell ⟨g, 2, none⟩ (.int .i64 0)).setCell ⟨g, 3, none⟩ (.bool false)).setCell ⟨g, 4, none⟩ (.string ⟨#[]⟩)).setCell ⟨g, 5, none⟩ (.string ⟨#[]⟩)).setCell ⟨g, 6, none⟩ (.string ⟨#[]⟩)).setCell ⟨g, 7, none⟩ (.int .i64 0)).setCell ⟨g, 8, none⟩ (.slice none 0 0) = w2 ∧
      RBox w2 g zeroR (.slice none 0 0) ∧ Only g w w2 := store9 h zeroR (.slice none 0 0)

theorem zero_box (w : World) : RBox (w.alloc (.cells #[.string ⟨#[]⟩, .int .i64 0, .int .i64 0, .bool false, .string ⟨#[]⟩, .string ⟨#[]⟩, .string ⟨#[]⟩, .int .i64 0, .slice none 0 0] 26)) w.heap.size zeroR (.slice none 0 0) := RBox.new w zeroR _

theorem Only.after {g : Nat} {u v w : World} (h : Below u.heap.size u v) (k : Only g v w) (hg : u.heap.size ≤ g) : Below u.heap.size u w := h.trans (k.below hg)

set_option maxRecDepth 100000 in
set_option maxHeartbeats 8000000 in
theorem parse_shut (l : List UInt8) (w : World) (hl : l.length ≤ 100000) (ho : opens l = false) :
    Calls Try.prog 9 #[.string (strB l)] w fun e w' => e = .returned (.tuple #[recV zeroR (.slice none 0 0), .bool false]) ∧ Below w.heap.size w w' := by
  have HX := Lib.hid (zero_box w)
  go_enter Try.func9, Try.ntmps9
  go_wp2_with fail
  (with_reducible refine (open_no l _ hl ho).mono ?_)
  rintro e w1 ⟨rfl, hB1⟩
  replace HX := Lib.hid (HX.out.below hB1)
  have HB : Hid (Below w.heap.size w w1) := Lib.hid (below_trans' (below_one _ _) hB1)
  obtain ⟨k0, k1, k2, k3, k4, k5, k6, k7, k8⟩ := HX.out.at_
  have kf := HX.out.free
  obtain ⟨X, hX, hXb, hXo⟩ := store_zero HX.out
  have HXX := Lib.hid hX
  have HXB := Lib.hid hXb
  have HXO := Lib.hid hXo
  clear hX hXb hXo hB1
  go_wp2_with fail
  rw [HXX.out]
  clear k0 k1 k2 k3 k4 k5 k6 k7 k8 kf HXX
  obtain ⟨k0, k1, k2, k3, k4, k5, k6, k7, k8⟩ := HXB.out.at_
  exact bodyPost_ret (v := .tuple #[recV zeroR (.slice none 0 0), .bool false]) (by simp [results, Try.results9, go_sem, recV, k0, k1, k2, k3, k4, k5, k6, k7, k8]) rfl ⟨rfl, Only.after HB.out HXO.out (Nat.le_refl _)⟩

theorem mark_kind (b : Nat) (l : List UInt8) (w : World) (ht : TP 50 w b ⟨l, false⟩) :
    Calls Try.prog 22 #[.pointer (some ⟨b, 0, none⟩), .string ⟨#[79, 66, 74, 50]⟩] w fun e w' => e = .returned (.tuple #[]) ∧ TP 50 w' b (markS kindL ⟨l, false⟩) ∧ But b w w' := Wire.mark_calls b kindL ⟨l, false⟩ w ht

theorem parse_end {l : List UInt8} {b : Bool} {A : Option Addr} {n c : Nat} {W : World} {R : Rec} (hR : R = parseV l) (hb : b = isRec l) (hs : Sps W (.slice A n c) R.spans) {w : World} (hB : Below w.heap.size w W) :
    ∃ A' n' c', Ending.returned (.tuple #[recV R (.slice A n c), .bool b]) = .returned (.tuple #[recV (parseV l) (.slice A' n' c'), .bool (isRec l)]) ∧ Sps W (.slice A' n' c') (parseV l).spans ∧ Below w.heap.size w W := by
  subst hR hb
  exact ⟨A, n, c, rfl, hs, hB⟩

theorem read_few (t : TK) : (readR t).spans.length ≤ 8 := by
  show (runsV (rd5 t)).length ≤ 8
  unfold runsV
  rw [runV_len]
  exact numV_le 2 0 8 _

set_option maxRecDepth 100000 in
set_option maxHeartbeats 8000000 in
theorem parse_open (l : List UInt8) (w : World) (hl : l.length ≤ 100000) (ho : opens l = true) :
    Calls Try.prog 9 #[.string (strB l)] w fun e w' => ∃ A n c, e = .returned (.tuple #[recV (parseV l) (.slice A n c), .bool (isRec l)]) ∧ Sps w' (.slice A n c) (parseV l).spans ∧ Below w.heap.size w w' := by
  have HX := Lib.hid (zero_box w)
  go_enter Try.func9, Try.ntmps9
  go_wp2_with fail
  (with_reducible refine (open_yes l _ hl ho).mono ?_)
  rintro e w1 ⟨rfl, hB1⟩
  have HT : Hid (TP 50 (w1.alloc (.cells #[.string (strB (l.take (l.length - 4))), .bool false] 50)) w1.heap.size ⟨l.take (l.length - 4), false⟩) := Lib.hid (TP.new 50 w1 _ false)
  have hz : w.heap.size + 1 ≤ w1.heap.size := by simpa using hB1.size
  replace HX := Lib.hid ((HX.out.below hB1).below (below_one w1 (.cells #[.string (strB (l.take (l.length - 4))), .bool false] 50)))
  have HB : Hid (Below w.heap.size w (w1.alloc (.cells #[.string (strB (l.take (l.length - 4))), .bool false] 50))) := Lib.hid (below_trans' (below_trans' (below_one _ _) hB1) (below_one _ _))
  have hg : w.heap.size ≠ w1.heap.size := by omega
  clear hB1
  go_wp2_with fail
  (with_reducible refine (mark_kind w1.heap.size _ _ HT.out).mono ?_)
  rintro e w2 ⟨rfl, hT2, hB2⟩
  replace HT : Hid (TP 50 w2 w1.heap.size (innerT l)) := Lib.hid hT2
  replace HX := Lib.hid (HX.out.but hB2 hg)
  replace HB := Lib.hid (HB.out.trans (hB2.below (B := w.heap.size) (by omega) HB.out.size))
  clear hT2 hB2
  go_wp2_with fail
  (with_reducible refine (record_calls w1.heap.size (innerT l) _ HT.out).mono ?_)
  rintro e w3 ⟨A, n, c, rfl, hS3, hA3, hT3, hB3⟩
  have HA : Hid (∀ p, A = some p → p.block ≠ w.heap.size) := Lib.hid (fun p hp => by have := hA3 p hp; have := HT.out.lt; omega)
  have hn8 : n ≤ 1000 := by have := hS3.at_.1; have := read_few (innerT l); omega
  clear hA3
  obtain ⟨R, hR⟩ : ∃ R, R = readR (innerT l) := ⟨_, rfl⟩
  rw [← hR] at hS3 ⊢
  have HR := Lib.hid hR
  have hbx : RBox (w3.alloc (.cells (recC R (.slice A n c)) 26)) w3.heap.size R (.slice A n c) := RBox.new w3 R _
  replace HX := Lib.hid ((HX.out.but hB3 hg).below (below_one w3 (.cells (recC R (.slice A n c)) 26)))
  replace HB := Lib.hid (below_trans' (HB.out.trans (hB3.below (B := w.heap.size) (by omega) HB.out.size)) (below_one w3 (.cells (recC R (.slice A n c)) 26)))
  replace HT := Lib.hid (hT3.alloc (.cells (recC R (.slice A n c)) 26))
  have HS := Lib.hid (hS3.below (below_one w3 (.cells (recC R (.slice A n c)) 26)))
  have hg3 : w.heap.size ≠ w3.heap.size := by
    have := hB3.size
    have := HT.out.lt
    have := hT3.lt
    omega
  have HRB := Lib.hid hbx
  have hw3 : w.heap.size < w3.heap.size := by
    have := hT3.lt
    omega
  clear hR hS3 hT3 hB3 hbx
  unfold recC at HX HB HT HS HRB
  unfold recV
  go_wp2_with fail
  (with_reducible refine (Wire.done_calls w1.heap.size (readS (innerT l)) _ HT.out).mono ?_)
  rintro e w4 ⟨rfl, hw4⟩
  rw [hw4] at HX HB HT HS HRB
  clear hw4
  cases hd : doneV (readS (innerT l)) with
  | false =>
    have e1 : isRec l = false := by unfold isRec; rw [hd, Bool.false_and, Bool.and_false]
    have e2 : zeroR = parseV l := by unfold parseV; rw [e1]; rfl
    obtain ⟨k0, k1, k2, k3, k4, k5, k6, k7, k8⟩ := HX.out.at_
    have kf := HX.out.free
    obtain ⟨X, hX, hXb, hXo⟩ := store_zero HX.out
    have HXX := Lib.hid hX
    have HXB := Lib.hid hXb
    have HXO := Lib.hid hXo
    have E1 := Lib.hid e1
    have E2 := Lib.hid e2
    clear hX hXb hXo e1 e2
    go_wp2_with fail
    rw [HXX.out]
    clear k0 k1 k2 k3 k4 k5 k6 k7 k8 kf HXX
    obtain ⟨k0, k1, k2, k3, k4, k5, k6, k7, k8⟩ := HXB.out.at_
    refine bodyPost_ret (v := .tuple #[recV zeroR (.slice none 0 0), .bool false]) (by simp [results, Try.results9, go_sem, recV, k0, k1, k2, k3, k4, k5, k6, k7, k8]) rfl ?_
    exact parse_end E2.out E1.out.symm (Sps.nil _) (Only.after HB.out HXO.out (Nat.le_refl _))
  | true =>
    obtain ⟨k0, k1, k2, k3, k4, k5, k6, k7, k8⟩ := HRB.out.at_
    have HC := Lib.hid (right_calls R A n c _ HS.out hn8)
    unfold recV at HC
    go_wp2_with fail
    (with_reducible refine HC.out.mono ?_)
    rintro e w5 ⟨rfl, hB5⟩
    clear HC k0 k1 k2 k3 k4 k5 k6 k7 k8
    cases hr : rightR R with
    | false =>
      have e1 : isRec l = false := by unfold isRec; rw [← HR.out, hr, Bool.and_false, Bool.and_false]
      have e2 : zeroR = parseV l := by unfold parseV; rw [e1]; rfl
      replace HX := Lib.hid (HX.out.below hB5)
      replace HB := Lib.hid (below_trans' HB.out hB5)
      obtain ⟨k0, k1, k2, k3, k4, k5, k6, k7, k8⟩ := HX.out.at_
      have kf := HX.out.free
      obtain ⟨X, hX, hXb, hXo⟩ := store_zero HX.out
      have HXX := Lib.hid hX
      have HXB := Lib.hid hXb
      have HXO := Lib.hid hXo
      have E1 := Lib.hid e1
      have E2 := Lib.hid e2
      clear hX hXb hXo e1 e2 hB5
      go_wp2_with fail
      rw [HXX.out]
      clear k0 k1 k2 k3 k4 k5 k6 k7 k8 kf HXX
      obtain ⟨k0, k1, k2, k3, k4, k5, k6, k7, k8⟩ := HXB.out.at_
      refine bodyPost_ret (v := .tuple #[recV zeroR (.slice none 0 0), .bool false]) (by simp [results, Try.results9, go_sem, recV, k0, k1, k2, k3, k4, k5, k6, k7, k8]) rfl ?_
      exact parse_end E2.out E1.out.symm (Sps.nil _) (Only.after HB.out HXO.out (Nat.le_refl _))
    | true =>
      have e1 : isRec l = true := by unfold isRec; rw [← HR.out, hr, hd, ho]; rfl
      have e2 : R = parseV l := by unfold parseV; rw [e1, if_pos rfl]; exact HR.out
      replace HX := Lib.hid (HX.out.below hB5)
      replace HB := Lib.hid (below_trans' HB.out hB5)
      replace HRB := Lib.hid (RBox.below (r := R) HRB.out hB5)
      replace HS := Lib.hid (HS.out.below hB5)
      obtain ⟨k0, k1, k2, k3, k4, k5, k6, k7, k8⟩ := HX.out.at_
      have kf := HX.out.free
      obtain ⟨m0, m1, m2, m3, m4, m5, m6, m7, m8⟩ := HRB.out.at_
      obtain ⟨X, hX, hXb, hXo⟩ := store9 HX.out R (.slice A n c)
      have HXX := Lib.hid hX
      have HXB := Lib.hid hXb
      have HXO := Lib.hid hXo
      have E1 := Lib.hid e1
      have E2 := Lib.hid e2
      clear hX hXb hXo e1 e2 hB5
      go_wp2_with fail
      rw [HXX.out]
      clear k0 k1 k2 k3 k4 k5 k6 k7 k8 kf HXX m0 m1 m2 m3 m4 m5 m6 m7 m8
      obtain ⟨k0, k1, k2, k3, k4, k5, k6, k7, k8⟩ := HXB.out.at_
      refine bodyPost_ret (v := .tuple #[recV R (.slice A n c), .bool true]) (by simp [results, Try.results9, go_sem, recV, k0, k1, k2, k3, k4, k5, k6, k7, k8]) rfl ?_
      refine parse_end E2.out E1.out.symm ?_ (Only.after HB.out HXO.out (Nat.le_refl _))
      exact HS.out.keep (by rw [HXO.out.size]; exact Nat.le_refl _) (fun p hp => HXO.out.block _ (HA.out p hp))

theorem parse_calls (l : List UInt8) (w : World) (hl : l.length ≤ 100000) :
    Calls Try.prog 9 #[.string (strB l)] w fun e w' => ∃ A n c, e = .returned (.tuple #[recV (parseV l) (.slice A n c), .bool (isRec l)]) ∧ Sps w' (.slice A n c) (parseV l).spans ∧ Below w.heap.size w w' := by
  cases ho : opens l with
  | true => exact parse_open l w hl ho
  | false =>
    refine (parse_shut l w hl ho).mono ?_
    rintro e w' ⟨rfl, hB⟩
    have e1 : isRec l = false := by unfold isRec; rw [ho, Bool.false_and]
    have e2 : zeroR = parseV l := by unfold parseV; rw [e1]; rfl
    exact parse_end e2 e1.symm (Sps.nil _) hB

end Go.Proofs.Ytkfjbhikibidiaa
