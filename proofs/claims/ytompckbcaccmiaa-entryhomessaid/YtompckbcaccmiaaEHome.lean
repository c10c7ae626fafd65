/- entry.Home: what each call does. No statement is proved here. -/
import Derived.Test.YtompckbcaccmiaaERight
namespace Go.Proofs.Ytompckbcaccmiaa
open Go.RowKit Go.Sort
open Wire (TK TP But twoL fourL numV numS markS)
open Crc (sealB Only)

theorem noughts256 (w : World) : Calls Try.prog 30 #[.int .i64 256] w fun e w' => e = .returned (.string (strB (zer 256))) ∧ Below w.heap.size w w' := noughts_calls 256 w (by omega)
theorem noughts208 (w : World) : Calls Try.prog 30 #[.int .i64 208] w fun e w' => e = .returned (.string (strB (zer 208))) ∧ Below w.heap.size w w' := noughts_calls 208 w (by omega)
theorem first208 (l : List UInt8) (w : World) : Calls Try.prog 33 #[.string (strB l), .int .i64 208] w fun e w' => e = .returned (.string (strB (l.take 208))) ∧ w' = w := first_calls l 208 w (by omega)
theorem mark_leaf (b : Nat) (t : TK) (w : World) (ht : TP 51 w b t) :
    Calls Try.prog 31 #[.pointer (some ⟨b, 0, none⟩), .string ⟨#[76, 69, 65, 70]⟩] w fun e w' => e = .returned (.tuple #[]) ∧ TP 51 w' b (markS leafK t) ∧ But b w w' := Wire.mark_calls b leafK t w ht
theorem eqs_spell (a b : List UInt8) : ((strB a).toList == (strB b).toList) = (a == b) := by rw [strB_toList, strB_toList]
theorem home_end {s : List UInt8} {no : Int} {b : Bool} {d : List UInt8} (hd : d = homeV s no) (hb : b = homeB s no) : Ending.returned (.tuple #[.string (strB d), .bool b]) = .returned (.tuple #[.string (strB (homeV s no)), .bool (homeB s no)]) := by rw [hd, hb]

set_option maxRecDepth 100000 in
set_option maxHeartbeats 8000000 in
theorem home_calls (s : List UInt8) (no : Int) (w : World) :
    Calls Try.prog 14 #[.string (strB s), .int .i64 no] w fun e w' => e = .returned (.tuple #[.string (strB (homeV s no)), .bool (homeB s no)]) ∧ Below w.heap.size w w' := by
  have HE := Lib.hid (eqs_spell s (zer 256))
  go_enter Try.func14, Try.ntmps14
  go_wp2_with fail
  (with_reducible refine (noughts256 _).mono ?_)
  rintro e w1 ⟨rfl, hB1⟩
  cases hz : s == zer 256 with
  | true =>
    have hz' := HE.out.trans hz
    have e1 : true = homeB s no := by unfold homeB; rw [hz]; rfl
    have e2 : zer 208 = homeV s no := by unfold homeV; rw [hz]; rfl
    have E := Lib.hid (home_end e2 e1)
    clear e1 e2 hz
    go_wp2_with fail
    (with_reducible refine (noughts208 _).mono ?_)
    rintro e w2 ⟨rfl, hB2⟩
    go_wp2_with fail
    go_ret2
    exact ⟨E.out, below_trans' hB1 hB2⟩
  | false =>
    have hz' := HE.out.trans hz
    have HZ := Lib.hid hz
    have HT : Hid (TP 51 (w1.alloc (.cells #[.string (strB s), .bool false] 51)) w1.heap.size ⟨s, false⟩) := Lib.hid (TP.new 51 w1 s false)
    have HB : Hid (Below w.heap.size w (w1.alloc (.cells #[.string (strB s), .bool false] 51))) := Lib.hid (below_trans' hB1 (below_one _ _))
    have hw1 : w.heap.size ≤ w1.heap.size := hB1.size
    have HW := Lib.hid hw1
    clear hB1 hz hw1
    go_wp2_with fail
    (with_reducible refine (mark_leaf w1.heap.size ⟨s, false⟩ _ HT.out).mono ?_)
    rintro e w2 ⟨rfl, hT2, hB2⟩
    replace HT := Lib.hid hT2
    replace HB := Lib.hid (HB.out.trans (hB2.below HW.out HB.out.size))
    clear hT2 hB2 hz' HE
    go_wp2_with fail
    (with_reducible refine (Wire.ttwo_calls w1.heap.size no no (markS leafK ⟨s, false⟩) _ HT.out).mono ?_)
    rintro e w3 ⟨rfl, hT3, hB3⟩
    replace HT : Hid (TP 51 w3 w1.heap.size (tapeH s no)) := Lib.hid hT3
    replace HB := Lib.hid (HB.out.trans (hB3.below HW.out HB.out.size))
    clear hT3 hB3
    have t0 := HT.out.rest
    have t1 := HT.out.bad
    go_wp2_with fail
    (with_reducible refine (first208 _ _).mono ?_)
    rintro e w4 ⟨rfl, rfl⟩
    obtain ⟨D, hD⟩ : ∃ D, D = dataH s no := ⟨_, rfl⟩
    rw [show (tapeH s no).rest.take 208 = D from hD.symm]
    have HD := Lib.hid hD
    have CL := Lib.hid (fun W => leaf_calls no D W (by rw [hD]; unfold dataH; rw [List.length_take]; omega))
    unfold lfV at CL
    clear hD
    cases hb : (tapeH s no).bad with
    | true =>
      rw [hb] at t1
      have e1 : false = homeB s no := by unfold homeB; rw [HZ.out, hb]; rfl
      have e2 : [] = homeV s no := by unfold homeV; rw [HZ.out, hb]; rfl
      have E := Lib.hid (home_end e2 e1)
      clear e1 e2 hb
      go_wp2_with fail
      go_ret2
      exact ⟨E.out, HB.out⟩
    | false =>
      rw [hb] at t1
      have HBB := Lib.hid hb
      clear hb
      go_wp2_with fail
      (with_reducible refine (CL.out _).mono ?_)
      rintro e w5 ⟨rfl, hB5⟩
      have HE2 := Lib.hid (eqs_spell (leafL no D) s)
      clear CL
      cases hp : leafL no D == s with
      | true =>
        have hp' := HE2.out.trans hp
        have e1 : true = homeB s no := by unfold homeB; rw [HZ.out, HBB.out, ← HD.out, hp]; rfl
        have e2 : D = homeV s no := by unfold homeV; rw [HZ.out, HBB.out, ← HD.out, hp]; rfl
        have E := Lib.hid (home_end e2 e1)
        clear e1 e2 hp
        go_wp2_with fail
        go_ret2
        exact ⟨E.out, below_trans' HB.out hB5⟩
      | false =>
        have hp' := HE2.out.trans hp
        have e1 : false = homeB s no := by unfold homeB; rw [HZ.out, HBB.out, ← HD.out, hp]; rfl
        have e2 : [] = homeV s no := by unfold homeV; rw [HZ.out, HBB.out, ← HD.out, hp]; rfl
        have E := Lib.hid (home_end e2 e1)
        clear e1 e2 hp
        go_wp2_with fail
        go_ret2
        exact ⟨E.out, below_trans' HB.out hB5⟩

end Go.Proofs.Ytompckbcaccmiaa
