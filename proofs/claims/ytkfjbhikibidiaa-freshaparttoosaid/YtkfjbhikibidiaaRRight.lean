/- fresh.Right with its parts: what each call does. No statement is proved here. -/
import Derived.Test.YtkfjbhikibidiaaRMem
import Derived.Test.YtkfjbhikibidiaaIRight
import Derived.Lib.QuietBelow
import Derived.BigQuiet
import Derived.Deep.QuietTactic
namespace Go.Proofs.Ytkfjbhikibidiaa
open Go.RowKit Go.Sort
open Itm (It itV)

set_option maxHeartbeats 1000000 in
theorem pages_calls (n : Int) (w : World) (h0 : 0 ≤ n) (h1 : n ≤ 100000) :
    Calls Try.prog 28 #[.int .i64 n] w fun e w' => e = .returned (.int .i64 (pagesI n)) ∧ w' = w := by
  go_enter Try.func28, Try.ntmps28
  go_wp2_with fail
  go_ret
  refine ⟨ret_int ?_, rfl⟩
  unfold pagesI
  rw [show n + 208 - 1 = n + 207 by omega]

set_option maxHeartbeats 1000000 in
theorem within_calls (s n lo : Int) (w : World) (h0 : 0 ≤ n) (h1 : n ≤ 100000) :
    Calls Try.prog 29 #[.agg #[.int .i64 s, .int .i64 n], .int .i64 lo] w fun e w' => e = .returned (.bool (decide (lo ≤ s) && decide (s ≤ 512 - n))) ∧ Below w.heap.size w w' := by
  by_cases hs : lo ≤ s
  · rw [decide_eq_true hs]
    go_enter Try.func29, Try.ntmps29
    go_wp2_with fail
    go_ret
    refine ⟨ret_bool ?_, below_one _ _⟩
    rw [Bool.true_and]
  · rw [decide_eq_false hs]
    go_enter Try.func29, Try.ntmps29
    go_wp2_with fail
    go_ret
    exact ⟨rfl, below_one _ _⟩

set_option maxHeartbeats 1000000 in
theorem sized_calls (r : Rec) (A : Option Addr) (n c : Nat) (w : World) :
    Calls Try.prog 12 #[recV r (.slice A n c)] w fun e w' => e = .returned (.bool (sizedB r)) ∧ Below w.heap.size w w' := by
  unfold recV sizedB
  cases hm : r.it.mark with
  | true =>
    rw [if_pos rfl]
    go_enter Try.func12, Try.ntmps12
    go_wp2_with fail
    go_ret
    exact ⟨ret_bool (by rw [Bool.eq_iff_iff]; simp), below_one _ _⟩
  | false =>
    rw [if_neg (by simp)]
    by_cases h : 0 ≤ r.size
    · rw [decide_eq_true h]
      go_enter Try.func12, Try.ntmps12
      go_wp2_with fail
      go_ret
      exact ⟨rfl, below_one _ _⟩
    · rw [decide_eq_false h]
      go_enter Try.func12, Try.ntmps12
      go_wp2_with fail
      go_ret
      exact ⟨rfl, below_one _ _⟩

theorem At9.below {w w' : World} {b : Nat} {r : Rec} {v : Value} (h : At9 w b r v) (hl : b < w.heap.size) (hb : Below w.heap.size w w') : At9 w' b r v :=
  ⟨(hb.cell (p := ⟨b, 0, none⟩) hl).trans h.c0, (hb.cell (p := ⟨b, 1, none⟩) hl).trans h.c1, (hb.cell (p := ⟨b, 2, none⟩) hl).trans h.c2, (hb.cell (p := ⟨b, 3, none⟩) hl).trans h.c3,
   (hb.cell (p := ⟨b, 4, none⟩) hl).trans h.c4, (hb.cell (p := ⟨b, 5, none⟩) hl).trans h.c5, (hb.cell (p := ⟨b, 6, none⟩) hl).trans h.c6, (hb.cell (p := ⟨b, 7, none⟩) hl).trans h.c7, (hb.cell (p := ⟨b, 8, none⟩) hl).trans h.c8⟩

theorem pages_regrown (n : Int) (w : World) (d : Nat) (os : Array Obj) (h0 : 0 ≤ n) (h1 : n ≤ 100000) :
    Calls Try.prog 28 #[.int .i64 n] (grow (redrawn w d) os) fun e w'' => e = .returned (.int .i64 (pagesI n)) ∧ ∃ p : Regrown, w'' = grow (redrawn w p.d) p.os :=
  (pages_calls n _ h0 h1).mono fun _ _ ⟨he, hw⟩ => ⟨he, ⟨d, os⟩, hw⟩

/-- The box of a run. -/
def SBox (w : World) (g : Nat) (x : Int × Int) : Prop := w.heap[g]? = some (.cells #[.int .i64 x.1, .int .i64 x.2] 41 (0, 0))
theorem SBox.new (w : World) (x : Int × Int) : SBox (w.alloc (.cells #[.int .i64 x.1, .int .i64 x.2] 41)) w.heap.size x := heap_alloc_new w _
theorem SBox.lt {w : World} {g : Nat} {x : Int × Int} (h : SBox w g x) : g < w.heap.size := (Array.getElem?_eq_some_iff.1 h).1
theorem SBox.below {w w' : World} {g : Nat} {x : Int × Int} (h : SBox w g x) (hb : Below w.heap.size w w') : SBox w' g x := (hb.block g h.lt).trans h
theorem SBox.c0 {w : World} {g : Nat} {x : Int × Int} (h : SBox w g x) : w.cell? ⟨g, 0, none⟩ = some (.int .i64 x.1) := by rw [cell_of_row w g _ _ _ _ h]; rfl
theorem SBox.c1 {w : World} {g : Nat} {x : Int × Int} (h : SBox w g x) : w.cell? ⟨g, 1, none⟩ = some (.int .i64 x.2) := by rw [cell_of_row w g _ _ _ _ h]; rfl
theorem bdrewN {B : Nat} {a w : World} (h : Below B a w) (n : Nat) : Below B a (w.drewN n) := ⟨h.os, h.tape, h.output, h.size, h.block⟩

theorem drop_at {l : List (Int × Int)} {i : Nat} {x : Int × Int} (h : l[i]? = some x) : l.drop i = x :: l.drop (i + 1) := by
  obtain ⟨hi, hx⟩ := List.getElem?_eq_some_iff.1 h
  rw [List.drop_eq_getElem_cons hi, hx]

set_option maxRecDepth 100000 in
set_option maxHeartbeats 4000000 in
theorem placed_calls (r : Rec) (A : Option Addr) (n c : Nat) (w : World) (hv : Sps w (.slice A n c) r.spans) (h0 : 0 ≤ r.size) (h1 : r.size ≤ 1500) (hlen : n ≤ 1000) :
    Calls Try.prog 13 #[recV r (.slice A n c)] w fun e w' => e = .returned (.bool (placedB r)) ∧ Below w.heap.size w w' := by
  have hn := hv.at_.1
  obtain ⟨Y, hY, hbY, hBY⟩ : ∃ Y, Y = w.alloc (.cells (recC r (.slice A n c)) 26) ∧ RBox Y w.heap.size r (.slice A n c) ∧ Below w.heap.size w Y := ⟨_, rfl, RBox.new _ _ _, below_one _ _⟩
  have HV := Lib.hid (hv.below hBY)
  have HX := Lib.hid hbY
  have HBY := Lib.hid hBY
  have HY := Lib.hid hY
  have HN := Lib.hid hn
  have hpg : 0 ≤ pagesI r.size ∧ pagesI r.size ≤ 8 := by unfold pagesI; omega
  have HPG := Lib.hid hpg
  have k7 := hbY.at_.c7
  have k8 := hbY.at_.c8
  unfold recC at HY
  clear hv hbY hBY hY hn hpg
  unfold recV
  go_enter Try.func13, Try.ntmps13
  go_wp2_with fail
  rw [← HY.out]
  (with_reducible refine (pages_calls r.size _ h0 (by omega)).mono ?_)
  rintro e w1 ⟨rfl, rfl⟩
  go_wp2_with fail
  go_loopw [3, 4, 13] (fun u3 u4 u13 wr => ∃ (i : Nat) (lo left : Int), i ≤ n ∧ u13 = .int .i64 i ∧ u3 = .int .i64 lo ∧ u4 = .int .i64 left ∧ 1 ≤ lo ∧ lo ≤ 1000 ∧ 0 ≤ left ∧ left ≤ 8 ∧ Hid (pgo lo left (r.spans.drop i) = placedB r) ∧ Below w1.heap.size w1 wr) (fun _ _ u _ => n - (intOf u).toNat)
  case atStart =>
    have := HPG.out
    exact ⟨0, 1, _, Nat.zero_le _, rfl, rfl, rfl, by omega, by omega, by omega, by omega, Lib.hid rfl, Below.refl _ _⟩
  case round =>
    obtain ⟨i, lo, left, hi', rfl, rfl, rfl, hlo1, hlo2, hl1, hl2, HP, hbr⟩ := hrel
    have HBR := Lib.hid hbr
    clear hbr
    by_cases hlt : i < n
    · obtain ⟨x, hx⟩ : ∃ x, r.spans[i]? = some x := ⟨_, List.getElem?_eq_getElem (by have := HN.out; omega)⟩
      obtain ⟨b, off, rfl, hbl, hcell⟩ := HV.out.at_.2.2 (by omega)
      have c0 := (HBR.out.cell (p := ⟨b, off + i * 2, none⟩) hbl).trans (hcell i x hx).1
      have c1 := (HBR.out.cell (p := ⟨b, off + i * 2 + 1, none⟩) hbl).trans (hcell i x hx).2
      have hi1 : (0 : Int) ≤ (i : Int) := by omega
      have hi2 : (i : Int) < (n : Int) := by omega
      have HD := Lib.hid (drop_at hx)
      clear hcell hx
      have e1 : pgo lo left (r.spans.drop i) = (!(decide (x.2 < 1)) && (!(decide (left < x.2)) && ((decide (lo ≤ x.1) && decide (x.1 ≤ 512 - x.2)) && pgo (x.1 + x.2 + 1) (left - x.2) (r.spans.drop (i + 1))))) := by rw [HD.out]; rfl
      by_cases t1 : x.2 < 1
      · have HF : Hid (placedB r = false) := Lib.hid (by rw [← HP.out, e1, decide_eq_true t1]; rfl)
        clear e1
        go_wp2_with fail
        go_ret
        exact ⟨ret_bool HF.out.symm, below_trans' HBY.out (below_trans' HBR.out (below_one _ _))⟩
      · by_cases t2 : left < x.2
        · have HF : Hid (placedB r = false) := Lib.hid (by rw [← HP.out, e1, decide_eq_true t2, Bool.not_true, Bool.false_and, Bool.and_false])
          clear e1
          go_wp2_with fail
          go_ret
          exact ⟨ret_bool HF.out.symm, below_trans' HBY.out (below_trans' HBR.out (below_one _ _))⟩
        · rw [decide_eq_false t1, decide_eq_false t2, Bool.not_false, Bool.true_and, Bool.true_and] at e1
          have hx1 : 1 ≤ x.2 := by omega
          have hx2 : x.2 ≤ 8 := by omega
          have HC := Lib.hid (within_calls x.1 x.2 lo)
          have HE := Lib.hid e1
          clear e1
          go_wp2_with fail
          (with_reducible refine (HC.out _ (by omega) (by omega)).mono ?_)
          rintro e w2 ⟨rfl, hB2⟩
          cases ht : (decide (lo ≤ x.1) && decide (x.1 ≤ 512 - x.2)) with
          | false =>
            have HF : Hid (placedB r = false) := Lib.hid (by rw [← HP.out, HE.out, ht]; rfl)
            go_wp2_with fail
            go_ret
            exact ⟨ret_bool HF.out.symm, below_trans' HBY.out (below_trans' HBR.out (below_trans' (below_one _ _) hB2))⟩
          | true =>
            have HF : Hid (pgo (x.1 + x.2 + 1) (left - x.2) (r.spans.drop (i + 1)) = placedB r) := Lib.hid (by rw [← HP.out, HE.out, ht]; rfl)
            have hs := ht
            simp only [Bool.and_eq_true, decide_eq_true_eq] at hs
            obtain ⟨hs1, hs2⟩ := hs
            have hb2 := (SBox.new wr x).below hB2
            have d0 := hb2.c0
            have d1 := hb2.c1
            have HB2 := Lib.hid (below_trans' HBR.out (below_trans' (below_one _ _) hB2))
            clear hb2 hB2 c0 c1
            go_wp2_with fail
            go_quiet (fail)
            go_wp2_with fail
            refine ⟨⟨i + 1, x.1 + x.2 + 1, left - x.2, by omega, by go_num, rfl, rfl, by omega, by omega, by omega, by omega, HF, bdrewN HB2.out _⟩, by simp [intOf]; omega⟩
    · obtain rfl : i = n := by omega
      have HF : Hid ((left == 0) = placedB r) := Lib.hid (by rw [← HP.out, List.drop_of_length_le (by rw [HN.out]; exact Nat.le_refl _)]; rfl)
      go_wp2_with fail
      go_ret
      exact ⟨ret_bool HF.out, below_trans' HBY.out HBR.out⟩

end Go.Proofs.Ytkfjbhikibidiaa
