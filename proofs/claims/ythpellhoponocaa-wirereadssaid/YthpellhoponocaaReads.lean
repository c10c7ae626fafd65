/- WireReads: the walk. No statement is proved here. -/
import Derived.Test.YthpellhoponocaaEx
import Derived.Test.YthpellhoponocaaAwake
import Derived.Deep.RegionHeld3
import Derived.Deep.Cut
import Derived.Deep.CutRange
namespace Go.Proofs.Ythpellhoponocaa
open Go.RowKit

/-- What is asked of a tape. -/
structure AK where
  kind : Int
  low : Int
  high : Int

/-- Askings that came in. -/
def AskIn (w : World) (A : Option Addr) (len : Nat) (xs : List AK) : Prop :=
  xs.length = len ∧ (0 < len → ∃ b off, A = some ⟨b, off, none⟩ ∧ b < w.heap.size ∧ ∀ (j : Nat) (a : AK), xs[j]? = some a →
    w.cell? ⟨b, off + j * 3, none⟩ = some (.int .i64 a.kind) ∧ w.cell? ⟨b, off + j * 3 + 1, none⟩ = some (.int .i64 a.low) ∧ w.cell? ⟨b, off + j * 3 + 2, none⟩ = some (.int .i64 a.high))

/-- Both tapes, the same. -/
structure PT (w : World) (t : TK) (wr : World) : Prop where
  ta : TP 29 wr w.heap.size t
  tb : TP 31 wr (w.heap.size + 1) t
  below : Below w.heap.size w wr

theorem PT.start (w : World) (l : List UInt8) : PT w ⟨l, false⟩ ((w.alloc (.cells #[.string (strB l), .bool false] 29)).alloc (.cells #[.string (strB l), .bool false] 31)) where
  ta := (TP.new 29 w l false).alloc _
  tb := by
    have h := TP.new 31 (w.alloc (.cells #[.string (strB l), .bool false] 29)) l false
    rw [show (w.alloc (.cells #[.string (strB l), .bool false] 29)).heap.size = w.heap.size + 1 by simp] at h
    exact h
  below := below_new (below_new (Below.refl _ _) _) _

theorem PT.keep {w wr u : World} {t : TK} (h : PT w t wr) (hb : Below wr.heap.size wr u) : PT w t u := ⟨h.ta.below hb, h.tb.below hb, below_two h.below hb⟩
theorem PT.step {w wr u v : World} {t t' : TK} (h : PT w t wr) (ha : TP 29 u w.heap.size t') (hu : But w.heap.size wr u) (hb : TP 31 v (w.heap.size + 1) t') (hv : But (w.heap.size + 1) u v) : PT w t' v :=
  ⟨ha.but hv (by omega), hb, below_but (below_but h.below hu (Nat.le_refl _)) hv (by omega)⟩

theorem PT.drewN {w wr : World} {t : TK} (h : PT w t wr) (n : Nat) : PT w t (wr.drewN n) := ⟨TP.drewN h.ta n, TP.drewN h.tb n, ⟨h.below.os, h.below.tape, h.below.output, h.below.size, h.below.block⟩⟩
theorem done_q {t : TK} (b : Nat) (w : World) (ht : TP 29 w b t) : Calls Try.prog 23 #[.pointer (some ⟨b, 0, none⟩)] w fun e w' => e = .returned (.bool (doneV t)) ∧ w' = w :=
  (done_calls b t w ht).mono fun _ _ ⟨h, k⟩ => ⟨h, k.symm⟩
theorem rdone_q {t : TK} (b : Nat) (w : World) (ht : TP 31 w b t) : Calls Try.prog 24 #[.pointer (some ⟨b, 0, none⟩)] w fun e w' => e = .returned (.bool (doneV t)) ∧ w' = w :=
  (rdone_calls b t w ht).mono fun _ _ ⟨h, k⟩ => ⟨h, k.symm⟩

/-- An asking in a block of its own. -/
def XB (W : World) (g : Nat) (a : AK) : Prop := W.heap[g]? = some (.cells #[.int .i64 a.kind, .int .i64 a.low, .int .i64 a.high] 32 (0, 0))
theorem XB.cells {W : World} {g : Nat} {a : AK} (h : XB W g a) : W.cell? ⟨g, 0, none⟩ = some (.int .i64 a.kind) ∧ W.cell? ⟨g, 1, none⟩ = some (.int .i64 a.low) ∧ W.cell? ⟨g, 2, none⟩ = some (.int .i64 a.high) := by
  unfold XB at h
  refine ⟨?_, ?_, ?_⟩ <;> simp [World.cell?, h]
theorem XB.but {W V : World} {g c : Nat} {a : AK} (h : XB W g a) (hb : But c W V) (hc : g ≠ c) : XB V g a := Eq.trans (hb.block g (Array.getElem?_eq_some_iff.1 h).1 hc) h
theorem XB.new (wr : World) (k p q : Int) : ∃ X g, wr.alloc (.cells #[.int .i64 k, .int .i64 p, .int .i64 q] 32) = X ∧ wr.heap.size = g ∧ XB X g ⟨k, p, q⟩ ∧ Below wr.heap.size wr X :=
  ⟨_, _, rfl, rfl, heap_alloc_new wr _, (Below.refl _ _).alloc (Nat.le_refl _) _⟩

set_option maxRecDepth 100000 in
set_option maxHeartbeats 1600000 in
theorem reads_few (l m : List UInt8) (A : Option Addr) (len cap : Nat) (xs : List AK) (w : World) (hR : AskIn w A len xs) (hl : l.length ≤ 500) (hn : len ≤ 50) (hm : m.length ≤ 20) :
    Calls Try.prog 4 #[.string (strB l), .slice A len cap, .string (strB m)] w fun e w' => e = .returned (.bool true) ∧ Below w.heap.size w w' := by
  have g1 : ¬ (500 : Int) < (strB l).size := by rw [strB_size]; omega
  have g2 : ¬ (50 : Int) < (len : Int) := by omega
  have g3 : ¬ (20 : Int) < (strB m).size := by rw [strB_size]; omega
  have HR := Lib.hid hR
  have HM := Lib.hid hm
  have HP := Lib.hid (PT.start w l)
  clear hR hl hm
  go_enter Try.func4, Try.ntmps4
  go_wp2_with fail
  go_loopw [9] (fun u wr => ∃ (i : Nat) (t : TK), i ≤ len ∧ u = .int .i64 i ∧ PT w t wr) (fun u _ => len - (intOf u).toNat)
  case atStart => exact ⟨0, _, Nat.zero_le _, rfl, HP.out⟩
  case round =>
    obtain ⟨i, t, hi, rfl, hpt⟩ := hrel
    have HT := Lib.hid hpt
    clear hpt HP
    by_cases hlt : i < len
    · obtain ⟨a, ha⟩ : ∃ a, xs[i]? = some a := ⟨_, List.getElem?_eq_getElem (by have := HR.out.1; omega)⟩
      obtain ⟨b, off, rfl, hbl, hcell⟩ := HR.out.2 (by omega)
      have hc := hcell i a ha
      have hc0 : wr.cell? ⟨b, off + i * 3, none⟩ = some (.int .i64 a.kind) := (HT.out.below.cell (p := ⟨b, off + i * 3, none⟩) hbl).trans hc.1
      have hc1 : wr.cell? ⟨b, off + i * 3 + 1, none⟩ = some (.int .i64 a.low) := (HT.out.below.cell (p := ⟨b, off + i * 3 + 1, none⟩) hbl).trans hc.2.1
      have hc2 : wr.cell? ⟨b, off + i * 3 + 2, none⟩ = some (.int .i64 a.high) := (HT.out.below.cell (p := ⟨b, off + i * 3 + 2, none⟩) hbl).trans hc.2.2
      have hi1 : (0 : Int) ≤ (i : Int) := by omega
      have hi2 : (i : Int) < (len : Int) := by omega
      obtain ⟨kind, low, high⟩ := a
      clear hcell ha hc
      dsimp only at hc0 hc1 hc2
      go_upto_region 8 with (fail)
      obtain ⟨X, g, eX, eg, hXB, hBX⟩ := XB.new wr kind low high
      rw [eX, eg]
      have HX := Lib.hid hXB
      have HTX := Lib.hid (HT.out.keep hBX)
      have HG : Hid (w.heap.size + 1 < g) := by rw [← eg]; exact HT.out.tb.lt
      have hg0 : g ≠ w.heap.size := by have := HG.out; omega
      have hg1 : g ≠ w.heap.size + 1 := by have := HG.out; omega
      obtain ⟨x0, x1, x2⟩ := hXB.cells
      dsimp only at x0 x1 x2
      have HXD : Hid (XB X.drew g ⟨kind, low, high⟩) := hXB
      have HTD : Hid (PT w t X.drew) := ⟨HTX.out.ta.drew, HTX.out.tb.drew, HTX.out.below.drew⟩
      clear eX eg hXB hBX hc0 hc1 hc2 HT
      go_cut [94] from 31 to 137 (fun c wx => c = .bool false ∧ XB wx g ⟨kind, low, high⟩ ∧ ∃ t', PT w t' wx)
      case first =>
        by_cases hk0 : kind = 0
        · subst hk0
          refine region_start (S := fun W => XB W g ⟨0, low, high⟩) (by kernel_rfl) (by kernel_rfl) 54 #[false, false, false, false, false, false, false, false, false, false, false, false, false, false, false, false, false, false, false, false, false, false, false, false, false, false, false, false, false, false, false, false, false, false, false, false, false, false, false, false, false, false, false, false, false, false, false, false, false, false, false, false, false, false] rfl rfl HXD.out (fun hsel => ?_)
          have hS := HXD.out
          refine take_yes 0 41 (.pointer (some ⟨g, 0, none⟩)) rfl rfl hsel (by kernel_rfl) (by kernel_rfl) (fun _ _ _ h => h) (rfl) (fun W hW => ex_addr (i := 0) rfl rfl (by decide)) hS ?_
          simp only [Act.put, List.setIfInBounds_toArray, List.set_cons_zero, List.set_cons_succ]
          refine take_yes 1 42 (.int .i64 0) rfl rfl hsel (by kernel_rfl) (by kernel_rfl) (fun _ _ _ h => h) (rfl) (fun W hW => ex_load rfl rfl hW.cells.1) hS ?_
          simp only [Act.put, List.setIfInBounds_toArray, List.set_cons_zero, List.set_cons_succ]
          refine take_yes 2 43 (.bool true) rfl rfl hsel (by kernel_rfl) (by kernel_rfl) (fun _ _ _ h => h) (rfl) (fun W hW => ex_eq rfl rfl rfl rfl) hS ?_
          simp only [Act.put, List.setIfInBounds_toArray, List.set_cons_zero, List.set_cons_succ]
          refine take_yes 3 44 (.bool true) rfl rfl hsel (by kernel_rfl) (by kernel_rfl) (fun _ _ _ h => h) (rfl) (fun W hW => ex_move rfl rfl) hS ?_
          simp only [Act.put, List.setIfInBounds_toArray, List.set_cons_zero, List.set_cons_succ]
          refine take_yes 4 45 (.pointer (some ⟨w.heap.size, 0, none⟩)) rfl rfl hsel (by kernel_rfl) (by kernel_rfl) (fun _ _ _ h => h) (want_yes rfl rfl rfl (by simp only [List.getElem?_toArray, List.getElem?_cons_succ, List.getElem?_cons_zero])) (fun W hW => ex_move rfl rfl) hS ?_
          simp only [Act.put, List.setIfInBounds_toArray, List.set_cons_zero, List.set_cons_succ]
          refine take_yes 5 46 (.pointer (some ⟨g, 1, none⟩)) rfl rfl hsel (by kernel_rfl) (by kernel_rfl) (fun _ _ _ h => h) (want_yes rfl rfl rfl (by simp only [List.getElem?_toArray, List.getElem?_cons_succ, List.getElem?_cons_zero])) (fun W hW => ex_addr (i := 1) rfl rfl (by decide)) hS ?_
          simp only [Act.put, List.setIfInBounds_toArray, List.set_cons_zero, List.set_cons_succ]
          refine take_yes 6 47 (.int .i64 low) rfl rfl hsel (by kernel_rfl) (by kernel_rfl) (fun _ _ _ h => h) (want_yes rfl rfl rfl (by simp only [List.getElem?_toArray, List.getElem?_cons_succ, List.getElem?_cons_zero])) (fun W hW => ex_load rfl rfl hW.cells.2.1) hS ?_
          simp only [Act.put, List.setIfInBounds_toArray, List.set_cons_zero, List.set_cons_succ]
          refine take_yes 7 48 (.pointer (some ⟨g, 2, none⟩)) rfl rfl hsel (by kernel_rfl) (by kernel_rfl) (fun _ _ _ h => h) (want_yes rfl rfl rfl (by simp only [List.getElem?_toArray, List.getElem?_cons_succ, List.getElem?_cons_zero])) (fun W hW => ex_addr (i := 2) rfl rfl (by decide)) hS ?_
          simp only [Act.put, List.setIfInBounds_toArray, List.set_cons_zero, List.set_cons_succ]
          refine take_yes 8 49 (.int .i64 high) rfl rfl hsel (by kernel_rfl) (by kernel_rfl) (fun _ _ _ h => h) (want_yes rfl rfl rfl (by simp only [List.getElem?_toArray, List.getElem?_cons_succ, List.getElem?_cons_zero])) (fun W hW => ex_load rfl rfl hW.cells.2.2) hS ?_
          simp only [Act.put, List.setIfInBounds_toArray, List.set_cons_zero, List.set_cons_succ]
          refine take_yes 10 51 (.pointer (some ⟨w.heap.size + 1, 0, none⟩)) rfl rfl hsel (by kernel_rfl) (by kernel_rfl) (fun _ _ _ h => h) (want_yes rfl rfl rfl (by simp only [List.getElem?_toArray, List.getElem?_cons_succ, List.getElem?_cons_zero])) (fun W hW => ex_move rfl rfl) hS ?_
          simp only [Act.put, List.setIfInBounds_toArray, List.set_cons_zero, List.set_cons_succ]
          refine take_yes 11 52 (.pointer (some ⟨g, 1, none⟩)) rfl rfl hsel (by kernel_rfl) (by kernel_rfl) (fun _ _ _ h => h) (want_yes rfl rfl rfl (by simp only [List.getElem?_toArray, List.getElem?_cons_succ, List.getElem?_cons_zero])) (fun W hW => ex_addr (i := 1) rfl rfl (by decide)) hS ?_
          simp only [Act.put, List.setIfInBounds_toArray, List.set_cons_zero, List.set_cons_succ]
          refine take_yes 12 53 (.int .i64 low) rfl rfl hsel (by kernel_rfl) (by kernel_rfl) (fun _ _ _ h => h) (want_yes rfl rfl rfl (by simp only [List.getElem?_toArray, List.getElem?_cons_succ, List.getElem?_cons_zero])) (fun W hW => ex_load rfl rfl hW.cells.2.1) hS ?_
          simp only [Act.put, List.setIfInBounds_toArray, List.set_cons_zero, List.set_cons_succ]
          refine take_yes 13 54 (.pointer (some ⟨g, 2, none⟩)) rfl rfl hsel (by kernel_rfl) (by kernel_rfl) (fun _ _ _ h => h) (want_yes rfl rfl rfl (by simp only [List.getElem?_toArray, List.getElem?_cons_succ, List.getElem?_cons_zero])) (fun W hW => ex_addr (i := 2) rfl rfl (by decide)) hS ?_
          simp only [Act.put, List.setIfInBounds_toArray, List.set_cons_zero, List.set_cons_succ]
          refine take_yes 14 55 (.int .i64 high) rfl rfl hsel (by kernel_rfl) (by kernel_rfl) (fun _ _ _ h => h) (want_yes rfl rfl rfl (by simp only [List.getElem?_toArray, List.getElem?_cons_succ, List.getElem?_cons_zero])) (fun W hW => ex_load rfl rfl hW.cells.2.2) hS ?_
          simp only [Act.put, List.setIfInBounds_toArray, List.set_cons_zero, List.set_cons_succ]
          refine take_call 9 50 15 #[.pointer (some ⟨w.heap.size, 0, none⟩), .int .i64 low, .int .i64 high] rfl rfl (by kernel_rfl) (want_yes rfl rfl rfl (by simp only [List.getElem?_toArray, List.getElem?_cons_succ, List.getElem?_cons_zero])) rfl enters15 (by simp only [List.map_toArray, List.map_cons, List.map_nil]; rfl) ?_
          refine (ttwo_calls w.heap.size low high t _ HTD.out.ta).mono ?_
          rintro e y ⟨rfl, hty, hby⟩
          have HTY := Lib.hid hty
          have HBY := Lib.hid hby
          refine ⟨_, rfl, hS.but hby hg0, ?_⟩
          replace hS := hS.but hby hg0
          clear hty hby
          simp only [Act.put, List.setIfInBounds_toArray, List.set_cons_zero, List.set_cons_succ]
          refine take_call 15 56 16 #[.pointer (some ⟨w.heap.size + 1, 0, none⟩), .int .i64 low, .int .i64 high] rfl rfl (by kernel_rfl) (want_yes rfl rfl rfl (by simp only [List.getElem?_toArray, List.getElem?_cons_succ, List.getElem?_cons_zero])) rfl enters16 (by simp only [List.map_toArray, List.map_cons, List.map_nil]; rfl) ?_
          refine (rrtwo_calls (w.heap.size + 1) low high t _ (HTD.out.tb.but HBY.out (by omega))).mono ?_
          rintro e z ⟨rfl, htz, hbz⟩
          have HTZ := Lib.hid htz
          have HBZ := Lib.hid hbz
          refine ⟨_, rfl, hS.but hbz hg1, ?_⟩
          replace hS := hS.but hbz hg1
          clear htz hbz
          simp only [Act.put, List.setIfInBounds_toArray, List.set_cons_zero, List.set_cons_succ]
          refine take_yes 16 57 (.bool false) rfl rfl hsel (by kernel_rfl) (by kernel_rfl) (fun _ _ _ h => h) (want_yes rfl rfl rfl (by simp only [List.getElem?_toArray, List.getElem?_cons_succ, List.getElem?_cons_zero])) (fun W hW => ex_ne rfl rfl rfl) hS ?_
          simp only [Act.put, List.setIfInBounds_toArray, List.set_cons_zero, List.set_cons_succ]
          refine take_yes 17 58 (.bool false) rfl rfl hsel (by kernel_rfl) (by kernel_rfl) (fun _ _ _ h => h) (rfl) (fun W hW => ex_pick rfl rfl rfl rfl rfl) hS ?_
          simp only [Act.put, List.setIfInBounds_toArray, List.set_cons_zero, List.set_cons_succ]
          refine take_yes 18 59 (.bool false) rfl rfl hsel (by kernel_rfl) (by kernel_rfl) (fun _ _ _ h => h) (rfl) (fun W hW => ex_move rfl rfl) hS ?_
          simp only [Act.put, List.setIfInBounds_toArray, List.set_cons_zero, List.set_cons_succ]
          refine take_yes 19 60 (.pointer (some ⟨g, 0, none⟩)) rfl rfl hsel (by kernel_rfl) (by kernel_rfl) (fun _ _ _ h => h) (want_yes rfl rfl rfl (by simp only [List.getElem?_toArray, List.getElem?_cons_succ, List.getElem?_cons_zero])) (fun W hW => ex_addr (i := 0) rfl rfl (by decide)) hS ?_
          simp only [Act.put, List.setIfInBounds_toArray, List.set_cons_zero, List.set_cons_succ]
          refine take_yes 20 61 (.int .i64 0) rfl rfl hsel (by kernel_rfl) (by kernel_rfl) (fun _ _ _ h => h) (want_yes rfl rfl rfl (by simp only [List.getElem?_toArray, List.getElem?_cons_succ, List.getElem?_cons_zero])) (fun W hW => ex_load rfl rfl hW.cells.1) hS ?_
          simp only [Act.put, List.setIfInBounds_toArray, List.set_cons_zero, List.set_cons_succ]
          refine take_yes 21 62 (.bool false) rfl rfl hsel (by kernel_rfl) (by kernel_rfl) (fun _ _ _ h => h) (want_yes rfl rfl rfl (by simp only [List.getElem?_toArray, List.getElem?_cons_succ, List.getElem?_cons_zero])) (fun W hW => ex_eq rfl rfl rfl rfl) hS ?_
          simp only [Act.put, List.setIfInBounds_toArray, List.set_cons_zero, List.set_cons_succ]
          refine take_yes 22 63 (.bool false) rfl rfl hsel (by kernel_rfl) (by kernel_rfl) (fun _ _ _ h => h) (want_yes rfl rfl rfl (by simp only [List.getElem?_toArray, List.getElem?_cons_succ, List.getElem?_cons_zero])) (fun W hW => ex_move rfl rfl) hS ?_
          simp only [Act.put, List.setIfInBounds_toArray, List.set_cons_zero, List.set_cons_succ]
          refine take_no 23 64 rfl rfl hsel (by kernel_rfl) (by kernel_rfl) (fun _ _ _ h => h) (want_no rfl rfl rfl (by simp only [List.getElem?_toArray, List.getElem?_cons_succ, List.getElem?_cons_zero, Bool.not_true])) hS ?_
          simp only [Act.put, List.setIfInBounds_toArray, List.set_cons_zero, List.set_cons_succ]
          refine take_no 24 65 rfl rfl hsel (by kernel_rfl) (by kernel_rfl) (fun _ _ _ h => h) (want_no rfl rfl rfl (by simp only [List.getElem?_toArray, List.getElem?_cons_succ, List.getElem?_cons_zero, Bool.not_true])) hS ?_
          simp only [Act.put, List.setIfInBounds_toArray, List.set_cons_zero, List.set_cons_succ]
          refine take_no 25 66 rfl rfl hsel (by kernel_rfl) (by kernel_rfl) (fun _ _ _ h => h) (want_no rfl rfl rfl (by simp only [List.getElem?_toArray, List.getElem?_cons_succ, List.getElem?_cons_zero, Bool.not_true])) hS ?_
          simp only [Act.put, List.setIfInBounds_toArray, List.set_cons_zero, List.set_cons_succ]
          refine take_no 26 67 rfl rfl hsel (by kernel_rfl) (by kernel_rfl) (fun _ _ _ h => h) (want_no rfl rfl rfl (by simp only [List.getElem?_toArray, List.getElem?_cons_succ, List.getElem?_cons_zero, Bool.not_true])) hS ?_
          simp only [Act.put, List.setIfInBounds_toArray, List.set_cons_zero, List.set_cons_succ]
          refine take_no 27 68 rfl rfl hsel (by kernel_rfl) (by kernel_rfl) (fun _ _ _ h => h) (want_no rfl rfl rfl (by simp only [List.getElem?_toArray, List.getElem?_cons_succ, List.getElem?_cons_zero, Bool.not_true])) hS ?_
          simp only [Act.put, List.setIfInBounds_toArray, List.set_cons_zero, List.set_cons_succ]
          refine take_no 28 69 rfl rfl hsel (by kernel_rfl) (by kernel_rfl) (fun _ _ _ h => h) (want_no rfl rfl rfl (by simp only [List.getElem?_toArray, List.getElem?_cons_succ, List.getElem?_cons_zero, Bool.not_true])) hS ?_
          simp only [Act.put, List.setIfInBounds_toArray, List.set_cons_zero, List.set_cons_succ]
          refine take_no 29 70 rfl rfl hsel (by kernel_rfl) (by kernel_rfl) (fun _ _ _ h => h) (want_no rfl rfl rfl (by simp only [List.getElem?_toArray, List.getElem?_cons_succ, List.getElem?_cons_zero, Bool.not_true])) hS ?_
          simp only [Act.put, List.setIfInBounds_toArray, List.set_cons_zero, List.set_cons_succ]
          refine take_no 30 71 rfl rfl hsel (by kernel_rfl) (by kernel_rfl) (fun _ _ _ h => h) (want_no rfl rfl rfl (by simp only [List.getElem?_toArray, List.getElem?_cons_succ, List.getElem?_cons_zero, Bool.not_true])) hS ?_
          simp only [Act.put, List.setIfInBounds_toArray, List.set_cons_zero, List.set_cons_succ]
          refine take_no 31 72 rfl rfl hsel (by kernel_rfl) (by kernel_rfl) (fun _ _ _ h => h) (want_no rfl rfl rfl (by simp only [List.getElem?_toArray, List.getElem?_cons_succ, List.getElem?_cons_zero, Bool.not_true])) hS ?_
          simp only [Act.put, List.setIfInBounds_toArray, List.set_cons_zero, List.set_cons_succ]
          refine take_no 32 73 rfl rfl hsel (by kernel_rfl) (by kernel_rfl) (fun _ _ _ h => h) (want_no rfl rfl rfl (by simp only [List.getElem?_toArray, List.getElem?_cons_succ, List.getElem?_cons_zero, Bool.not_true])) hS ?_
          simp only [Act.put, List.setIfInBounds_toArray, List.set_cons_zero, List.set_cons_succ]
          refine take_no 33 74 rfl rfl hsel (by kernel_rfl) (by kernel_rfl) (fun _ _ _ h => h) (want_no rfl rfl rfl (by simp only [List.getElem?_toArray, List.getElem?_cons_succ, List.getElem?_cons_zero, Bool.not_true])) hS ?_
          simp only [Act.put, List.setIfInBounds_toArray, List.set_cons_zero, List.set_cons_succ]
          refine take_no 34 75 rfl rfl hsel (by kernel_rfl) (by kernel_rfl) (fun _ _ _ h => h) (want_no rfl rfl rfl (by simp only [List.getElem?_toArray, List.getElem?_cons_succ, List.getElem?_cons_zero, Bool.not_true])) hS ?_
          simp only [Act.put, List.setIfInBounds_toArray, List.set_cons_zero, List.set_cons_succ]
          refine take_no 35 76 rfl rfl hsel (by kernel_rfl) (by kernel_rfl) (fun _ _ _ h => h) (want_no rfl rfl rfl (by simp only [List.getElem?_toArray, List.getElem?_cons_succ, List.getElem?_cons_zero, Bool.not_true])) hS ?_
          simp only [Act.put, List.setIfInBounds_toArray, List.set_cons_zero, List.set_cons_succ]
          refine take_yes 36 77 (.bool false) rfl rfl hsel (by kernel_rfl) (by kernel_rfl) (fun _ _ _ h => h) (want_yes rfl rfl rfl (by simp only [List.getElem?_toArray, List.getElem?_cons_succ, List.getElem?_cons_zero])) (fun W hW => ex_pick rfl rfl rfl rfl rfl) hS ?_
          simp only [Act.put, List.setIfInBounds_toArray, List.set_cons_zero, List.set_cons_succ]
          refine take_yes 37 78 (.bool false) rfl rfl hsel (by kernel_rfl) (by kernel_rfl) (fun _ _ _ h => h) (rfl) (fun W hW => ex_pick rfl rfl rfl rfl rfl) hS ?_
          simp only [Act.put, List.setIfInBounds_toArray, List.set_cons_zero, List.set_cons_succ]
          refine take_yes 38 79 (.bool false) rfl rfl hsel (by kernel_rfl) (by kernel_rfl) (fun _ _ _ h => h) (rfl) (fun W hW => ex_move rfl rfl) hS ?_
          simp only [Act.put, List.setIfInBounds_toArray, List.set_cons_zero, List.set_cons_succ]
          refine take_yes 39 80 (.pointer (some ⟨g, 0, none⟩)) rfl rfl hsel (by kernel_rfl) (by kernel_rfl) (fun _ _ _ h => h) (want_yes rfl rfl rfl (by simp only [List.getElem?_toArray, List.getElem?_cons_succ, List.getElem?_cons_zero])) (fun W hW => ex_addr (i := 0) rfl rfl (by decide)) hS ?_
          simp only [Act.put, List.setIfInBounds_toArray, List.set_cons_zero, List.set_cons_succ]
          refine take_yes 40 81 (.int .i64 0) rfl rfl hsel (by kernel_rfl) (by kernel_rfl) (fun _ _ _ h => h) (want_yes rfl rfl rfl (by simp only [List.getElem?_toArray, List.getElem?_cons_succ, List.getElem?_cons_zero])) (fun W hW => ex_load rfl rfl hW.cells.1) hS ?_
          simp only [Act.put, List.setIfInBounds_toArray, List.set_cons_zero, List.set_cons_succ]
          refine take_yes 41 82 (.bool false) rfl rfl hsel (by kernel_rfl) (by kernel_rfl) (fun _ _ _ h => h) (want_yes rfl rfl rfl (by simp only [List.getElem?_toArray, List.getElem?_cons_succ, List.getElem?_cons_zero])) (fun W hW => ex_eq rfl rfl rfl rfl) hS ?_
          simp only [Act.put, List.setIfInBounds_toArray, List.set_cons_zero, List.set_cons_succ]
          refine take_yes 42 83 (.bool false) rfl rfl hsel (by kernel_rfl) (by kernel_rfl) (fun _ _ _ h => h) (want_yes rfl rfl rfl (by simp only [List.getElem?_toArray, List.getElem?_cons_succ, List.getElem?_cons_zero])) (fun W hW => ex_move rfl rfl) hS ?_
          simp only [Act.put, List.setIfInBounds_toArray, List.set_cons_zero, List.set_cons_succ]
          refine take_no 43 84 rfl rfl hsel (by kernel_rfl) (by kernel_rfl) (fun _ _ _ h => h) (want_no rfl rfl rfl (by simp only [List.getElem?_toArray, List.getElem?_cons_succ, List.getElem?_cons_zero, Bool.not_true])) hS ?_
          simp only [Act.put, List.setIfInBounds_toArray, List.set_cons_zero, List.set_cons_succ]
          refine take_no 44 85 rfl rfl hsel (by kernel_rfl) (by kernel_rfl) (fun _ _ _ h => h) (want_no rfl rfl rfl (by simp only [List.getElem?_toArray, List.getElem?_cons_succ, List.getElem?_cons_zero, Bool.not_true])) hS ?_
          simp only [Act.put, List.setIfInBounds_toArray, List.set_cons_zero, List.set_cons_succ]
          refine take_no 45 86 rfl rfl hsel (by kernel_rfl) (by kernel_rfl) (fun _ _ _ h => h) (want_no rfl rfl rfl (by simp only [List.getElem?_toArray, List.getElem?_cons_succ, List.getElem?_cons_zero, Bool.not_true])) hS ?_
          simp only [Act.put, List.setIfInBounds_toArray, List.set_cons_zero, List.set_cons_succ]
          refine take_no 46 87 rfl rfl hsel (by kernel_rfl) (by kernel_rfl) (fun _ _ _ h => h) (want_no rfl rfl rfl (by simp only [List.getElem?_toArray, List.getElem?_cons_succ, List.getElem?_cons_zero, Bool.not_true])) hS ?_
          simp only [Act.put, List.setIfInBounds_toArray, List.set_cons_zero, List.set_cons_succ]
          refine take_no 47 88 rfl rfl hsel (by kernel_rfl) (by kernel_rfl) (fun _ _ _ h => h) (want_no rfl rfl rfl (by simp only [List.getElem?_toArray, List.getElem?_cons_succ, List.getElem?_cons_zero, Bool.not_true])) hS ?_
          simp only [Act.put, List.setIfInBounds_toArray, List.set_cons_zero, List.set_cons_succ]
          refine take_no 48 89 rfl rfl hsel (by kernel_rfl) (by kernel_rfl) (fun _ _ _ h => h) (want_no rfl rfl rfl (by simp only [List.getElem?_toArray, List.getElem?_cons_succ, List.getElem?_cons_zero, Bool.not_true])) hS ?_
          simp only [Act.put, List.setIfInBounds_toArray, List.set_cons_zero, List.set_cons_succ]
          refine take_no 49 90 rfl rfl hsel (by kernel_rfl) (by kernel_rfl) (fun _ _ _ h => h) (want_no rfl rfl rfl (by simp only [List.getElem?_toArray, List.getElem?_cons_succ, List.getElem?_cons_zero, Bool.not_true])) hS ?_
          simp only [Act.put, List.setIfInBounds_toArray, List.set_cons_zero, List.set_cons_succ]
          refine take_no 50 91 rfl rfl hsel (by kernel_rfl) (by kernel_rfl) (fun _ _ _ h => h) (want_no rfl rfl rfl (by simp only [List.getElem?_toArray, List.getElem?_cons_succ, List.getElem?_cons_zero, Bool.not_true])) hS ?_
          simp only [Act.put, List.setIfInBounds_toArray, List.set_cons_zero, List.set_cons_succ]
          refine take_no 51 92 rfl rfl hsel (by kernel_rfl) (by kernel_rfl) (fun _ _ _ h => h) (want_no rfl rfl rfl (by simp only [List.getElem?_toArray, List.getElem?_cons_succ, List.getElem?_cons_zero, Bool.not_true])) hS ?_
          simp only [Act.put, List.setIfInBounds_toArray, List.set_cons_zero, List.set_cons_succ]
          refine take_yes 52 93 (.bool false) rfl rfl hsel (by kernel_rfl) (by kernel_rfl) (fun _ _ _ h => h) (want_yes rfl rfl rfl (by simp only [List.getElem?_toArray, List.getElem?_cons_succ, List.getElem?_cons_zero])) (fun W hW => ex_pick rfl rfl rfl rfl rfl) hS ?_
          simp only [Act.put, List.setIfInBounds_toArray, List.set_cons_zero, List.set_cons_succ]
          refine take_yes 53 94 (.bool false) rfl rfl hsel (by kernel_rfl) (by kernel_rfl) (fun _ _ _ h => h) (rfl) (fun W hW => ex_pick rfl rfl rfl rfl rfl) hS ?_
          simp only [Act.put, List.setIfInBounds_toArray, List.set_cons_zero, List.set_cons_succ]
          refine wpAnyH_done (by kernel_rfl) ?_ _
          go_wp2_with fail
          go_meet
          case rel => exact ⟨rfl, hS, numS 2 low high t, HTD.out.step HTY.out HBY.out HTZ.out HBZ.out⟩
        by_cases hk1 : kind = 1
        · subst hk1
          refine region_start (S := fun W => XB W g ⟨1, low, high⟩) (by kernel_rfl) (by kernel_rfl) 54 #[false, false, false, false, false, false, false, false, false, false, false, false, false, false, false, false, false, false, false, false, false, false, false, false, false, false, false, false, false, false, false, false, false, false, false, false, false, false, false, false, false, false, false, false, false, false, false, false, false, false, false, false, false, false] rfl rfl HXD.out (fun hsel => ?_)
          have hS := HXD.out
          refine take_yes 0 41 (.pointer (some ⟨g, 0, none⟩)) rfl rfl hsel (by kernel_rfl) (by kernel_rfl) (fun _ _ _ h => h) (rfl) (fun W hW => ex_addr (i := 0) rfl rfl (by decide)) hS ?_
          simp only [Act.put, List.setIfInBounds_toArray, List.set_cons_zero, List.set_cons_succ]
          refine take_yes 1 42 (.int .i64 1) rfl rfl hsel (by kernel_rfl) (by kernel_rfl) (fun _ _ _ h => h) (rfl) (fun W hW => ex_load rfl rfl hW.cells.1) hS ?_
          simp only [Act.put, List.setIfInBounds_toArray, List.set_cons_zero, List.set_cons_succ]
          refine take_yes 2 43 (.bool false) rfl rfl hsel (by kernel_rfl) (by kernel_rfl) (fun _ _ _ h => h) (rfl) (fun W hW => ex_eq rfl rfl rfl rfl) hS ?_
          simp only [Act.put, List.setIfInBounds_toArray, List.set_cons_zero, List.set_cons_succ]
          refine take_yes 3 44 (.bool false) rfl rfl hsel (by kernel_rfl) (by kernel_rfl) (fun _ _ _ h => h) (rfl) (fun W hW => ex_move rfl rfl) hS ?_
          simp only [Act.put, List.setIfInBounds_toArray, List.set_cons_zero, List.set_cons_succ]
          refine take_no 4 45 rfl rfl hsel (by kernel_rfl) (by kernel_rfl) (fun _ _ _ h => h) (want_no rfl rfl rfl (by simp only [List.getElem?_toArray, List.getElem?_cons_succ, List.getElem?_cons_zero, Bool.not_true])) hS ?_
          simp only [Act.put, List.setIfInBounds_toArray, List.set_cons_zero, List.set_cons_succ]
          refine take_no 5 46 rfl rfl hsel (by kernel_rfl) (by kernel_rfl) (fun _ _ _ h => h) (want_no rfl rfl rfl (by simp only [List.getElem?_toArray, List.getElem?_cons_succ, List.getElem?_cons_zero, Bool.not_true])) hS ?_
          simp only [Act.put, List.setIfInBounds_toArray, List.set_cons_zero, List.set_cons_succ]
          refine take_no 6 47 rfl rfl hsel (by kernel_rfl) (by kernel_rfl) (fun _ _ _ h => h) (want_no rfl rfl rfl (by simp only [List.getElem?_toArray, List.getElem?_cons_succ, List.getElem?_cons_zero, Bool.not_true])) hS ?_
          simp only [Act.put, List.setIfInBounds_toArray, List.set_cons_zero, List.set_cons_succ]
          refine take_no 7 48 rfl rfl hsel (by kernel_rfl) (by kernel_rfl) (fun _ _ _ h => h) (want_no rfl rfl rfl (by simp only [List.getElem?_toArray, List.getElem?_cons_succ, List.getElem?_cons_zero, Bool.not_true])) hS ?_
          simp only [Act.put, List.setIfInBounds_toArray, List.set_cons_zero, List.set_cons_succ]
          refine take_no 8 49 rfl rfl hsel (by kernel_rfl) (by kernel_rfl) (fun _ _ _ h => h) (want_no rfl rfl rfl (by simp only [List.getElem?_toArray, List.getElem?_cons_succ, List.getElem?_cons_zero, Bool.not_true])) hS ?_
          simp only [Act.put, List.setIfInBounds_toArray, List.set_cons_zero, List.set_cons_succ]
          refine take_no 9 50 rfl rfl hsel (by kernel_rfl) (by kernel_rfl) (fun _ _ _ h => h) (want_no rfl rfl rfl (by simp only [List.getElem?_toArray, List.getElem?_cons_succ, List.getElem?_cons_zero, Bool.not_true])) hS ?_
          simp only [Act.put, List.setIfInBounds_toArray, List.set_cons_zero, List.set_cons_succ]
          refine take_no 10 51 rfl rfl hsel (by kernel_rfl) (by kernel_rfl) (fun _ _ _ h => h) (want_no rfl rfl rfl (by simp only [List.getElem?_toArray, List.getElem?_cons_succ, List.getElem?_cons_zero, Bool.not_true])) hS ?_
          simp only [Act.put, List.setIfInBounds_toArray, List.set_cons_zero, List.set_cons_succ]
          refine take_no 11 52 rfl rfl hsel (by kernel_rfl) (by kernel_rfl) (fun _ _ _ h => h) (want_no rfl rfl rfl (by simp only [List.getElem?_toArray, List.getElem?_cons_succ, List.getElem?_cons_zero, Bool.not_true])) hS ?_
          simp only [Act.put, List.setIfInBounds_toArray, List.set_cons_zero, List.set_cons_succ]
          refine take_no 12 53 rfl rfl hsel (by kernel_rfl) (by kernel_rfl) (fun _ _ _ h => h) (want_no rfl rfl rfl (by simp only [List.getElem?_toArray, List.getElem?_cons_succ, List.getElem?_cons_zero, Bool.not_true])) hS ?_
          simp only [Act.put, List.setIfInBounds_toArray, List.set_cons_zero, List.set_cons_succ]
          refine take_no 13 54 rfl rfl hsel (by kernel_rfl) (by kernel_rfl) (fun _ _ _ h => h) (want_no rfl rfl rfl (by simp only [List.getElem?_toArray, List.getElem?_cons_succ, List.getElem?_cons_zero, Bool.not_true])) hS ?_
          simp only [Act.put, List.setIfInBounds_toArray, List.set_cons_zero, List.set_cons_succ]
          refine take_no 14 55 rfl rfl hsel (by kernel_rfl) (by kernel_rfl) (fun _ _ _ h => h) (want_no rfl rfl rfl (by simp only [List.getElem?_toArray, List.getElem?_cons_succ, List.getElem?_cons_zero, Bool.not_true])) hS ?_
          simp only [Act.put, List.setIfInBounds_toArray, List.set_cons_zero, List.set_cons_succ]
          refine take_no 15 56 rfl rfl hsel (by kernel_rfl) (by kernel_rfl) (fun _ _ _ h => h) (want_no rfl rfl rfl (by simp only [List.getElem?_toArray, List.getElem?_cons_succ, List.getElem?_cons_zero, Bool.not_true])) hS ?_
          simp only [Act.put, List.setIfInBounds_toArray, List.set_cons_zero, List.set_cons_succ]
          refine take_no 16 57 rfl rfl hsel (by kernel_rfl) (by kernel_rfl) (fun _ _ _ h => h) (want_no rfl rfl rfl (by simp only [List.getElem?_toArray, List.getElem?_cons_succ, List.getElem?_cons_zero, Bool.not_true])) hS ?_
          simp only [Act.put, List.setIfInBounds_toArray, List.set_cons_zero, List.set_cons_succ]
          refine take_yes 17 58 (.bool false) rfl rfl hsel (by kernel_rfl) (by kernel_rfl) (fun _ _ _ h => h) (rfl) (fun W hW => ex_pick rfl rfl rfl rfl rfl) hS ?_
          simp only [Act.put, List.setIfInBounds_toArray, List.set_cons_zero, List.set_cons_succ]
          refine take_yes 18 59 (.bool false) rfl rfl hsel (by kernel_rfl) (by kernel_rfl) (fun _ _ _ h => h) (rfl) (fun W hW => ex_move rfl rfl) hS ?_
          simp only [Act.put, List.setIfInBounds_toArray, List.set_cons_zero, List.set_cons_succ]
          refine take_yes 19 60 (.pointer (some ⟨g, 0, none⟩)) rfl rfl hsel (by kernel_rfl) (by kernel_rfl) (fun _ _ _ h => h) (want_yes rfl rfl rfl (by simp only [List.getElem?_toArray, List.getElem?_cons_succ, List.getElem?_cons_zero])) (fun W hW => ex_addr (i := 0) rfl rfl (by decide)) hS ?_
          simp only [Act.put, List.setIfInBounds_toArray, List.set_cons_zero, List.set_cons_succ]
          refine take_yes 20 61 (.int .i64 1) rfl rfl hsel (by kernel_rfl) (by kernel_rfl) (fun _ _ _ h => h) (want_yes rfl rfl rfl (by simp only [List.getElem?_toArray, List.getElem?_cons_succ, List.getElem?_cons_zero])) (fun W hW => ex_load rfl rfl hW.cells.1) hS ?_
          simp only [Act.put, List.setIfInBounds_toArray, List.set_cons_zero, List.set_cons_succ]
          refine take_yes 21 62 (.bool true) rfl rfl hsel (by kernel_rfl) (by kernel_rfl) (fun _ _ _ h => h) (want_yes rfl rfl rfl (by simp only [List.getElem?_toArray, List.getElem?_cons_succ, List.getElem?_cons_zero])) (fun W hW => ex_eq rfl rfl rfl rfl) hS ?_
          simp only [Act.put, List.setIfInBounds_toArray, List.set_cons_zero, List.set_cons_succ]
          refine take_yes 22 63 (.bool true) rfl rfl hsel (by kernel_rfl) (by kernel_rfl) (fun _ _ _ h => h) (want_yes rfl rfl rfl (by simp only [List.getElem?_toArray, List.getElem?_cons_succ, List.getElem?_cons_zero])) (fun W hW => ex_move rfl rfl) hS ?_
          simp only [Act.put, List.setIfInBounds_toArray, List.set_cons_zero, List.set_cons_succ]
          refine take_yes 23 64 (.pointer (some ⟨w.heap.size, 0, none⟩)) rfl rfl hsel (by kernel_rfl) (by kernel_rfl) (fun _ _ _ h => h) (want_yes rfl rfl rfl (by simp only [List.getElem?_toArray, List.getElem?_cons_succ, List.getElem?_cons_zero])) (fun W hW => ex_move rfl rfl) hS ?_
          simp only [Act.put, List.setIfInBounds_toArray, List.set_cons_zero, List.set_cons_succ]
          refine take_yes 24 65 (.pointer (some ⟨g, 1, none⟩)) rfl rfl hsel (by kernel_rfl) (by kernel_rfl) (fun _ _ _ h => h) (want_yes rfl rfl rfl (by simp only [List.getElem?_toArray, List.getElem?_cons_succ, List.getElem?_cons_zero])) (fun W hW => ex_addr (i := 1) rfl rfl (by decide)) hS ?_
          simp only [Act.put, List.setIfInBounds_toArray, List.set_cons_zero, List.set_cons_succ]
          refine take_yes 25 66 (.int .i64 low) rfl rfl hsel (by kernel_rfl) (by kernel_rfl) (fun _ _ _ h => h) (want_yes rfl rfl rfl (by simp only [List.getElem?_toArray, List.getElem?_cons_succ, List.getElem?_cons_zero])) (fun W hW => ex_load rfl rfl hW.cells.2.1) hS ?_
          simp only [Act.put, List.setIfInBounds_toArray, List.set_cons_zero, List.set_cons_succ]
          refine take_yes 26 67 (.pointer (some ⟨g, 2, none⟩)) rfl rfl hsel (by kernel_rfl) (by kernel_rfl) (fun _ _ _ h => h) (want_yes rfl rfl rfl (by simp only [List.getElem?_toArray, List.getElem?_cons_succ, List.getElem?_cons_zero])) (fun W hW => ex_addr (i := 2) rfl rfl (by decide)) hS ?_
          simp only [Act.put, List.setIfInBounds_toArray, List.set_cons_zero, List.set_cons_succ]
          refine take_yes 27 68 (.int .i64 high) rfl rfl hsel (by kernel_rfl) (by kernel_rfl) (fun _ _ _ h => h) (want_yes rfl rfl rfl (by simp only [List.getElem?_toArray, List.getElem?_cons_succ, List.getElem?_cons_zero])) (fun W hW => ex_load rfl rfl hW.cells.2.2) hS ?_
          simp only [Act.put, List.setIfInBounds_toArray, List.set_cons_zero, List.set_cons_succ]
          refine take_yes 29 70 (.pointer (some ⟨w.heap.size + 1, 0, none⟩)) rfl rfl hsel (by kernel_rfl) (by kernel_rfl) (fun _ _ _ h => h) (want_yes rfl rfl rfl (by simp only [List.getElem?_toArray, List.getElem?_cons_succ, List.getElem?_cons_zero])) (fun W hW => ex_move rfl rfl) hS ?_
          simp only [Act.put, List.setIfInBounds_toArray, List.set_cons_zero, List.set_cons_succ]
          refine take_yes 30 71 (.pointer (some ⟨g, 1, none⟩)) rfl rfl hsel (by kernel_rfl) (by kernel_rfl) (fun _ _ _ h => h) (want_yes rfl rfl rfl (by simp only [List.getElem?_toArray, List.getElem?_cons_succ, List.getElem?_cons_zero])) (fun W hW => ex_addr (i := 1) rfl rfl (by decide)) hS ?_
          simp only [Act.put, List.setIfInBounds_toArray, List.set_cons_zero, List.set_cons_succ]
          refine take_yes 31 72 (.int .i64 low) rfl rfl hsel (by kernel_rfl) (by kernel_rfl) (fun _ _ _ h => h) (want_yes rfl rfl rfl (by simp only [List.getElem?_toArray, List.getElem?_cons_succ, List.getElem?_cons_zero])) (fun W hW => ex_load rfl rfl hW.cells.2.1) hS ?_
          simp only [Act.put, List.setIfInBounds_toArray, List.set_cons_zero, List.set_cons_succ]
          refine take_yes 32 73 (.pointer (some ⟨g, 2, none⟩)) rfl rfl hsel (by kernel_rfl) (by kernel_rfl) (fun _ _ _ h => h) (want_yes rfl rfl rfl (by simp only [List.getElem?_toArray, List.getElem?_cons_succ, List.getElem?_cons_zero])) (fun W hW => ex_addr (i := 2) rfl rfl (by decide)) hS ?_
          simp only [Act.put, List.setIfInBounds_toArray, List.set_cons_zero, List.set_cons_succ]
          refine take_yes 33 74 (.int .i64 high) rfl rfl hsel (by kernel_rfl) (by kernel_rfl) (fun _ _ _ h => h) (want_yes rfl rfl rfl (by simp only [List.getElem?_toArray, List.getElem?_cons_succ, List.getElem?_cons_zero])) (fun W hW => ex_load rfl rfl hW.cells.2.2) hS ?_
          simp only [Act.put, List.setIfInBounds_toArray, List.set_cons_zero, List.set_cons_succ]
          refine take_call 28 69 17 #[.pointer (some ⟨w.heap.size, 0, none⟩), .int .i64 low, .int .i64 high] rfl rfl (by kernel_rfl) (want_yes rfl rfl rfl (by simp only [List.getElem?_toArray, List.getElem?_cons_succ, List.getElem?_cons_zero])) rfl enters17 (by simp only [List.map_toArray, List.map_cons, List.map_nil]; rfl) ?_
          refine (tfour_calls w.heap.size low high t _ HTD.out.ta).mono ?_
          rintro e y ⟨rfl, hty, hby⟩
          have HTY := Lib.hid hty
          have HBY := Lib.hid hby
          refine ⟨_, rfl, hS.but hby hg0, ?_⟩
          replace hS := hS.but hby hg0
          clear hty hby
          simp only [Act.put, List.setIfInBounds_toArray, List.set_cons_zero, List.set_cons_succ]
          refine take_call 34 75 18 #[.pointer (some ⟨w.heap.size + 1, 0, none⟩), .int .i64 low, .int .i64 high] rfl rfl (by kernel_rfl) (want_yes rfl rfl rfl (by simp only [List.getElem?_toArray, List.getElem?_cons_succ, List.getElem?_cons_zero])) rfl enters18 (by simp only [List.map_toArray, List.map_cons, List.map_nil]; rfl) ?_
          refine (rrfour_calls (w.heap.size + 1) low high t _ (HTD.out.tb.but HBY.out (by omega))).mono ?_
          rintro e z ⟨rfl, htz, hbz⟩
          have HTZ := Lib.hid htz
          have HBZ := Lib.hid hbz
          refine ⟨_, rfl, hS.but hbz hg1, ?_⟩
          replace hS := hS.but hbz hg1
          clear htz hbz
          simp only [Act.put, List.setIfInBounds_toArray, List.set_cons_zero, List.set_cons_succ]
          refine take_yes 35 76 (.bool false) rfl rfl hsel (by kernel_rfl) (by kernel_rfl) (fun _ _ _ h => h) (want_yes rfl rfl rfl (by simp only [List.getElem?_toArray, List.getElem?_cons_succ, List.getElem?_cons_zero])) (fun W hW => ex_ne rfl rfl rfl) hS ?_
          simp only [Act.put, List.setIfInBounds_toArray, List.set_cons_zero, List.set_cons_succ]
          refine take_yes 36 77 (.bool false) rfl rfl hsel (by kernel_rfl) (by kernel_rfl) (fun _ _ _ h => h) (want_yes rfl rfl rfl (by simp only [List.getElem?_toArray, List.getElem?_cons_succ, List.getElem?_cons_zero])) (fun W hW => ex_pick rfl rfl rfl rfl rfl) hS ?_
          simp only [Act.put, List.setIfInBounds_toArray, List.set_cons_zero, List.set_cons_succ]
          refine take_yes 37 78 (.bool false) rfl rfl hsel (by kernel_rfl) (by kernel_rfl) (fun _ _ _ h => h) (rfl) (fun W hW => ex_pick rfl rfl rfl rfl rfl) hS ?_
          simp only [Act.put, List.setIfInBounds_toArray, List.set_cons_zero, List.set_cons_succ]
          refine take_yes 38 79 (.bool false) rfl rfl hsel (by kernel_rfl) (by kernel_rfl) (fun _ _ _ h => h) (rfl) (fun W hW => ex_move rfl rfl) hS ?_
          simp only [Act.put, List.setIfInBounds_toArray, List.set_cons_zero, List.set_cons_succ]
          refine take_yes 39 80 (.pointer (some ⟨g, 0, none⟩)) rfl rfl hsel (by kernel_rfl) (by kernel_rfl) (fun _ _ _ h => h) (want_yes rfl rfl rfl (by simp only [List.getElem?_toArray, List.getElem?_cons_succ, List.getElem?_cons_zero])) (fun W hW => ex_addr (i := 0) rfl rfl (by decide)) hS ?_
          simp only [Act.put, List.setIfInBounds_toArray, List.set_cons_zero, List.set_cons_succ]
          refine take_yes 40 81 (.int .i64 1) rfl rfl hsel (by kernel_rfl) (by kernel_rfl) (fun _ _ _ h => h) (want_yes rfl rfl rfl (by simp only [List.getElem?_toArray, List.getElem?_cons_succ, List.getElem?_cons_zero])) (fun W hW => ex_load rfl rfl hW.cells.1) hS ?_
          simp only [Act.put, List.setIfInBounds_toArray, List.set_cons_zero, List.set_cons_succ]
          refine take_yes 41 82 (.bool false) rfl rfl hsel (by kernel_rfl) (by kernel_rfl) (fun _ _ _ h => h) (want_yes rfl rfl rfl (by simp only [List.getElem?_toArray, List.getElem?_cons_succ, List.getElem?_cons_zero])) (fun W hW => ex_eq rfl rfl rfl rfl) hS ?_
          simp only [Act.put, List.setIfInBounds_toArray, List.set_cons_zero, List.set_cons_succ]
          refine take_yes 42 83 (.bool false) rfl rfl hsel (by kernel_rfl) (by kernel_rfl) (fun _ _ _ h => h) (want_yes rfl rfl rfl (by simp only [List.getElem?_toArray, List.getElem?_cons_succ, List.getElem?_cons_zero])) (fun W hW => ex_move rfl rfl) hS ?_
          simp only [Act.put, List.setIfInBounds_toArray, List.set_cons_zero, List.set_cons_succ]
          refine take_no 43 84 rfl rfl hsel (by kernel_rfl) (by kernel_rfl) (fun _ _ _ h => h) (want_no rfl rfl rfl (by simp only [List.getElem?_toArray, List.getElem?_cons_succ, List.getElem?_cons_zero, Bool.not_true])) hS ?_
          simp only [Act.put, List.setIfInBounds_toArray, List.set_cons_zero, List.set_cons_succ]
          refine take_no 44 85 rfl rfl hsel (by kernel_rfl) (by kernel_rfl) (fun _ _ _ h => h) (want_no rfl rfl rfl (by simp only [List.getElem?_toArray, List.getElem?_cons_succ, List.getElem?_cons_zero, Bool.not_true])) hS ?_
          simp only [Act.put, List.setIfInBounds_toArray, List.set_cons_zero, List.set_cons_succ]
          refine take_no 45 86 rfl rfl hsel (by kernel_rfl) (by kernel_rfl) (fun _ _ _ h => h) (want_no rfl rfl rfl (by simp only [List.getElem?_toArray, List.getElem?_cons_succ, List.getElem?_cons_zero, Bool.not_true])) hS ?_
          simp only [Act.put, List.setIfInBounds_toArray, List.set_cons_zero, List.set_cons_succ]
          refine take_no 46 87 rfl rfl hsel (by kernel_rfl) (by kernel_rfl) (fun _ _ _ h => h) (want_no rfl rfl rfl (by simp only [List.getElem?_toArray, List.getElem?_cons_succ, List.getElem?_cons_zero, Bool.not_true])) hS ?_
          simp only [Act.put, List.setIfInBounds_toArray, List.set_cons_zero, List.set_cons_succ]
          refine take_no 47 88 rfl rfl hsel (by kernel_rfl) (by kernel_rfl) (fun _ _ _ h => h) (want_no rfl rfl rfl (by simp only [List.getElem?_toArray, List.getElem?_cons_succ, List.getElem?_cons_zero, Bool.not_true])) hS ?_
          simp only [Act.put, List.setIfInBounds_toArray, List.set_cons_zero, List.set_cons_succ]
          refine take_no 48 89 rfl rfl hsel (by kernel_rfl) (by kernel_rfl) (fun _ _ _ h => h) (want_no rfl rfl rfl (by simp only [List.getElem?_toArray, List.getElem?_cons_succ, List.getElem?_cons_zero, Bool.not_true])) hS ?_
          simp only [Act.put, List.setIfInBounds_toArray, List.set_cons_zero, List.set_cons_succ]
          refine take_no 49 90 rfl rfl hsel (by kernel_rfl) (by kernel_rfl) (fun _ _ _ h => h) (want_no rfl rfl rfl (by simp only [List.getElem?_toArray, List.getElem?_cons_succ, List.getElem?_cons_zero, Bool.not_true])) hS ?_
          simp only [Act.put, List.setIfInBounds_toArray, List.set_cons_zero, List.set_cons_succ]
          refine take_no 50 91 rfl rfl hsel (by kernel_rfl) (by kernel_rfl) (fun _ _ _ h => h) (want_no rfl rfl rfl (by simp only [List.getElem?_toArray, List.getElem?_cons_succ, List.getElem?_cons_zero, Bool.not_true])) hS ?_
          simp only [Act.put, List.setIfInBounds_toArray, List.set_cons_zero, List.set_cons_succ]
          refine take_no 51 92 rfl rfl hsel (by kernel_rfl) (by kernel_rfl) (fun _ _ _ h => h) (want_no rfl rfl rfl (by simp only [List.getElem?_toArray, List.getElem?_cons_succ, List.getElem?_cons_zero, Bool.not_true])) hS ?_
          simp only [Act.put, List.setIfInBounds_toArray, List.set_cons_zero, List.set_cons_succ]
          refine take_yes 52 93 (.bool false) rfl rfl hsel (by kernel_rfl) (by kernel_rfl) (fun _ _ _ h => h) (want_yes rfl rfl rfl (by simp only [List.getElem?_toArray, List.getElem?_cons_succ, List.getElem?_cons_zero])) (fun W hW => ex_pick rfl rfl rfl rfl rfl) hS ?_
          simp only [Act.put, List.setIfInBounds_toArray, List.set_cons_zero, List.set_cons_succ]
          refine take_yes 53 94 (.bool false) rfl rfl hsel (by kernel_rfl) (by kernel_rfl) (fun _ _ _ h => h) (rfl) (fun W hW => ex_pick rfl rfl rfl rfl rfl) hS ?_
          simp only [Act.put, List.setIfInBounds_toArray, List.set_cons_zero, List.set_cons_succ]
          refine wpAnyH_done (by kernel_rfl) ?_ _
          go_wp2_with fail
          go_meet
          case rel => exact ⟨rfl, hS, numS 4 low high t, HTD.out.step HTY.out HBY.out HTZ.out HBZ.out⟩
        by_cases hk2 : kind = 2
        · subst hk2
          refine region_start (S := fun W => XB W g ⟨2, low, high⟩) (by kernel_rfl) (by kernel_rfl) 54 #[false, false, false, false, false, false, false, false, false, false, false, false, false, false, false, false, false, false, false, false, false, false, false, false, false, false, false, false, false, false, false, false, false, false, false, false, false, false, false, false, false, false, false, false, false, false, false, false, false, false, false, false, false, false] rfl rfl HXD.out (fun hsel => ?_)
          have hS := HXD.out
          refine take_yes 0 41 (.pointer (some ⟨g, 0, none⟩)) rfl rfl hsel (by kernel_rfl) (by kernel_rfl) (fun _ _ _ h => h) (rfl) (fun W hW => ex_addr (i := 0) rfl rfl (by decide)) hS ?_
          simp only [Act.put, List.setIfInBounds_toArray, List.set_cons_zero, List.set_cons_succ]
          refine take_yes 1 42 (.int .i64 2) rfl rfl hsel (by kernel_rfl) (by kernel_rfl) (fun _ _ _ h => h) (rfl) (fun W hW => ex_load rfl rfl hW.cells.1) hS ?_
          simp only [Act.put, List.setIfInBounds_toArray, List.set_cons_zero, List.set_cons_succ]
          refine take_yes 2 43 (.bool false) rfl rfl hsel (by kernel_rfl) (by kernel_rfl) (fun _ _ _ h => h) (rfl) (fun W hW => ex_eq rfl rfl rfl rfl) hS ?_
          simp only [Act.put, List.setIfInBounds_toArray, List.set_cons_zero, List.set_cons_succ]
          refine take_yes 3 44 (.bool false) rfl rfl hsel (by kernel_rfl) (by kernel_rfl) (fun _ _ _ h => h) (rfl) (fun W hW => ex_move rfl rfl) hS ?_
          simp only [Act.put, List.setIfInBounds_toArray, List.set_cons_zero, List.set_cons_succ]
          refine take_no 4 45 rfl rfl hsel (by kernel_rfl) (by kernel_rfl) (fun _ _ _ h => h) (want_no rfl rfl rfl (by simp only [List.getElem?_toArray, List.getElem?_cons_succ, List.getElem?_cons_zero, Bool.not_true])) hS ?_
          simp only [Act.put, List.setIfInBounds_toArray, List.set_cons_zero, List.set_cons_succ]
          refine take_no 5 46 rfl rfl hsel (by kernel_rfl) (by kernel_rfl) (fun _ _ _ h => h) (want_no rfl rfl rfl (by simp only [List.getElem?_toArray, List.getElem?_cons_succ, List.getElem?_cons_zero, Bool.not_true])) hS ?_
          simp only [Act.put, List.setIfInBounds_toArray, List.set_cons_zero, List.set_cons_succ]
          refine take_no 6 47 rfl rfl hsel (by kernel_rfl) (by kernel_rfl) (fun _ _ _ h => h) (want_no rfl rfl rfl (by simp only [List.getElem?_toArray, List.getElem?_cons_succ, List.getElem?_cons_zero, Bool.not_true])) hS ?_
          simp only [Act.put, List.setIfInBounds_toArray, List.set_cons_zero, List.set_cons_succ]
          refine take_no 7 48 rfl rfl hsel (by kernel_rfl) (by kernel_rfl) (fun _ _ _ h => h) (want_no rfl rfl rfl (by simp only [List.getElem?_toArray, List.getElem?_cons_succ, List.getElem?_cons_zero, Bool.not_true])) hS ?_
          simp only [Act.put, List.setIfInBounds_toArray, List.set_cons_zero, List.set_cons_succ]
          refine take_no 8 49 rfl rfl hsel (by kernel_rfl) (by kernel_rfl) (fun _ _ _ h => h) (want_no rfl rfl rfl (by simp only [List.getElem?_toArray, List.getElem?_cons_succ, List.getElem?_cons_zero, Bool.not_true])) hS ?_
          simp only [Act.put, List.setIfInBounds_toArray, List.set_cons_zero, List.set_cons_succ]
          refine take_no 9 50 rfl rfl hsel (by kernel_rfl) (by kernel_rfl) (fun _ _ _ h => h) (want_no rfl rfl rfl (by simp only [List.getElem?_toArray, List.getElem?_cons_succ, List.getElem?_cons_zero, Bool.not_true])) hS ?_
          simp only [Act.put, List.setIfInBounds_toArray, List.set_cons_zero, List.set_cons_succ]
          refine take_no 10 51 rfl rfl hsel (by kernel_rfl) (by kernel_rfl) (fun _ _ _ h => h) (want_no rfl rfl rfl (by simp only [List.getElem?_toArray, List.getElem?_cons_succ, List.getElem?_cons_zero, Bool.not_true])) hS ?_
          simp only [Act.put, List.setIfInBounds_toArray, List.set_cons_zero, List.set_cons_succ]
          refine take_no 11 52 rfl rfl hsel (by kernel_rfl) (by kernel_rfl) (fun _ _ _ h => h) (want_no rfl rfl rfl (by simp only [List.getElem?_toArray, List.getElem?_cons_succ, List.getElem?_cons_zero, Bool.not_true])) hS ?_
          simp only [Act.put, List.setIfInBounds_toArray, List.set_cons_zero, List.set_cons_succ]
          refine take_no 12 53 rfl rfl hsel (by kernel_rfl) (by kernel_rfl) (fun _ _ _ h => h) (want_no rfl rfl rfl (by simp only [List.getElem?_toArray, List.getElem?_cons_succ, List.getElem?_cons_zero, Bool.not_true])) hS ?_
          simp only [Act.put, List.setIfInBounds_toArray, List.set_cons_zero, List.set_cons_succ]
          refine take_no 13 54 rfl rfl hsel (by kernel_rfl) (by kernel_rfl) (fun _ _ _ h => h) (want_no rfl rfl rfl (by simp only [List.getElem?_toArray, List.getElem?_cons_succ, List.getElem?_cons_zero, Bool.not_true])) hS ?_
          simp only [Act.put, List.setIfInBounds_toArray, List.set_cons_zero, List.set_cons_succ]
          refine take_no 14 55 rfl rfl hsel (by kernel_rfl) (by kernel_rfl) (fun _ _ _ h => h) (want_no rfl rfl rfl (by simp only [List.getElem?_toArray, List.getElem?_cons_succ, List.getElem?_cons_zero, Bool.not_true])) hS ?_
          simp only [Act.put, List.setIfInBounds_toArray, List.set_cons_zero, List.set_cons_succ]
          refine take_no 15 56 rfl rfl hsel (by kernel_rfl) (by kernel_rfl) (fun _ _ _ h => h) (want_no rfl rfl rfl (by simp only [List.getElem?_toArray, List.getElem?_cons_succ, List.getElem?_cons_zero, Bool.not_true])) hS ?_
          simp only [Act.put, List.setIfInBounds_toArray, List.set_cons_zero, List.set_cons_succ]
          refine take_no 16 57 rfl rfl hsel (by kernel_rfl) (by kernel_rfl) (fun _ _ _ h => h) (want_no rfl rfl rfl (by simp only [List.getElem?_toArray, List.getElem?_cons_succ, List.getElem?_cons_zero, Bool.not_true])) hS ?_
          simp only [Act.put, List.setIfInBounds_toArray, List.set_cons_zero, List.set_cons_succ]
          refine take_yes 17 58 (.bool false) rfl rfl hsel (by kernel_rfl) (by kernel_rfl) (fun _ _ _ h => h) (rfl) (fun W hW => ex_pick rfl rfl rfl rfl rfl) hS ?_
          simp only [Act.put, List.setIfInBounds_toArray, List.set_cons_zero, List.set_cons_succ]
          refine take_yes 18 59 (.bool false) rfl rfl hsel (by kernel_rfl) (by kernel_rfl) (fun _ _ _ h => h) (rfl) (fun W hW => ex_move rfl rfl) hS ?_
          simp only [Act.put, List.setIfInBounds_toArray, List.set_cons_zero, List.set_cons_succ]
          refine take_yes 19 60 (.pointer (some ⟨g, 0, none⟩)) rfl rfl hsel (by kernel_rfl) (by kernel_rfl) (fun _ _ _ h => h) (want_yes rfl rfl rfl (by simp only [List.getElem?_toArray, List.getElem?_cons_succ, List.getElem?_cons_zero])) (fun W hW => ex_addr (i := 0) rfl rfl (by decide)) hS ?_
          simp only [Act.put, List.setIfInBounds_toArray, List.set_cons_zero, List.set_cons_succ]
          refine take_yes 20 61 (.int .i64 2) rfl rfl hsel (by kernel_rfl) (by kernel_rfl) (fun _ _ _ h => h) (want_yes rfl rfl rfl (by simp only [List.getElem?_toArray, List.getElem?_cons_succ, List.getElem?_cons_zero])) (fun W hW => ex_load rfl rfl hW.cells.1) hS ?_
          simp only [Act.put, List.setIfInBounds_toArray, List.set_cons_zero, List.set_cons_succ]
          refine take_yes 21 62 (.bool false) rfl rfl hsel (by kernel_rfl) (by kernel_rfl) (fun _ _ _ h => h) (want_yes rfl rfl rfl (by simp only [List.getElem?_toArray, List.getElem?_cons_succ, List.getElem?_cons_zero])) (fun W hW => ex_eq rfl rfl rfl rfl) hS ?_
          simp only [Act.put, List.setIfInBounds_toArray, List.set_cons_zero, List.set_cons_succ]
          refine take_yes 22 63 (.bool false) rfl rfl hsel (by kernel_rfl) (by kernel_rfl) (fun _ _ _ h => h) (want_yes rfl rfl rfl (by simp only [List.getElem?_toArray, List.getElem?_cons_succ, List.getElem?_cons_zero])) (fun W hW => ex_move rfl rfl) hS ?_
          simp only [Act.put, List.setIfInBounds_toArray, List.set_cons_zero, List.set_cons_succ]
          refine take_no 23 64 rfl rfl hsel (by kernel_rfl) (by kernel_rfl) (fun _ _ _ h => h) (want_no rfl rfl rfl (by simp only [List.getElem?_toArray, List.getElem?_cons_succ, List.getElem?_cons_zero, Bool.not_true])) hS ?_
          simp only [Act.put, List.setIfInBounds_toArray, List.set_cons_zero, List.set_cons_succ]
          refine take_no 24 65 rfl rfl hsel (by kernel_rfl) (by kernel_rfl) (fun _ _ _ h => h) (want_no rfl rfl rfl (by simp only [List.getElem?_toArray, List.getElem?_cons_succ, List.getElem?_cons_zero, Bool.not_true])) hS ?_
          simp only [Act.put, List.setIfInBounds_toArray, List.set_cons_zero, List.set_cons_succ]
          refine take_no 25 66 rfl rfl hsel (by kernel_rfl) (by kernel_rfl) (fun _ _ _ h => h) (want_no rfl rfl rfl (by simp only [List.getElem?_toArray, List.getElem?_cons_succ, List.getElem?_cons_zero, Bool.not_true])) hS ?_
          simp only [Act.put, List.setIfInBounds_toArray, List.set_cons_zero, List.set_cons_succ]
          refine take_no 26 67 rfl rfl hsel (by kernel_rfl) (by kernel_rfl) (fun _ _ _ h => h) (want_no rfl rfl rfl (by simp only [List.getElem?_toArray, List.getElem?_cons_succ, List.getElem?_cons_zero, Bool.not_true])) hS ?_
          simp only [Act.put, List.setIfInBounds_toArray, List.set_cons_zero, List.set_cons_succ]
          refine take_no 27 68 rfl rfl hsel (by kernel_rfl) (by kernel_rfl) (fun _ _ _ h => h) (want_no rfl rfl rfl (by simp only [List.getElem?_toArray, List.getElem?_cons_succ, List.getElem?_cons_zero, Bool.not_true])) hS ?_
          simp only [Act.put, List.setIfInBounds_toArray, List.set_cons_zero, List.set_cons_succ]
          refine take_no 28 69 rfl rfl hsel (by kernel_rfl) (by kernel_rfl) (fun _ _ _ h => h) (want_no rfl rfl rfl (by simp only [List.getElem?_toArray, List.getElem?_cons_succ, List.getElem?_cons_zero, Bool.not_true])) hS ?_
          simp only [Act.put, List.setIfInBounds_toArray, List.set_cons_zero, List.set_cons_succ]
          refine take_no 29 70 rfl rfl hsel (by kernel_rfl) (by kernel_rfl) (fun _ _ _ h => h) (want_no rfl rfl rfl (by simp only [List.getElem?_toArray, List.getElem?_cons_succ, List.getElem?_cons_zero, Bool.not_true])) hS ?_
          simp only [Act.put, List.setIfInBounds_toArray, List.set_cons_zero, List.set_cons_succ]
          refine take_no 30 71 rfl rfl hsel (by kernel_rfl) (by kernel_rfl) (fun _ _ _ h => h) (want_no rfl rfl rfl (by simp only [List.getElem?_toArray, List.getElem?_cons_succ, List.getElem?_cons_zero, Bool.not_true])) hS ?_
          simp only [Act.put, List.setIfInBounds_toArray, List.set_cons_zero, List.set_cons_succ]
          refine take_no 31 72 rfl rfl hsel (by kernel_rfl) (by kernel_rfl) (fun _ _ _ h => h) (want_no rfl rfl rfl (by simp only [List.getElem?_toArray, List.getElem?_cons_succ, List.getElem?_cons_zero, Bool.not_true])) hS ?_
          simp only [Act.put, List.setIfInBounds_toArray, List.set_cons_zero, List.set_cons_succ]
          refine take_no 32 73 rfl rfl hsel (by kernel_rfl) (by kernel_rfl) (fun _ _ _ h => h) (want_no rfl rfl rfl (by simp only [List.getElem?_toArray, List.getElem?_cons_succ, List.getElem?_cons_zero, Bool.not_true])) hS ?_
          simp only [Act.put, List.setIfInBounds_toArray, List.set_cons_zero, List.set_cons_succ]
          refine take_no 33 74 rfl rfl hsel (by kernel_rfl) (by kernel_rfl) (fun _ _ _ h => h) (want_no rfl rfl rfl (by simp only [List.getElem?_toArray, List.getElem?_cons_succ, List.getElem?_cons_zero, Bool.not_true])) hS ?_
          simp only [Act.put, List.setIfInBounds_toArray, List.set_cons_zero, List.set_cons_succ]
          refine take_no 34 75 rfl rfl hsel (by kernel_rfl) (by kernel_rfl) (fun _ _ _ h => h) (want_no rfl rfl rfl (by simp only [List.getElem?_toArray, List.getElem?_cons_succ, List.getElem?_cons_zero, Bool.not_true])) hS ?_
          simp only [Act.put, List.setIfInBounds_toArray, List.set_cons_zero, List.set_cons_succ]
          refine take_no 35 76 rfl rfl hsel (by kernel_rfl) (by kernel_rfl) (fun _ _ _ h => h) (want_no rfl rfl rfl (by simp only [List.getElem?_toArray, List.getElem?_cons_succ, List.getElem?_cons_zero, Bool.not_true])) hS ?_
          simp only [Act.put, List.setIfInBounds_toArray, List.set_cons_zero, List.set_cons_succ]
          refine take_yes 36 77 (.bool false) rfl rfl hsel (by kernel_rfl) (by kernel_rfl) (fun _ _ _ h => h) (want_yes rfl rfl rfl (by simp only [List.getElem?_toArray, List.getElem?_cons_succ, List.getElem?_cons_zero])) (fun W hW => ex_pick rfl rfl rfl rfl rfl) hS ?_
          simp only [Act.put, List.setIfInBounds_toArray, List.set_cons_zero, List.set_cons_succ]
          refine take_yes 37 78 (.bool false) rfl rfl hsel (by kernel_rfl) (by kernel_rfl) (fun _ _ _ h => h) (rfl) (fun W hW => ex_pick rfl rfl rfl rfl rfl) hS ?_
          simp only [Act.put, List.setIfInBounds_toArray, List.set_cons_zero, List.set_cons_succ]
          refine take_yes 38 79 (.bool false) rfl rfl hsel (by kernel_rfl) (by kernel_rfl) (fun _ _ _ h => h) (rfl) (fun W hW => ex_move rfl rfl) hS ?_
          simp only [Act.put, List.setIfInBounds_toArray, List.set_cons_zero, List.set_cons_succ]
          refine take_yes 39 80 (.pointer (some ⟨g, 0, none⟩)) rfl rfl hsel (by kernel_rfl) (by kernel_rfl) (fun _ _ _ h => h) (want_yes rfl rfl rfl (by simp only [List.getElem?_toArray, List.getElem?_cons_succ, List.getElem?_cons_zero])) (fun W hW => ex_addr (i := 0) rfl rfl (by decide)) hS ?_
          simp only [Act.put, List.setIfInBounds_toArray, List.set_cons_zero, List.set_cons_succ]
          refine take_yes 40 81 (.int .i64 2) rfl rfl hsel (by kernel_rfl) (by kernel_rfl) (fun _ _ _ h => h) (want_yes rfl rfl rfl (by simp only [List.getElem?_toArray, List.getElem?_cons_succ, List.getElem?_cons_zero])) (fun W hW => ex_load rfl rfl hW.cells.1) hS ?_
          simp only [Act.put, List.setIfInBounds_toArray, List.set_cons_zero, List.set_cons_succ]
          refine take_yes 41 82 (.bool true) rfl rfl hsel (by kernel_rfl) (by kernel_rfl) (fun _ _ _ h => h) (want_yes rfl rfl rfl (by simp only [List.getElem?_toArray, List.getElem?_cons_succ, List.getElem?_cons_zero])) (fun W hW => ex_eq rfl rfl rfl rfl) hS ?_
          simp only [Act.put, List.setIfInBounds_toArray, List.set_cons_zero, List.set_cons_succ]
          refine take_yes 42 83 (.bool true) rfl rfl hsel (by kernel_rfl) (by kernel_rfl) (fun _ _ _ h => h) (want_yes rfl rfl rfl (by simp only [List.getElem?_toArray, List.getElem?_cons_succ, List.getElem?_cons_zero])) (fun W hW => ex_move rfl rfl) hS ?_
          simp only [Act.put, List.setIfInBounds_toArray, List.set_cons_zero, List.set_cons_succ]
          refine take_yes 43 84 (.pointer (some ⟨w.heap.size, 0, none⟩)) rfl rfl hsel (by kernel_rfl) (by kernel_rfl) (fun _ _ _ h => h) (want_yes rfl rfl rfl (by simp only [List.getElem?_toArray, List.getElem?_cons_succ, List.getElem?_cons_zero])) (fun W hW => ex_move rfl rfl) hS ?_
          simp only [Act.put, List.setIfInBounds_toArray, List.set_cons_zero, List.set_cons_succ]
          refine take_yes 44 85 (.pointer (some ⟨g, 1, none⟩)) rfl rfl hsel (by kernel_rfl) (by kernel_rfl) (fun _ _ _ h => h) (want_yes rfl rfl rfl (by simp only [List.getElem?_toArray, List.getElem?_cons_succ, List.getElem?_cons_zero])) (fun W hW => ex_addr (i := 1) rfl rfl (by decide)) hS ?_
          simp only [Act.put, List.setIfInBounds_toArray, List.set_cons_zero, List.set_cons_succ]
          refine take_yes 45 86 (.int .i64 low) rfl rfl hsel (by kernel_rfl) (by kernel_rfl) (fun _ _ _ h => h) (want_yes rfl rfl rfl (by simp only [List.getElem?_toArray, List.getElem?_cons_succ, List.getElem?_cons_zero])) (fun W hW => ex_load rfl rfl hW.cells.2.1) hS ?_
          simp only [Act.put, List.setIfInBounds_toArray, List.set_cons_zero, List.set_cons_succ]
          refine take_yes 47 88 (.pointer (some ⟨w.heap.size + 1, 0, none⟩)) rfl rfl hsel (by kernel_rfl) (by kernel_rfl) (fun _ _ _ h => h) (want_yes rfl rfl rfl (by simp only [List.getElem?_toArray, List.getElem?_cons_succ, List.getElem?_cons_zero])) (fun W hW => ex_move rfl rfl) hS ?_
          simp only [Act.put, List.setIfInBounds_toArray, List.set_cons_zero, List.set_cons_succ]
          refine take_yes 48 89 (.pointer (some ⟨g, 1, none⟩)) rfl rfl hsel (by kernel_rfl) (by kernel_rfl) (fun _ _ _ h => h) (want_yes rfl rfl rfl (by simp only [List.getElem?_toArray, List.getElem?_cons_succ, List.getElem?_cons_zero])) (fun W hW => ex_addr (i := 1) rfl rfl (by decide)) hS ?_
          simp only [Act.put, List.setIfInBounds_toArray, List.set_cons_zero, List.set_cons_succ]
          refine take_yes 49 90 (.int .i64 low) rfl rfl hsel (by kernel_rfl) (by kernel_rfl) (fun _ _ _ h => h) (want_yes rfl rfl rfl (by simp only [List.getElem?_toArray, List.getElem?_cons_succ, List.getElem?_cons_zero])) (fun W hW => ex_load rfl rfl hW.cells.2.1) hS ?_
          simp only [Act.put, List.setIfInBounds_toArray, List.set_cons_zero, List.set_cons_succ]
          refine take_call 46 87 19 #[.pointer (some ⟨w.heap.size, 0, none⟩), .int .i64 low] rfl rfl (by kernel_rfl) (want_yes rfl rfl rfl (by simp only [List.getElem?_toArray, List.getElem?_cons_succ, List.getElem?_cons_zero])) rfl enters19 (by simp only [List.map_toArray, List.map_cons, List.map_nil]; rfl) ?_
          refine (ttext_calls w.heap.size low t _ HTD.out.ta).mono ?_
          rintro e y ⟨rfl, hty, hby⟩
          have HTY := Lib.hid hty
          have HBY := Lib.hid hby
          refine ⟨_, rfl, hS.but hby hg0, ?_⟩
          replace hS := hS.but hby hg0
          clear hty hby
          simp only [Act.put, List.setIfInBounds_toArray, List.set_cons_zero, List.set_cons_succ]
          refine take_call 50 91 20 #[.pointer (some ⟨w.heap.size + 1, 0, none⟩), .int .i64 low] rfl rfl (by kernel_rfl) (want_yes rfl rfl rfl (by simp only [List.getElem?_toArray, List.getElem?_cons_succ, List.getElem?_cons_zero])) rfl enters20 (by simp only [List.map_toArray, List.map_cons, List.map_nil]; rfl) ?_
          refine (rrtext_calls (w.heap.size + 1) low t _ (HTD.out.tb.but HBY.out (by omega))).mono ?_
          rintro e z ⟨rfl, htz, hbz⟩
          have HTZ := Lib.hid htz
          have HBZ := Lib.hid hbz
          refine ⟨_, rfl, hS.but hbz hg1, ?_⟩
          replace hS := hS.but hbz hg1
          clear htz hbz
          simp only [Act.put, List.setIfInBounds_toArray, List.set_cons_zero, List.set_cons_succ]
          refine take_yes 51 92 (.bool false) rfl rfl hsel (by kernel_rfl) (by kernel_rfl) (fun _ _ _ h => h) (want_yes rfl rfl rfl (by simp only [List.getElem?_toArray, List.getElem?_cons_succ, List.getElem?_cons_zero])) (fun W hW => ex_nes rfl rfl rfl) hS ?_
          simp only [Act.put, List.setIfInBounds_toArray, List.set_cons_zero, List.set_cons_succ]
          refine take_yes 52 93 (.bool false) rfl rfl hsel (by kernel_rfl) (by kernel_rfl) (fun _ _ _ h => h) (want_yes rfl rfl rfl (by simp only [List.getElem?_toArray, List.getElem?_cons_succ, List.getElem?_cons_zero])) (fun W hW => ex_pick rfl rfl rfl rfl rfl) hS ?_
          simp only [Act.put, List.setIfInBounds_toArray, List.set_cons_zero, List.set_cons_succ]
          refine take_yes 53 94 (.bool false) rfl rfl hsel (by kernel_rfl) (by kernel_rfl) (fun _ _ _ h => h) (rfl) (fun W hW => ex_pick rfl rfl rfl rfl rfl) hS ?_
          simp only [Act.put, List.setIfInBounds_toArray, List.set_cons_zero, List.set_cons_succ]
          refine wpAnyH_done (by kernel_rfl) ?_ _
          go_wp2_with fail
          go_meet
          case rel => exact ⟨rfl, hS, txtS low t, HTD.out.step HTY.out HBY.out HTZ.out HBZ.out⟩
        have E0 : Hid ((kind == (0 : Int)) = false) := by show (kind == (0 : Int)) = false; simpa using hk0
        have E1 : Hid ((kind == (1 : Int)) = false) := by show (kind == (1 : Int)) = false; simpa using hk1
        have E2 : Hid ((kind == (2 : Int)) = false) := by show (kind == (2 : Int)) = false; simpa using hk2
        refine region_start (S := fun W => XB W g ⟨kind, low, high⟩) (by kernel_rfl) (by kernel_rfl) 54 #[false, false, false, false, false, false, false, false, false, false, false, false, false, false, false, false, false, false, false, false, false, false, false, false, false, false, false, false, false, false, false, false, false, false, false, false, false, false, false, false, false, false, false, false, false, false, false, false, false, false, false, false, false, false] rfl rfl HXD.out (fun hsel => ?_)
        have hS := HXD.out
        refine take_yes 0 41 (.pointer (some ⟨g, 0, none⟩)) rfl rfl hsel (by kernel_rfl) (by kernel_rfl) (fun _ _ _ h => h) (rfl) (fun W hW => ex_addr (i := 0) rfl rfl (by decide)) hS ?_
        simp only [Act.put, List.setIfInBounds_toArray, List.set_cons_zero, List.set_cons_succ]
        refine take_yes 1 42 (.int .i64 kind) rfl rfl hsel (by kernel_rfl) (by kernel_rfl) (fun _ _ _ h => h) (rfl) (fun W hW => ex_load rfl rfl hW.cells.1) hS ?_
        simp only [Act.put, List.setIfInBounds_toArray, List.set_cons_zero, List.set_cons_succ]
        refine take_yes 2 43 (.bool false) rfl rfl hsel (by kernel_rfl) (by kernel_rfl) (fun _ _ _ h => h) (rfl) (fun W hW => ex_eq rfl rfl rfl E0.out) hS ?_
        simp only [Act.put, List.setIfInBounds_toArray, List.set_cons_zero, List.set_cons_succ]
        refine take_yes 3 44 (.bool false) rfl rfl hsel (by kernel_rfl) (by kernel_rfl) (fun _ _ _ h => h) (rfl) (fun W hW => ex_move rfl rfl) hS ?_
        simp only [Act.put, List.setIfInBounds_toArray, List.set_cons_zero, List.set_cons_succ]
        refine take_no 4 45 rfl rfl hsel (by kernel_rfl) (by kernel_rfl) (fun _ _ _ h => h) (want_no rfl rfl rfl (by simp only [List.getElem?_toArray, List.getElem?_cons_succ, List.getElem?_cons_zero, Bool.not_true])) hS ?_
        simp only [Act.put, List.setIfInBounds_toArray, List.set_cons_zero, List.set_cons_succ]
        refine take_no 5 46 rfl rfl hsel (by kernel_rfl) (by kernel_rfl) (fun _ _ _ h => h) (want_no rfl rfl rfl (by simp only [List.getElem?_toArray, List.getElem?_cons_succ, List.getElem?_cons_zero, Bool.not_true])) hS ?_
        simp only [Act.put, List.setIfInBounds_toArray, List.set_cons_zero, List.set_cons_succ]
        refine take_no 6 47 rfl rfl hsel (by kernel_rfl) (by kernel_rfl) (fun _ _ _ h => h) (want_no rfl rfl rfl (by simp only [List.getElem?_toArray, List.getElem?_cons_succ, List.getElem?_cons_zero, Bool.not_true])) hS ?_
        simp only [Act.put, List.setIfInBounds_toArray, List.set_cons_zero, List.set_cons_succ]
        refine take_no 7 48 rfl rfl hsel (by kernel_rfl) (by kernel_rfl) (fun _ _ _ h => h) (want_no rfl rfl rfl (by simp only [List.getElem?_toArray, List.getElem?_cons_succ, List.getElem?_cons_zero, Bool.not_true])) hS ?_
        simp only [Act.put, List.setIfInBounds_toArray, List.set_cons_zero, List.set_cons_succ]
        refine take_no 8 49 rfl rfl hsel (by kernel_rfl) (by kernel_rfl) (fun _ _ _ h => h) (want_no rfl rfl rfl (by simp only [List.getElem?_toArray, List.getElem?_cons_succ, List.getElem?_cons_zero, Bool.not_true])) hS ?_
        simp only [Act.put, List.setIfInBounds_toArray, List.set_cons_zero, List.set_cons_succ]
        refine take_no 9 50 rfl rfl hsel (by kernel_rfl) (by kernel_rfl) (fun _ _ _ h => h) (want_no rfl rfl rfl (by simp only [List.getElem?_toArray, List.getElem?_cons_succ, List.getElem?_cons_zero, Bool.not_true])) hS ?_
        simp only [Act.put, List.setIfInBounds_toArray, List.set_cons_zero, List.set_cons_succ]
        refine take_no 10 51 rfl rfl hsel (by kernel_rfl) (by kernel_rfl) (fun _ _ _ h => h) (want_no rfl rfl rfl (by simp only [List.getElem?_toArray, List.getElem?_cons_succ, List.getElem?_cons_zero, Bool.not_true])) hS ?_
        simp only [Act.put, List.setIfInBounds_toArray, List.set_cons_zero, List.set_cons_succ]
        refine take_no 11 52 rfl rfl hsel (by kernel_rfl) (by kernel_rfl) (fun _ _ _ h => h) (want_no rfl rfl rfl (by simp only [List.getElem?_toArray, List.getElem?_cons_succ, List.getElem?_cons_zero, Bool.not_true])) hS ?_
        simp only [Act.put, List.setIfInBounds_toArray, List.set_cons_zero, List.set_cons_succ]
        refine take_no 12 53 rfl rfl hsel (by kernel_rfl) (by kernel_rfl) (fun _ _ _ h => h) (want_no rfl rfl rfl (by simp only [List.getElem?_toArray, List.getElem?_cons_succ, List.getElem?_cons_zero, Bool.not_true])) hS ?_
        simp only [Act.put, List.setIfInBounds_toArray, List.set_cons_zero, List.set_cons_succ]
        refine take_no 13 54 rfl rfl hsel (by kernel_rfl) (by kernel_rfl) (fun _ _ _ h => h) (want_no rfl rfl rfl (by simp only [List.getElem?_toArray, List.getElem?_cons_succ, List.getElem?_cons_zero, Bool.not_true])) hS ?_
        simp only [Act.put, List.setIfInBounds_toArray, List.set_cons_zero, List.set_cons_succ]
        refine take_no 14 55 rfl rfl hsel (by kernel_rfl) (by kernel_rfl) (fun _ _ _ h => h) (want_no rfl rfl rfl (by simp only [List.getElem?_toArray, List.getElem?_cons_succ, List.getElem?_cons_zero, Bool.not_true])) hS ?_
        simp only [Act.put, List.setIfInBounds_toArray, List.set_cons_zero, List.set_cons_succ]
        refine take_no 15 56 rfl rfl hsel (by kernel_rfl) (by kernel_rfl) (fun _ _ _ h => h) (want_no rfl rfl rfl (by simp only [List.getElem?_toArray, List.getElem?_cons_succ, List.getElem?_cons_zero, Bool.not_true])) hS ?_
        simp only [Act.put, List.setIfInBounds_toArray, List.set_cons_zero, List.set_cons_succ]
        refine take_no 16 57 rfl rfl hsel (by kernel_rfl) (by kernel_rfl) (fun _ _ _ h => h) (want_no rfl rfl rfl (by simp only [List.getElem?_toArray, List.getElem?_cons_succ, List.getElem?_cons_zero, Bool.not_true])) hS ?_
        simp only [Act.put, List.setIfInBounds_toArray, List.set_cons_zero, List.set_cons_succ]
        refine take_yes 17 58 (.bool false) rfl rfl hsel (by kernel_rfl) (by kernel_rfl) (fun _ _ _ h => h) (rfl) (fun W hW => ex_pick rfl rfl rfl rfl rfl) hS ?_
        simp only [Act.put, List.setIfInBounds_toArray, List.set_cons_zero, List.set_cons_succ]
        refine take_yes 18 59 (.bool false) rfl rfl hsel (by kernel_rfl) (by kernel_rfl) (fun _ _ _ h => h) (rfl) (fun W hW => ex_move rfl rfl) hS ?_
        simp only [Act.put, List.setIfInBounds_toArray, List.set_cons_zero, List.set_cons_succ]
        refine take_yes 19 60 (.pointer (some ⟨g, 0, none⟩)) rfl rfl hsel (by kernel_rfl) (by kernel_rfl) (fun _ _ _ h => h) (want_yes rfl rfl rfl (by simp only [List.getElem?_toArray, List.getElem?_cons_succ, List.getElem?_cons_zero])) (fun W hW => ex_addr (i := 0) rfl rfl (by decide)) hS ?_
        simp only [Act.put, List.setIfInBounds_toArray, List.set_cons_zero, List.set_cons_succ]
        refine take_yes 20 61 (.int .i64 kind) rfl rfl hsel (by kernel_rfl) (by kernel_rfl) (fun _ _ _ h => h) (want_yes rfl rfl rfl (by simp only [List.getElem?_toArray, List.getElem?_cons_succ, List.getElem?_cons_zero])) (fun W hW => ex_load rfl rfl hW.cells.1) hS ?_
        simp only [Act.put, List.setIfInBounds_toArray, List.set_cons_zero, List.set_cons_succ]
        refine take_yes 21 62 (.bool false) rfl rfl hsel (by kernel_rfl) (by kernel_rfl) (fun _ _ _ h => h) (want_yes rfl rfl rfl (by simp only [List.getElem?_toArray, List.getElem?_cons_succ, List.getElem?_cons_zero])) (fun W hW => ex_eq rfl rfl rfl E1.out) hS ?_
        simp only [Act.put, List.setIfInBounds_toArray, List.set_cons_zero, List.set_cons_succ]
        refine take_yes 22 63 (.bool false) rfl rfl hsel (by kernel_rfl) (by kernel_rfl) (fun _ _ _ h => h) (want_yes rfl rfl rfl (by simp only [List.getElem?_toArray, List.getElem?_cons_succ, List.getElem?_cons_zero])) (fun W hW => ex_move rfl rfl) hS ?_
        simp only [Act.put, List.setIfInBounds_toArray, List.set_cons_zero, List.set_cons_succ]
        refine take_no 23 64 rfl rfl hsel (by kernel_rfl) (by kernel_rfl) (fun _ _ _ h => h) (want_no rfl rfl rfl (by simp only [List.getElem?_toArray, List.getElem?_cons_succ, List.getElem?_cons_zero, Bool.not_true])) hS ?_
        simp only [Act.put, List.setIfInBounds_toArray, List.set_cons_zero, List.set_cons_succ]
        refine take_no 24 65 rfl rfl hsel (by kernel_rfl) (by kernel_rfl) (fun _ _ _ h => h) (want_no rfl rfl rfl (by simp only [List.getElem?_toArray, List.getElem?_cons_succ, List.getElem?_cons_zero, Bool.not_true])) hS ?_
        simp only [Act.put, List.setIfInBounds_toArray, List.set_cons_zero, List.set_cons_succ]
        refine take_no 25 66 rfl rfl hsel (by kernel_rfl) (by kernel_rfl) (fun _ _ _ h => h) (want_no rfl rfl rfl (by simp only [List.getElem?_toArray, List.getElem?_cons_succ, List.getElem?_cons_zero, Bool.not_true])) hS ?_
        simp only [Act.put, List.setIfInBounds_toArray, List.set_cons_zero, List.set_cons_succ]
        refine take_no 26 67 rfl rfl hsel (by kernel_rfl) (by kernel_rfl) (fun _ _ _ h => h) (want_no rfl rfl rfl (by simp only [List.getElem?_toArray, List.getElem?_cons_succ, List.getElem?_cons_zero, Bool.not_true])) hS ?_
        simp only [Act.put, List.setIfInBounds_toArray, List.set_cons_zero, List.set_cons_succ]
        refine take_no 27 68 rfl rfl hsel (by kernel_rfl) (by kernel_rfl) (fun _ _ _ h => h) (want_no rfl rfl rfl (by simp only [List.getElem?_toArray, List.getElem?_cons_succ, List.getElem?_cons_zero, Bool.not_true])) hS ?_
        simp only [Act.put, List.setIfInBounds_toArray, List.set_cons_zero, List.set_cons_succ]
        refine take_no 28 69 rfl rfl hsel (by kernel_rfl) (by kernel_rfl) (fun _ _ _ h => h) (want_no rfl rfl rfl (by simp only [List.getElem?_toArray, List.getElem?_cons_succ, List.getElem?_cons_zero, Bool.not_true])) hS ?_
        simp only [Act.put, List.setIfInBounds_toArray, List.set_cons_zero, List.set_cons_succ]
        refine take_no 29 70 rfl rfl hsel (by kernel_rfl) (by kernel_rfl) (fun _ _ _ h => h) (want_no rfl rfl rfl (by simp only [List.getElem?_toArray, List.getElem?_cons_succ, List.getElem?_cons_zero, Bool.not_true])) hS ?_
        simp only [Act.put, List.setIfInBounds_toArray, List.set_cons_zero, List.set_cons_succ]
        refine take_no 30 71 rfl rfl hsel (by kernel_rfl) (by kernel_rfl) (fun _ _ _ h => h) (want_no rfl rfl rfl (by simp only [List.getElem?_toArray, List.getElem?_cons_succ, List.getElem?_cons_zero, Bool.not_true])) hS ?_
        simp only [Act.put, List.setIfInBounds_toArray, List.set_cons_zero, List.set_cons_succ]
        refine take_no 31 72 rfl rfl hsel (by kernel_rfl) (by kernel_rfl) (fun _ _ _ h => h) (want_no rfl rfl rfl (by simp only [List.getElem?_toArray, List.getElem?_cons_succ, List.getElem?_cons_zero, Bool.not_true])) hS ?_
        simp only [Act.put, List.setIfInBounds_toArray, List.set_cons_zero, List.set_cons_succ]
        refine take_no 32 73 rfl rfl hsel (by kernel_rfl) (by kernel_rfl) (fun _ _ _ h => h) (want_no rfl rfl rfl (by simp only [List.getElem?_toArray, List.getElem?_cons_succ, List.getElem?_cons_zero, Bool.not_true])) hS ?_
        simp only [Act.put, List.setIfInBounds_toArray, List.set_cons_zero, List.set_cons_succ]
        refine take_no 33 74 rfl rfl hsel (by kernel_rfl) (by kernel_rfl) (fun _ _ _ h => h) (want_no rfl rfl rfl (by simp only [List.getElem?_toArray, List.getElem?_cons_succ, List.getElem?_cons_zero, Bool.not_true])) hS ?_
        simp only [Act.put, List.setIfInBounds_toArray, List.set_cons_zero, List.set_cons_succ]
        refine take_no 34 75 rfl rfl hsel (by kernel_rfl) (by kernel_rfl) (fun _ _ _ h => h) (want_no rfl rfl rfl (by simp only [List.getElem?_toArray, List.getElem?_cons_succ, List.getElem?_cons_zero, Bool.not_true])) hS ?_
        simp only [Act.put, List.setIfInBounds_toArray, List.set_cons_zero, List.set_cons_succ]
        refine take_no 35 76 rfl rfl hsel (by kernel_rfl) (by kernel_rfl) (fun _ _ _ h => h) (want_no rfl rfl rfl (by simp only [List.getElem?_toArray, List.getElem?_cons_succ, List.getElem?_cons_zero, Bool.not_true])) hS ?_
        simp only [Act.put, List.setIfInBounds_toArray, List.set_cons_zero, List.set_cons_succ]
        refine take_yes 36 77 (.bool false) rfl rfl hsel (by kernel_rfl) (by kernel_rfl) (fun _ _ _ h => h) (want_yes rfl rfl rfl (by simp only [List.getElem?_toArray, List.getElem?_cons_succ, List.getElem?_cons_zero])) (fun W hW => ex_pick rfl rfl rfl rfl rfl) hS ?_
        simp only [Act.put, List.setIfInBounds_toArray, List.set_cons_zero, List.set_cons_succ]
        refine take_yes 37 78 (.bool false) rfl rfl hsel (by kernel_rfl) (by kernel_rfl) (fun _ _ _ h => h) (rfl) (fun W hW => ex_pick rfl rfl rfl rfl rfl) hS ?_
        simp only [Act.put, List.setIfInBounds_toArray, List.set_cons_zero, List.set_cons_succ]
        refine take_yes 38 79 (.bool false) rfl rfl hsel (by kernel_rfl) (by kernel_rfl) (fun _ _ _ h => h) (rfl) (fun W hW => ex_move rfl rfl) hS ?_
        simp only [Act.put, List.setIfInBounds_toArray, List.set_cons_zero, List.set_cons_succ]
        refine take_yes 39 80 (.pointer (some ⟨g, 0, none⟩)) rfl rfl hsel (by kernel_rfl) (by kernel_rfl) (fun _ _ _ h => h) (want_yes rfl rfl rfl (by simp only [List.getElem?_toArray, List.getElem?_cons_succ, List.getElem?_cons_zero])) (fun W hW => ex_addr (i := 0) rfl rfl (by decide)) hS ?_
        simp only [Act.put, List.setIfInBounds_toArray, List.set_cons_zero, List.set_cons_succ]
        refine take_yes 40 81 (.int .i64 kind) rfl rfl hsel (by kernel_rfl) (by kernel_rfl) (fun _ _ _ h => h) (want_yes rfl rfl rfl (by simp only [List.getElem?_toArray, List.getElem?_cons_succ, List.getElem?_cons_zero])) (fun W hW => ex_load rfl rfl hW.cells.1) hS ?_
        simp only [Act.put, List.setIfInBounds_toArray, List.set_cons_zero, List.set_cons_succ]
        refine take_yes 41 82 (.bool false) rfl rfl hsel (by kernel_rfl) (by kernel_rfl) (fun _ _ _ h => h) (want_yes rfl rfl rfl (by simp only [List.getElem?_toArray, List.getElem?_cons_succ, List.getElem?_cons_zero])) (fun W hW => ex_eq rfl rfl rfl E2.out) hS ?_
        simp only [Act.put, List.setIfInBounds_toArray, List.set_cons_zero, List.set_cons_succ]
        refine take_yes 42 83 (.bool false) rfl rfl hsel (by kernel_rfl) (by kernel_rfl) (fun _ _ _ h => h) (want_yes rfl rfl rfl (by simp only [List.getElem?_toArray, List.getElem?_cons_succ, List.getElem?_cons_zero])) (fun W hW => ex_move rfl rfl) hS ?_
        simp only [Act.put, List.setIfInBounds_toArray, List.set_cons_zero, List.set_cons_succ]
        refine take_no 43 84 rfl rfl hsel (by kernel_rfl) (by kernel_rfl) (fun _ _ _ h => h) (want_no rfl rfl rfl (by simp only [List.getElem?_toArray, List.getElem?_cons_succ, List.getElem?_cons_zero, Bool.not_true])) hS ?_
        simp only [Act.put, List.setIfInBounds_toArray, List.set_cons_zero, List.set_cons_succ]
        refine take_no 44 85 rfl rfl hsel (by kernel_rfl) (by kernel_rfl) (fun _ _ _ h => h) (want_no rfl rfl rfl (by simp only [List.getElem?_toArray, List.getElem?_cons_succ, List.getElem?_cons_zero, Bool.not_true])) hS ?_
        simp only [Act.put, List.setIfInBounds_toArray, List.set_cons_zero, List.set_cons_succ]
        refine take_no 45 86 rfl rfl hsel (by kernel_rfl) (by kernel_rfl) (fun _ _ _ h => h) (want_no rfl rfl rfl (by simp only [List.getElem?_toArray, List.getElem?_cons_succ, List.getElem?_cons_zero, Bool.not_true])) hS ?_
        simp only [Act.put, List.setIfInBounds_toArray, List.set_cons_zero, List.set_cons_succ]
        refine take_no 46 87 rfl rfl hsel (by kernel_rfl) (by kernel_rfl) (fun _ _ _ h => h) (want_no rfl rfl rfl (by simp only [List.getElem?_toArray, List.getElem?_cons_succ, List.getElem?_cons_zero, Bool.not_true])) hS ?_
        simp only [Act.put, List.setIfInBounds_toArray, List.set_cons_zero, List.set_cons_succ]
        refine take_no 47 88 rfl rfl hsel (by kernel_rfl) (by kernel_rfl) (fun _ _ _ h => h) (want_no rfl rfl rfl (by simp only [List.getElem?_toArray, List.getElem?_cons_succ, List.getElem?_cons_zero, Bool.not_true])) hS ?_
        simp only [Act.put, List.setIfInBounds_toArray, List.set_cons_zero, List.set_cons_succ]
        refine take_no 48 89 rfl rfl hsel (by kernel_rfl) (by kernel_rfl) (fun _ _ _ h => h) (want_no rfl rfl rfl (by simp only [List.getElem?_toArray, List.getElem?_cons_succ, List.getElem?_cons_zero, Bool.not_true])) hS ?_
        simp only [Act.put, List.setIfInBounds_toArray, List.set_cons_zero, List.set_cons_succ]
        refine take_no 49 90 rfl rfl hsel (by kernel_rfl) (by kernel_rfl) (fun _ _ _ h => h) (want_no rfl rfl rfl (by simp only [List.getElem?_toArray, List.getElem?_cons_succ, List.getElem?_cons_zero, Bool.not_true])) hS ?_
        simp only [Act.put, List.setIfInBounds_toArray, List.set_cons_zero, List.set_cons_succ]
        refine take_no 50 91 rfl rfl hsel (by kernel_rfl) (by kernel_rfl) (fun _ _ _ h => h) (want_no rfl rfl rfl (by simp only [List.getElem?_toArray, List.getElem?_cons_succ, List.getElem?_cons_zero, Bool.not_true])) hS ?_
        simp only [Act.put, List.setIfInBounds_toArray, List.set_cons_zero, List.set_cons_succ]
        refine take_no 51 92 rfl rfl hsel (by kernel_rfl) (by kernel_rfl) (fun _ _ _ h => h) (want_no rfl rfl rfl (by simp only [List.getElem?_toArray, List.getElem?_cons_succ, List.getElem?_cons_zero, Bool.not_true])) hS ?_
        simp only [Act.put, List.setIfInBounds_toArray, List.set_cons_zero, List.set_cons_succ]
        refine take_yes 52 93 (.bool false) rfl rfl hsel (by kernel_rfl) (by kernel_rfl) (fun _ _ _ h => h) (want_yes rfl rfl rfl (by simp only [List.getElem?_toArray, List.getElem?_cons_succ, List.getElem?_cons_zero])) (fun W hW => ex_pick rfl rfl rfl rfl rfl) hS ?_
        simp only [Act.put, List.setIfInBounds_toArray, List.set_cons_zero, List.set_cons_succ]
        refine take_yes 53 94 (.bool false) rfl rfl hsel (by kernel_rfl) (by kernel_rfl) (fun _ _ _ h => h) (rfl) (fun W hW => ex_pick rfl rfl rfl rfl rfl) hS ?_
        simp only [Act.put, List.setIfInBounds_toArray, List.set_cons_zero, List.set_cons_succ]
        refine wpAnyH_done (by kernel_rfl) ?_ _
        go_wp2_with fail
        go_meet
        case rel => exact ⟨rfl, hS, t, HTD.out⟩
      case rest =>
        obtain ⟨rfl, hX, t', hP⟩ := hcut
        obtain ⟨y0, y1, y2⟩ := hX.cells
        dsimp only at y0 y1 y2
        have HP := Lib.hid hP
        clear hX hP x0 x1 x2 HX HXD HTX HTD
        by_cases hk3 : kind = 3
        · subst hk3
          go_wp2_with fail
          (with_reducible refine (mark_calls w.heap.size m t' _ HP.out.ta).mono ?_)
          rintro e y ⟨rfl, hty, hby⟩
          have HTY := Lib.hid hty
          have HBY := Lib.hid hby
          clear hty hby
          go_wp2_with fail
          (with_reducible refine (rrmark_calls (w.heap.size + 1) m t' _ (HP.out.tb.but HBY.out (by omega)) HM.out).mono ?_)
          rintro e z ⟨rfl, htz, hbz⟩
          have HQ := Lib.hid (HP.out.step HTY.out HBY.out htz hbz)
          clear htz hbz HTY HBY y0 y1 y2
          obtain ⟨u, hu⟩ : ∃ u, u = markS m t' := ⟨_, rfl⟩
          rw [← hu] at HQ
          clear hu
          obtain ⟨l', bd⟩ := u
          cases bd with
          | true =>
            have a0 := HQ.out.ta.rest
            have a1 := HQ.out.ta.bad
            have b0 := HQ.out.tb.rest
            have b1 := HQ.out.tb.bad
            dsimp only at a0 a1 b0 b1
            go_wp2_with fail
            go_quiet (first | (go_at_call 23; exact Calls.quiet_of_same (done_q _ _ (TP.drewN HQ.out.ta _))) | (go_at_call 24; exact Calls.quiet_of_same (rdone_q _ _ (TP.drewN HQ.out.tb _))))
            go_wp2_with fail
            exact ⟨⟨i + 1, _, by omega, by go_num, HQ.out.drewN _⟩, by simp [intOf]; omega⟩
          | false =>
            have a0 := HQ.out.ta.rest
            have a1 := HQ.out.ta.bad
            have b0 := HQ.out.tb.rest
            have b1 := HQ.out.tb.bad
            dsimp only at a0 a1 b0 b1
            go_wp2_with fail
            go_quiet (first | (go_at_call 23; exact Calls.quiet_of_same (done_q _ _ (TP.drewN HQ.out.ta _))) | (go_at_call 24; exact Calls.quiet_of_same (rdone_q _ _ (TP.drewN HQ.out.tb _))))
            go_wp2_with fail
            exact ⟨⟨i + 1, _, by omega, by go_num, HQ.out.drewN _⟩, by simp [intOf]; omega⟩
        · have hd3 : decide (kind = 3) = false := by simpa using hk3
          have HQ := Lib.hid HP.out
          obtain ⟨u, hu⟩ : ∃ u, u = t' := ⟨_, rfl⟩
          rw [← hu] at HQ
          clear hu
          obtain ⟨l', bd⟩ := u
          cases bd with
          | true =>
            have a0 := HQ.out.ta.rest
            have a1 := HQ.out.ta.bad
            have b0 := HQ.out.tb.rest
            have b1 := HQ.out.tb.bad
            dsimp only at a0 a1 b0 b1
            go_wp2_with fail
            go_quiet (first | (go_at_call 23; exact Calls.quiet_of_same (done_q _ _ (TP.drewN HQ.out.ta _))) | (go_at_call 24; exact Calls.quiet_of_same (rdone_q _ _ (TP.drewN HQ.out.tb _))))
            go_wp2_with fail
            exact ⟨⟨i + 1, _, by omega, by go_num, HQ.out.drewN _⟩, by simp [intOf]; omega⟩
          | false =>
            have a0 := HQ.out.ta.rest
            have a1 := HQ.out.ta.bad
            have b0 := HQ.out.tb.rest
            have b1 := HQ.out.tb.bad
            dsimp only at a0 a1 b0 b1
            go_wp2_with fail
            go_quiet (first | (go_at_call 23; exact Calls.quiet_of_same (done_q _ _ (TP.drewN HQ.out.ta _))) | (go_at_call 24; exact Calls.quiet_of_same (rdone_q _ _ (TP.drewN HQ.out.tb _))))
            go_wp2_with fail
            exact ⟨⟨i + 1, _, by omega, by go_num, HQ.out.drewN _⟩, by simp [intOf]; omega⟩
    · have hnl : decide ((i : Int) < (len : Int)) = false := by simp; omega
      go_wp2_with fail
      (with_reducible refine (awake_true _).mono ?_)
      rintro e wz ⟨rfl, Bz⟩
      go_wp2_with fail
      go_ret
      exact ⟨rfl, below_two HT.out.below Bz⟩

set_option maxRecDepth 100000 in
set_option maxHeartbeats 1600000 in
theorem reads_calls (s m : ByteArray) (A : Option Addr) (len cap : Nat) (xs : List AK) (w : World) (hR : AskIn w A len xs) :
    Calls Try.prog 4 #[.string s, .slice A len cap, .string m] w fun e w' => e = .returned (.bool true) ∧ Below w.heap.size w w' := by
  by_cases h1 : s.size ≤ 500
  · by_cases h2 : len ≤ 50
    · by_cases h3 : m.size ≤ 20
      · have h := reads_few s.data.toList m.data.toList A len cap xs w hR (by rw [len_data]; exact h1) h2 (by rw [len_data]; exact h3)
        rw [strB_of, strB_of] at h
        exact h
      · have g1 : ¬ (500 : Int) < s.size := by omega
        have g2 : ¬ (50 : Int) < (len : Int) := by omega
        have g3 : (20 : Int) < m.size := by omega
        go_enter Try.func4, Try.ntmps4
        go_wp2_with fail
        (with_reducible refine (awake_true _).mono ?_)
        rintro e w3 ⟨rfl, hB3⟩
        go_wp2_with fail
        go_ret
        exact ⟨rfl, hB3⟩
    · have g1 : ¬ (500 : Int) < s.size := by omega
      have g2 : (50 : Int) < (len : Int) := by omega
      go_enter Try.func4, Try.ntmps4
      go_wp2_with fail
      (with_reducible refine (awake_true _).mono ?_)
      rintro e w3 ⟨rfl, hB3⟩
      go_wp2_with fail
      go_ret
      exact ⟨rfl, hB3⟩
  · have g1 : (500 : Int) < s.size := by omega
    go_enter Try.func4, Try.ntmps4
    go_wp2_with fail
    (with_reducible refine (awake_true _).mono ?_)
    rintro e w3 ⟨rfl, hB3⟩
    go_wp2_with fail
    go_ret
    exact ⟨rfl, hB3⟩
end Go.Proofs.Ythpellhoponocaa
