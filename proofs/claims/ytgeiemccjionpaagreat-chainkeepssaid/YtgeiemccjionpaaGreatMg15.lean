/- Contracts and plain mathematics that the statement's proof wants: no statement is proved here, nothing is assumed. -/
import Derived.RangeFuncNested
import Derived.RangeFuncBound
import Derived.RangeFuncCalls
import Derived.RangeFuncLeaves
import Derived.RangeFuncBox
import Derived.Shelf.Abstract
import Derived.Shelf.RegionOpen
import Derived.OwnWalkIn
import Derived.TacticsInMore
import Derived.LoopNIn
import Derived.LoopIn
import Derived.Maps.AppendAt
import Derived.Deep.RegionLaw
import Derived.Deep.AppendLies
import Derived.Test.YtgeiemccjionpaaGreatMg06
import Derived.Test.YtgeiemccjionpaaGreatMg11
import Derived.Test.YtgeiemccjionpaaGreatMg14
/- DBack -/
namespace Go.Proofs.YtgeiemccjionpaaGreat.Dsk
open Go.RowKit Go.Shelf
attribute [local go_sem] Oper.semAt_some

/-- What comes: the place, and what stands there. -/
abbrev Pw := Nat × Wt
def encP (x : Pw) : Array Value := #[.int .i64 (x.1 : Int), .agg #[.int .i64 x.2.1, .string x.2.2]]
/-- What has come behind k rounds. -/
def upW (wet : List Wt) (k : Nat) : List Pw := (List.range k).map fun j => (wet.length - 1 - j, wet.getD (wet.length - 1 - j) (0, ByteArray.empty))
theorem upW_succ (wet : List Wt) (k : Nat) : upW wet (k + 1) = upW wet k ++ [(wet.length - 1 - k, wet.getD (wet.length - 1 - k) (0, ByteArray.empty))] := by simp [upW, List.range_succ]
theorem upW_length (wet : List Wt) (k : Nat) : (upW wet k).length = k := by simp [upW]

set_option maxRecDepth 100000 in
set_option maxHeartbeats 2000000 in
theorem back1_in (F : Fence) (n : Nat) (h38 : F.fn 97) (hro : F.round = none) (hn : 1 ≤ n) (l Bs n₀ : Nat) (A : Option Addr) (m cap : Nat) (wet : List Wt) (hm : m = wet.length) (hm2 : m ≤ 1000000) (hBs0 : Bs < n₀) (hA : 0 < m → ∃ b off, A = some ⟨b, off, none⟩ ∧ b < n₀)
    (J Jx : List Pw → World → Prop)
    (hY : ∀ pre x W, J pre W → pre.length < m → YieldAt F (n - 1) Tryz.prog l (encP x) W fun e W' =>
      (e = .returned (.bool true) ∧ J (pre ++ [x]) W' ∧ Below n₀ W W') ∨ (e = .returned (.bool false) ∧ Jx (pre ++ [x]) W'))
    (W : World) (hBs : W.cell? ⟨Bs, 0, none⟩ = some (.slice A m cap)) (hR : Reads W 106 2 A m (wetCells wet)) (h0 : J [] W) :
    CallsIn F n Tryz.prog 97 #[.func (.yield l) #[] #[], .pointer (some ⟨Bs, 0, none⟩)] W fun e W' => (∃ v, e = .returned v) ∧
      ((∃ ys, ys = upW wet m ∧ J ys W') ∨ (∃ pre, (∃ k, k ≤ m ∧ pre = upW wet k) ∧ Jx pre W')) := by
  have HR := Lib.hid hR
  have HM := Lib.hid hm
  have HA := Lib.hid hA
  have HY := Lib.hid hY
  clear hR hm hA hY
  refine callsIn_of_wp Tryz.func97 rfl h38 ?_ hro
  simp only [Tryz.ntmps97, List.size_toArray, List.length_cons, List.length_nil, Nat.reduceAdd, Nat.reduceSub, Array.replicate_succ, Array.replicate_zero, List.push_toArray, List.append_toArray, List.nil_append, List.cons_append]
  gi_wp2
  gi_loopw [3] (fun i wr => ∃ p : Nat, p ≤ m ∧ i = .int .i64 ((p : Int) - 1) ∧ J (upW wet (m - p)) wr ∧ Below n₀ W wr)
    (fun i _ => (intOf i + 1).toNat)
  case atStart => exact ⟨m, Nat.le_refl _, rfl, by rw [Nat.sub_self]; exact h0, Below.refl _ _⟩
  case round =>
    obtain ⟨p, hp, rfl, hJs, hnx⟩ := hrel
    cases p with
    | zero =>
      rw [show ((0 : Nat) : Int) - 1 = -1 from rfl]
      gi_wp2
      go_end0
      exact ⟨⟨_, rfl⟩, .inl ⟨_, rfl, hJs⟩⟩
    | succ q =>
      rw [show ((q + 1 : Nat) : Int) - 1 = (q : Int) by omega]
      have hqm : q < m := by omega
      obtain ⟨o, ho⟩ : ∃ o, wet[q]? = some o := ⟨_, List.getElem?_eq_getElem (by have := HM.out; omega)⟩
      obtain ⟨b, off, rfl, hbl, hcell⟩ := HR.out.at_ (by omega)
      obtain ⟨b', off', e', hb0⟩ := HA.out (by omega)
      cases e'
      have hw := wetCells_at wet q o ho
      have hgd : wet.getD (wet.length - 1 - (m - (q + 1))) (0, ByteArray.empty) = o := by
        have e : wet.length - 1 - (m - (q + 1)) = q := by have := HM.out; omega
        rw [e, List.getD, ho]; rfl
      have hup : upW wet (m - q) = upW wet (m - (q + 1)) ++ [(q, o)] := by
        have e : m - q = m - (q + 1) + 1 := by omega
        rw [e, upW_succ, hgd]
        have e2 : wet.length - 1 - (m - (q + 1)) = q := by have := HM.out; omega
        rw [e2]
      obtain ⟨oa, od⟩ := o
      have hc0 : wr.cell? ⟨b, off + q * 2, none⟩ = some (.int .i64 oa) := (hnx.cell (p := ⟨b, off + q * 2, none⟩) hb0).trans (hcell _ _ hw.1)
      have hc1 : wr.cell? ⟨b, off + q * 2 + 1, none⟩ = some (.string od) := (hnx.cell (p := ⟨b, off + q * 2 + 1, none⟩) hb0).trans (hcell _ _ hw.2)
      have hcs : wr.cell? ⟨Bs, 0, none⟩ = some (.slice (some ⟨b, off, none⟩) m cap) := (hnx.cell (p := ⟨Bs, 0, none⟩) hBs0).trans hBs
      obtain ⟨fn, tmps, assign, body, hy, hR⟩ := HY.out _ (q, (oa, od)) wr hJs (by rw [upW_length]; omega)
      dsimp only [encP] at hy
      have HU := Lib.hid hup
      have HRR := Lib.hid hR
      clear hcell hw ho hgd hup hR
      gi_wp2
      refine HRR.out.mono ?_
      rintro e W3 (⟨rfl, hJ3, hk3⟩ | ⟨rfl, hJx3⟩)
      · gi_wp2
        go_roundw
        case rel => exact ⟨q, by omega, rfl, by rw [HU.out]; exact hJ3, hnx.trans hk3⟩
        case measure => simp [intOf]
      · gi_wp2
        refine bodyPost_ret (results_none rfl _ _ _) rfl ?_
        exact ⟨⟨_, rfl⟩, .inr ⟨_, ⟨m - q, by omega, rfl⟩, by rw [HU.out]; exact hJx3⟩⟩

set_option maxRecDepth 100000 in
set_option maxHeartbeats 1000000 in
/-- slices.Backward: the slice is boxed; the function value has the box. -/
theorem back_in (F : Fence) (n : Nat) (h34 : F.fn 82) (hro : F.round = none) (a : Option Addr) (len cap : Nat) (w : World) :
    CallsIn F n Tryz.prog 82 #[.slice a len cap] w fun e w' => e = .returned (.func (.func 97) #[] #[.pointer (some ⟨w.heap.size, 0, none⟩)]) ∧ w' = w.alloc (.cells #[.slice a len cap] 25) := by
  refine callsIn_of_wp Tryz.func82 rfl h34 ?_ hro
  simp only [Tryz.ntmps82, List.size_toArray, List.length_cons, List.length_nil, Nat.reduceAdd, Nat.reduceSub, Array.replicate_succ, Array.replicate_zero, List.push_toArray, List.append_toArray, List.nil_append, List.cons_append]
  gi_wp2
  go_ret
  exact ⟨rfl, rfl⟩

/-- It hands on all, the last one first; or the first k of these. -/
theorem back_stops (F : Fence) (n : Nat) (h38 : F.fn 97) (hro : F.round = none) (hn : 1 ≤ n) (Bs n₀ : Nat) (A : Option Addr) (m cap : Nat) (wet : List Wt) (hm : m = wet.length) (hm2 : m ≤ 1000000) (w : World) (hBs0 : Bs < n₀) (hn₀ : n₀ ≤ w.heap.size)
    (hA : 0 < m → ∃ b off, A = some ⟨b, off, none⟩ ∧ b < n₀) (hc : w.cell? ⟨Bs, 0, none⟩ = some (.slice A m cap)) (hR : Reads w 106 2 A m (wetCells wet)) :
    SeqStopsK F n Tryz.prog 97 #[.pointer (some ⟨Bs, 0, none⟩)] encP (Below n₀) (fun ys => ys = upW wet m) (fun pre => ∃ k, k ≤ m ∧ pre = upW wet k) m w := fun l J Jx W hW _ _ hY h0 =>
  back1_in F n h38 hro hn l Bs n₀ A m cap wet hm hm2 hBs0 hA J Jx hY W ((hW.cell (p := ⟨Bs, 0, none⟩) (by show Bs < w.heap.size; omega)).trans hc) (hR.keep fun b _ _ hh => (hW.block b (Array.getElem?_eq_some_iff.1 hh).1).trans hh) h0
end Go.Proofs.YtgeiemccjionpaaGreat.Dsk

/- DRead -/
namespace Go.Proofs.YtgeiemccjionpaaGreat.Dsk
open Go.RowKit Go.Shelf
attribute [local go_sem] Oper.semAt_some

/-- Four boxes laid ahead of a call are there behind it. -/
theorem four_boxes {w w1 : World} {o1 o2 o3 o4 : Obj} (hb : Below ((((w.alloc o1).alloc o2).alloc o3).alloc o4).heap.size ((((w.alloc o1).alloc o2).alloc o3).alloc o4) w1) :
    w1.heap[w.heap.size]? = some o1 ∧ w1.heap[w.heap.size + 1]? = some o2 ∧ w1.heap[w.heap.size + 1 + 1]? = some o3 ∧ w1.heap[w.heap.size + 1 + 1 + 1]? = some o4 ∧ Below w.heap.size w w1 := by
  have n2 := heap_alloc_new (w.alloc o1) o2
  have n3 := heap_alloc_new ((w.alloc o1).alloc o2) o3
  have n4 := heap_alloc_new (((w.alloc o1).alloc o2).alloc o3) o4
  simp only [World.size_alloc] at n2 n3 n4
  refine ⟨box_kept _ (box_alloc (box_alloc (box_alloc (heap_alloc_new w o1) o2) o3) o4) hb, box_kept _ (box_alloc (box_alloc n2 o3) o4) hb, box_kept _ (box_alloc n3 o4) hb, box_kept _ n4 hb, ?_⟩
  exact below_trans' (((((Below.refl _ _).alloc (Nat.le_refl _) _).alloc (by simp) _).alloc (by simp; omega) _).alloc (by simp; omega) _) hb

set_option maxRecDepth 100000 in
set_option maxHeartbeats 1000000 in
/-- There is no such sector. -/
theorem read_arg (v : Value) (d : DK) (at_ : Int) (w : World) (hv : IsDisk w v d) (hbad : ¬ (0 ≤ at_ ∧ at_ < d.sure.length)) :
    Calls Tryz.prog 60 #[v, .int .i64 at_] w fun e w' => e = .returned (.tuple #[.string ⟨#[]⟩, .int .i64 1]) ∧ Below w.heap.size w w' := by
  obtain ⟨sure, wet, dead, left⟩ := d
  obtain ⟨A, n, c, A', m, c', rfl, hn, hm, -⟩ := hv.open_
  dsimp only at *
  rw [← hn] at hbad
  have hh : (decide (0 ≤ at_) && decide (at_ < (n : Int))) = false := by
    rw [Bool.eq_false_iff]; intro h; simp at h; exact hbad h
  have HH := Lib.hid hh
  clear hv hn hm hbad hh
  go_enter Tryz.func60, Tryz.ntmps60
  go_wp2_with fail
  refine (has_any A n c A' m c' dead left at_ _).mono ?_
  rintro e w1 ⟨rfl, hb1⟩
  rw [HH.out]
  obtain ⟨g1, g2, g3, g4, hbw⟩ := four_boxes hb1
  have c3 := Boxed.cell g3
  have c4 := Boxed.cell g4
  have f3 := Boxed.frozen g3
  have f4 := Boxed.frozen g4
  have HB := Lib.hid hbw
  clear hb1 g1 g2 g3 g4 hbw
  go_wp2_with fail
  refine bodyPost_ret (v := .tuple #[.string ⟨#[]⟩, .int .i64 1]) (by simp [results, Tryz.results60, go_sem, c3, c4]) rfl ⟨rfl, ?_⟩
  exact (HB.out.setCell (p := ⟨w.heap.size + 1 + 1, 0, none⟩) (by simp; omega) _).setCell (p := ⟨w.heap.size + 1 + 1 + 1, 0, none⟩) (by simp; omega) _

set_option maxRecDepth 100000 in
set_option maxHeartbeats 1000000 in
/-- The power is gone. -/
theorem read_down (v : Value) (d : DK) (at_ : Int) (w : World) (hv : IsDisk w v d) (h1 : 0 ≤ at_) (h2 : at_ < d.sure.length) (hd : d.dead = true) :
    Calls Tryz.prog 60 #[v, .int .i64 at_] w fun e w' => e = .returned (.tuple #[.string ⟨#[]⟩, .int .i64 12]) ∧ Below w.heap.size w w' := by
  obtain ⟨sure, wet, dead, left⟩ := d
  dsimp only at hd
  subst hd
  obtain ⟨A, n, c, A', m, c', rfl, hn, hm, -⟩ := hv.open_
  dsimp only at *
  rw [← hn] at h2
  have hh : (decide (0 ≤ at_) && decide (at_ < (n : Int))) = true := by simp [h1, h2]
  have HH := Lib.hid hh
  clear hv hn hm h1 h2 hh
  go_enter Tryz.func60, Tryz.ntmps60
  go_wp2_with fail
  refine (has_any A n c A' m c' true left at_ _).mono ?_
  rintro e w1 ⟨rfl, hb1⟩
  rw [HH.out]
  obtain ⟨g1, g2, g3, g4, hbw⟩ := four_boxes hb1
  obtain ⟨⟨_, _, p2, _⟩, _⟩ := box4 g1
  have c3 := Boxed.cell g3
  have c4 := Boxed.cell g4
  have f3 := Boxed.frozen g3
  have f4 := Boxed.frozen g4
  have HB := Lib.hid hbw
  clear hb1 g1 g2 g3 g4 hbw
  go_wp2_with fail
  refine bodyPost_ret (v := .tuple #[.string ⟨#[]⟩, .int .i64 12]) (by simp [results, Tryz.results60, go_sem, c3, c4]) rfl ⟨rfl, ?_⟩
  exact (HB.out.setCell (p := ⟨w.heap.size + 1 + 1, 0, none⟩) (by simp; omega) _).setCell (p := ⟨w.heap.size + 1 + 1 + 1, 0, none⟩) (by simp; omega) _

/-- What Read comes to, in the words of what came. -/
def ReadsAs (wet : List Wt) (sure : List ByteArray) (j m : Nat) (s : ByteArray) : Prop :=
  (∃ (k : Nat) (ini : List Pw) (x : Pw), k ≤ m ∧ upW wet k = ini ++ [x] ∧ (∀ p ∈ ini, p.2.1 ≠ (j : Int)) ∧ x.2.1 = (j : Int) ∧ s = x.2.2) ∨ ((∀ p ∈ upW wet m, p.2.1 ≠ (j : Int)) ∧ s = sure.getD j ByteArray.empty)

/-- A block of cells is as it was where only what is no cells has turned. -/
theorem heap_own {X Y : World} {row : Option Nat} {g : Nat} {cur : Array Value} {t : TypeId} {fr : Nat × Nat} (h : X.heap[g]? = some (.cells cur t fr)) (hg : X.grownBy Y row) (hr : ∀ r, row = some r → ∃ o : Obj, X.heap[r]? = some o ∧ o.isCells = false) : Y.heap[g]? = some (.cells cur t fr) :=
  (hg.block g (Array.getElem?_eq_some_iff.1 h).1 (fun e => by obtain ⟨o, ho, hc⟩ := hr g e.symm; rw [h] at ho; cases ho; cases hc)).trans h

set_option maxRecDepth 100000 in
set_option maxHeartbeats 4000000 in
theorem read_walk (A : Option Addr) (n c : Nat) (A' : Option Addr) (m c' : Nat) (left : Int) (sure : List ByteArray) (wet : List Wt) (j : Nat) (w : World) (hj : j < n) (hn : n = sure.length) (hm : m = wet.length) (hm2 : m ≤ 1000000)
    (h1 : Reads w 9 1 A n (sure.map Value.string)) (h2 : Reads w 106 2 A' m (wetCells wet)) :
    Calls Tryz.prog 60 #[.agg #[.slice A n c, .slice A' m c', .bool false, .int .i64 left], .int .i64 j] w fun e w' => ∃ s, e = .returned (.tuple #[.string s, .int .i64 0]) ∧ Below w.heap.size w w' ∧ ReadsAs wet sure j m s := by
  have hh : (decide (0 ≤ (j : Int)) && decide ((j : Int) < (n : Int))) = true := by simp; omega
  have HH := Lib.hid hh
  have HN := Lib.hid hn
  have HM := Lib.hid hm
  have H1 := Lib.hid h1
  have H2 := Lib.hid h2
  clear hh hn hm h1 h2
  refine (callsIn_wide (n := 5)).1 ?_
  refine callsIn_of_wp_marks Tryz.func60 rfl trivial ?_ rfl
  simp only [Tryz.ntmps60, List.size_toArray, List.length_cons, List.length_nil, Nat.reduceAdd, Nat.reduceSub, Array.replicate_succ, Array.replicate_zero, List.push_toArray, List.append_toArray, List.nil_append, List.cons_append]
  gi_wp2_with fail
  refine ⟨trivial, ((callsIn_wide (n := 4)).2 (has_any A n c A' m c' false left j _)).mono ?_⟩
  rintro e w1 ⟨rfl, hb1⟩
  rw [HH.out]
  obtain ⟨g1, g2, g3, g4, hbw⟩ := four_boxes hb1
  obtain ⟨⟨p0, p1, p2, p3⟩, _⟩ := box4 g1
  have G1 := Lib.hid g1
  have G2 := Lib.hid g2
  have G3 := Lib.hid g3
  have G4 := Lib.hid g4
  have HB := Lib.hid hbw
  clear hb1 g1 g2 g3 g4 hbw
  gi_wp2_with fail
  refine ⟨trivial, (back_in Fence.wide 4 trivial rfl A' m c' w1).mono ?_⟩
  rintro e w2 ⟨rfl, rfl⟩
  gi_wp2_with fail
  have hsz : (w1.alloc (.cells #[.slice A' m c'] 25)).heap.size = w1.heap.size + 1 := World.size_alloc _ _
  have hs4 : w.heap.size + 1 + 1 + 1 < w1.heap.size := Boxed.lt G4.out
  have gD := box_alloc G1.out (.cells #[.slice A' m c'] 25)
  have bA : Boxed (w1.alloc (.cells #[.slice A' m c'] 25)) (w.heap.size + 1) 3 (.int .i64 j) := box_alloc G2.out _
  have bS : Boxed (w1.alloc (.cells #[.slice A' m c'] 25)) (w.heap.size + 1 + 1) 9 (.string ⟨#[]⟩) := box_alloc G3.out _
  have bE : Boxed (w1.alloc (.cells #[.slice A' m c'] 25)) (w.heap.size + 1 + 1 + 1) 33 (.int .i64 0) := box_alloc G4.out _
  have bN := Boxed.new w1 25 (.slice A' m c')
  have hB0 : Below w.heap.size w (w1.alloc (.cells #[.slice A' m c'] 25)) := HB.out.alloc HB.out.size _
  obtain ⟨W0, hW0⟩ : ∃ W0, w1.alloc (.cells #[.slice A' m c'] 25) = W0 := ⟨_, rfl⟩
  rw [hW0] at gD bA bS bE bN hB0 hsz ⊢
  clear hW0 p0 p1 p2 p3 G1 G2 G3 G4 HB
  have hA : 0 < m → ∃ b off, A' = some ⟨b, off, none⟩ ∧ b < w1.heap.size + 1 := fun h => by
    obtain ⟨b, off, e, hb, _⟩ := H2.out.at_ h
    exact ⟨b, off, e, by omega⟩
  have hR : Reads W0 106 2 A' m (wetCells wet) := H2.out.keep fun b _ _ hh => (hB0.block b (Array.getElem?_eq_some_iff.1 hh).1).trans hh
  refine wpIn_rangeFunc_ownH rfl (by omega) (gf := 97) (lb := #[.pointer (some ⟨w1.heap.size, 0, none⟩)]) rfl trivial (enters_of Tryz.func97 (by kernel_rfl) rfl)
    (back_stops Fence.wide (5 - 1) trivial rfl (by omega) w1.heap.size (w1.heap.size + 1) A' m c' wet HM.out hm2 W0 (by omega) (by omega) hA bN.cell hR) belowK_t (belowK_b (by omega)) (Below.refl _ _) (fun _ => rfl)
    (fun pre W => ((∀ p ∈ pre, p.2.1 ≠ (j : Int)) ∧ W.heap[w.heap.size]? = some (.cells #[.slice A n c, .slice A' m c', .bool false, .int .i64 left] 27 (0, 0)) ∧ Boxed W (w.heap.size + 1) 3 (.int .i64 j) ∧ Boxed W (w.heap.size + 1 + 1) 9 (.string ⟨#[]⟩) ∧ Boxed W (w.heap.size + 1 + 1 + 1) 33 (.int .i64 0) ∧ w1.heap.size + 1 ≤ W.heap.size) ∧ Below w.heap.size w W)
    (fun cd pre W => (cd = .ret ∧ ∃ ini x, pre = ini ++ [x] ∧ (∀ p ∈ ini, p.2.1 ≠ (j : Int)) ∧ x.2.1 = (j : Int) ∧ Boxed W (w.heap.size + 1 + 1) 9 (.string x.2.2) ∧ Boxed W (w.heap.size + 1 + 1 + 1) 33 (.int .i64 0)) ∧ Below w.heap.size w W)
    (OwnFrom.and (Own.from (fun s X Y row hs hg hr => ⟨hs.1, heap_own hs.2.1 hg hr, heap_own hs.2.2.1 hg hr, heap_own hs.2.2.2.1 hg hr, heap_own hs.2.2.2.2.1 hg hr, Nat.le_trans hs.2.2.2.2.2 hg.size⟩) _) (ownFrom_below (Nat.le_refl _) (by omega)))
    (fun cd => OwnFrom.and (Own.from (fun s X Y row hs hg hr => by obtain ⟨hc, ini, x, e1, e2, e3, e4, e5⟩ := hs; exact ⟨hc, ini, x, e1, e2, e3, heap_own e4 hg hr, heap_own e5 hg hr⟩) _) (ownFrom_below (Nat.le_refl _) (by omega)))
    ⟨⟨by simp, gD, bA, bS, bE, by omega⟩, hB0⟩
    (fun x a' W => ∃ Bx, w.heap.size + 1 + 1 + 1 < Bx ∧ W.heap[Bx]? = some (.cells #[.int .i64 x.2.1, .string x.2.2] 106 (0, 0)) ∧ a' = { tmps := #[.agg #[.slice A n c, .slice A' m c', .bool false, .int .i64 left], .int .i64 j, .pointer (some ⟨w.heap.size, 0, none⟩), .pointer (some ⟨w.heap.size + 1, 0, none⟩), .pointer (some ⟨w.heap.size + 1 + 1, 0, none⟩), .pointer (some ⟨w.heap.size + 1 + 1 + 1, 0, none⟩), undef, .pointer (some ⟨Bx, 0, none⟩), .agg #[.slice A n c, .slice A' m c', .bool false, .int .i64 left], .int .i64 j, .bool true, .bool false, .pointer (some ⟨w.heap.size, 2, none⟩), .bool false, .pointer (some ⟨w.heap.size, 1, none⟩), .slice A' m c', .func (.func 97) #[] #[.pointer (some ⟨w1.heap.size, 0, none⟩)], .int .i64 (x.1 : Int), .agg #[.int .i64 x.2.1, .string x.2.2], undef, undef, undef, undef, undef, undef, undef, undef, undef, undef, undef], defers := [] })
    (fun x a' _ X Y row hs hg hr => by obtain ⟨Bx, h1, h2, h3⟩ := hs; exact ⟨Bx, h1, heap_own h2 hg (fun r e => (hr r e).2), h3⟩)
    ?assign ?body ?done ?stop
  case assign =>
    rintro l pre ⟨xi, xa, xd⟩ W K ⟨⟨i1, i2, i3, i4, i5, i7⟩, i6⟩ hK
    dsimp only [encP]
    clear hR hA bN bE bS bA gD
    gi_wp2
    exact hK _ _ ((KeepsOthers.alloc _ _).from _) ((Below.refl _ W).alloc i7 _) ⟨⟨i1, box_alloc i2 _, i3.alloc _, i4.alloc _, i5.alloc _, by rw [World.size_alloc]; omega⟩, i6.alloc i6.size _⟩ ⟨W.heap.size, i5.lt, heap_alloc_new W _, rfl⟩
  case body =>
    rintro l pre ⟨xi, xa, xd⟩ a' W hl ⟨r, hr⟩ ⟨⟨i1, i2, i3, i4, i5, i7⟩, i6⟩ ⟨Bx, hBx, bX, rfl⟩ hlt
    dsimp only at bX ⊢
    have cA := i3.cell
    obtain ⟨⟨cX0, cX1⟩, _⟩ := box2 bX
    have cS := i4.cell
    have fS := i4.frozen
    have cE := i5.cell
    have fE := i5.frozen
    clear hR hA bN bE bS bA gD
    by_cases he : xa = (j : Int)
    · have heb : (xa == (j : Int)) = true := by simp [he]
      have HE := Lib.hid he
      clear he
      gi_wp2
      exact ⟨((KeepsOthers.setCell _ _ _).trans (KeepsOthers.setCell _ _ _)).from _, ⟨rfl, pre, _, rfl, i1, HE.out, (i4.set _).other (by omega) _, (i5.other (by omega) _).set _⟩, (i6.setCell (p := ⟨w.heap.size + 1 + 1, 0, none⟩) (by simp; omega) _).setCell (p := ⟨w.heap.size + 1 + 1 + 1, 0, none⟩) (by simp; omega) _⟩
    · have heb : (xa == (j : Int)) = false := by simp [he]
      have HE := Lib.hid he
      clear he
      gi_wp2
      exact ⟨KeepsFrom.refl _ _, Below.refl _ _, ⟨fun p hp => (List.mem_append.1 hp).elim (i1 p) (fun e => by simp at e; subst e; exact HE.out), i2, i3, i4, i5, i7⟩, i6⟩
  case done =>
    rintro D ys W hD rfl ⟨⟨i1, i2, i3, i4, i5, i7⟩, i6⟩ hK
    have cA := i3.cell
    obtain ⟨⟨cD0, _⟩, _⟩ := box4 i2
    have cS := i4.cell
    have fS := i4.frozen
    have cE := i5.cell
    have fE := i5.frozen
    obtain ⟨b, off, rfl, hbl, hcell⟩ := H1.out.at_ (by omega)
    have hcj : W.cell? ⟨b, off + j, none⟩ = some (.string (sure.getD j ByteArray.empty)) := (i6.cell (p := ⟨b, off + j, none⟩) hbl).trans (hcell j _ (by have := HN.out; rw [List.getElem?_map, List.getElem?_eq_getElem (by omega)]; simp [List.getD, List.getElem?_eq_getElem (show j < sure.length by omega)]))
    have I1 := Lib.hid i1
    obtain ⟨t, ht⟩ : ∃ t, t = sure.getD j ByteArray.empty := ⟨_, rfl⟩
    rw [← ht] at hcj
    have HT := Lib.hid ht
    have HBL := Lib.hid hbl
    clear hR hA bN bE bS bA gD hcell i1 ht
    gi_wp2
    have hK' := ((KeepsOthers.setCell W ⟨w.heap.size + 1 + 1, 0, none⟩ (.string t)).trans (KeepsOthers.setCell _ ⟨w.heap.size + 1 + 1 + 1, 0, none⟩ (.int .i64 0))).same D _ hK rfl
    refine ⟨by simp, .inl ⟨_, _, rfl, run_takeDeferred hK', ?_⟩⟩
    have b5 : Boxed _ (w.heap.size + 1 + 1) 9 (.string t) := heap_own ((i4.set (.string t)).other (B' := w.heap.size + 1 + 1 + 1) (by omega) (.int .i64 0)) (grownBy_putObj' _ D (.deferred none)) (fun r e => by cases e; exact ⟨_, hK', rfl⟩)
    have b6 : Boxed _ (w.heap.size + 1 + 1 + 1) 33 (.int .i64 0) := heap_own ((i5.other (B' := w.heap.size + 1 + 1) (by omega) (.string t)).set (.int .i64 0)) (grownBy_putObj' _ D (.deferred none)) (fun r e => by cases e; exact ⟨_, hK', rfl⟩)
    have c5 := b5.cell
    have c6 := b6.cell
    refine ⟨.tuple #[.string t, .int .i64 0], ?_, t, rfl, ?_, .inr ⟨I1.out, HT.out⟩⟩
    · simp [results, Tryz.f60, go_sem, c5, c6]
    · exact ((i6.setCell (p := ⟨w.heap.size + 1 + 1, 0, none⟩) (by simp; omega) _).setCell (p := ⟨w.heap.size + 1 + 1 + 1, 0, none⟩) (by simp; omega) _).trans (belowK_b (w := w) (Nat.le_refl _) _ D _ _ (by omega) hK' rfl rfl)
  case stop =>
    rintro D cd pre W hD ⟨k, hk, rfl⟩ ⟨⟨rfl, ini, x, e1, e2, e3, bS1, bE1⟩, i6⟩ hK
    have I1 := Lib.hid e1
    have I2 := Lib.hid e2
    have I3 := Lib.hid e3
    clear hR hA bN bE bS bA gD e1 e2 e3
    gi_wp2
    refine ⟨by simp, .inl ⟨_, _, rfl, run_takeDeferred hK, ?_⟩⟩
    have b5 : Boxed _ (w.heap.size + 1 + 1) 9 (.string x.2.2) := heap_own bS1 (grownBy_putObj' _ D (.deferred none)) (fun r e => by cases e; exact ⟨_, hK, rfl⟩)
    have b6 : Boxed _ (w.heap.size + 1 + 1 + 1) 33 (.int .i64 0) := heap_own bE1 (grownBy_putObj' _ D (.deferred none)) (fun r e => by cases e; exact ⟨_, hK, rfl⟩)
    have c5 := b5.cell
    have c6 := b6.cell
    refine ⟨.tuple #[.string x.2.2, .int .i64 0], ?_, _, rfl, ?_, .inl ⟨k, ini, x, hk, I1.out, I2.out, I3.out, rfl⟩⟩
    · simp [results, Tryz.f60, go_sem, c5, c6]
    · exact i6.trans (belowK_b (w := w) (Nat.le_refl _) W D _ _ (by omega) hK rfl rfl)

/-- What came behind k rounds are the last k of the list, the last one first. -/
theorem upW_eq (wet : List Wt) : ∀ k, k ≤ wet.length → (upW wet k).map (·.2) = (wet.reverse).take k := by
  intro k hk
  apply List.ext_getElem
  · simp [upW, hk]
  · intro i h1 h2
    simp only [upW, List.length_map, List.length_range] at h1
    have hi : i < wet.length := by omega
    simp [upW, List.getElem_reverse, List.getD, List.getElem?_eq_getElem (show wet.length - 1 - i < wet.length by omega)]

theorem readsAs_eq (wet : List Wt) (sure : List ByteArray) (j : Nat) (s : ByteArray) (h : ReadsAs wet sure j wet.length s) : s = readF wet sure j := by
  unfold readF
  rcases h with ⟨k, ini, x, hk, he, hi, hx, rfl⟩ | ⟨hi, rfl⟩
  · have e := upW_eq wet k hk
    rw [he, List.map_append] at e
    have hf : wet.reverse.find? (fun o => o.1 == (j : Int)) = some x.2 := by
      have e2 : wet.reverse = (ini.map (·.2) ++ [x.2]) ++ wet.reverse.drop k := by
        have := (List.take_append_drop k wet.reverse).symm
        rw [← e] at this
        simpa using this
      rw [e2, List.append_assoc, List.find?_append, List.find?_eq_none.2]
      · simp [hx]
      · intro o ho
        obtain ⟨p, hp, rfl⟩ := List.mem_map.1 ho
        simpa using hi p hp
    rw [hf]
  · have e := upW_eq wet wet.length (Nat.le_refl _)
    have hf : wet.reverse.find? (fun o => o.1 == (j : Int)) = none := by
      rw [List.find?_eq_none]
      intro o ho
      have : o ∈ (upW wet wet.length).map (·.2) := by rw [e, List.take_of_length_le (by simp)]; exact ho
      obtain ⟨p, hp, rfl⟩ := List.mem_map.1 this
      simpa using hi p hp
    rw [hf]
    simp

/-- disk.Read of a sector that is there, with power. -/
theorem read_ok (v : Value) (d : DK) (at_ : Int) (w : World) (hv : IsDisk w v d) (hd : d.ok) (h1 : 0 ≤ at_) (h2 : at_ < d.sure.length) (hde : d.dead = false) :
    Calls Tryz.prog 60 #[v, .int .i64 at_] w fun e w' => e = .returned (.tuple #[.string (readF d.wet d.sure at_), .int .i64 0]) ∧ Below w.heap.size w w' := by
  obtain ⟨sure, wet, dead, left⟩ := d
  dsimp only at hde
  subst hde
  obtain ⟨_, _, rfl, h3, h4⟩ := hv
  obtain ⟨A, c, rfl, _, hr⟩ := h3
  obtain ⟨A', c', rfl, _, hr'⟩ := h4
  dsimp only at *
  obtain ⟨j, rfl⟩ := Int.eq_ofNat_of_zero_le h1
  refine (read_walk A sure.length c A' wet.length c' left sure wet j w (by omega) rfl rfl (by have := hd.wet; dsimp only at this; omega) hr hr').mono ?_
  rintro e w' ⟨s, rfl, hb, hs⟩
  exact ⟨by rw [readsAs_eq wet sure j s hs], hb⟩
end Go.Proofs.YtgeiemccjionpaaGreat.Dsk

/- DDoes -/
namespace Go.Proofs.YtgeiemccjionpaaGreat.Dsk
open Go.RowKit

theorem read_calls (v : Value) (d : DK) (at_ : Int) (w : World) (hv : IsDisk w v d) (hd : d.ok) :
    Calls Tryz.prog 60 #[v, .int .i64 at_] w fun e w' => e = .returned (.tuple #[.string (rdS d at_), .int .i64 (rdE d at_)]) ∧ Below w.heap.size w w' := by
  unfold rdS rdE
  by_cases h : rdOk d at_
  · by_cases hde : d.dead = false
    · rw [if_pos ⟨h, hde⟩, if_pos h, if_pos hde]
      exact read_ok v d at_ w hv hd h.1 h.2 hde
    · rw [if_neg (fun x => hde x.2), if_pos h, if_neg hde]
      exact read_down v d at_ w hv h.1 h.2 (by simpa using hde)
  · rw [if_neg (fun x => h x.1), if_neg h]
    exact read_arg v d at_ w hv h

/-- Three boxes that were laid one behind another. -/
theorem three_new (w : World) (a b c : Obj) : ∃ X g1 g2 g3, ((w.alloc a).alloc b).alloc c = X ∧ w.heap.size = g1 ∧ w.heap.size + 1 = g2 ∧ w.heap.size + 1 + 1 = g3 ∧ X.heap[g1]? = some a ∧ X.heap[g2]? = some b ∧ X.heap[g3]? = some c ∧ Below w.heap.size w X ∧ w.heap.size ≤ g3 ∧ g3 ≠ g1 := by
  refine ⟨_, _, _, _, rfl, rfl, rfl, rfl, box_alloc (box_alloc (heap_alloc_new w a) b) c, ?_, ?_, (((Below.refl _ _).alloc (Nat.le_refl _) _).alloc (by simp) _).alloc (by simp; omega) _, by omega, by omega⟩
  · exact box_alloc (by have := heap_alloc_new (w.alloc a) b; simpa using this) c
  · have := heap_alloc_new ((w.alloc a).alloc b) c
    simpa using this

end Go.Proofs.YtgeiemccjionpaaGreat.Dsk

/- DRList -/
namespace Go.Proofs.YtgeiemccjionpaaGreat.Dsk
open Go.RowKit

end Go.Proofs.YtgeiemccjionpaaGreat.Dsk

/- DRPut -/
namespace Go.Proofs.YtgeiemccjionpaaGreat.Dsk
open Go.RowKit
attribute [local go_sem ↓] Go.wp_at_zero Go.wp_at_succ

theorem own_ge {W : World} {base : Nat} {e : TypeId} {size n : Nat} {v : Value} {xs : List Value} (h : W.ownsRow base e size v n xs) : ∀ k, v.ownBlock = some k → base ≤ k := by
  intro k hk
  rcases h.2 with ⟨rfl, _⟩ | ⟨g, cap, cur, rfl, hb, _⟩
  · simp [Value.ownBlock] at hk
  · simp [Value.ownBlock] at hk
    omega

theorem disk_wet {W : World} {A B : Option Addr} {n c m p : Nat} {b : Bool} {l : Int} {d : DK} (h : IsDisk W (.agg #[.slice A n c, .slice B m p, .bool b, .int .i64 l]) d) : m = d.wet.length ∧ Reads W 106 2 B m (wetCells d.wet) := by
  obtain ⟨vs, vw, e, _, ⟨A1, c1, e1, _, hr⟩⟩ := h
  simp only [Value.agg.injEq, Array.mk.injEq, List.cons.injEq] at e
  obtain ⟨_, e0, _⟩ := e
  rw [e1] at e0
  injection e0 with e2 e3 e4
  subst e2
  rw [← e3] at hr
  exact ⟨e3, hr⟩

theorem tw_take {p : Wt} : ∀ (l : List Wt) (i : Nat), (∀ q x, q < i → l[q]? = some x → x.1 < p.1) → (∀ x, l[i]? = some x → ¬ x.1 < p.1) → i ≤ l.length → l.takeWhile (fun o => decide (o.1 < p.1)) = l.take i ∧ l.dropWhile (fun o => decide (o.1 < p.1)) = l.drop i
  | [], i, _, _, h3 => by simp at h3; subst h3; simp
  | x :: l, 0, _, h2, _ => by
    have := h2 x rfl
    simp [this]
  | x :: l, i + 1, h1, h2, h3 => by
    have h0 := h1 0 x (by omega) rfl
    have ih := tw_take (p := p) l i (fun q y hq hy => h1 (q + 1) y (by omega) (by simpa using hy)) (fun y hy => h2 y (by simpa using hy)) (by simpa using h3)
    simp [h0, ih.1, ih.2]

theorem acc_next {wet : List Wt} {i j : Nat} {o p : Wt} (h : i ≤ j) (ho : wet[j]? = some o) (pre : List Wt) : pre ++ ((wet.drop i).take (j + 1 - i)).filter (fun o => decide (o.1 ≠ p.1)) = (pre ++ ((wet.drop i).take (j - i)).filter (fun o => decide (o.1 ≠ p.1))) ++ (if o.1 = p.1 then [] else [o]) := by
  have e : j + 1 - i = (j - i) + 1 := by omega
  rw [e, List.take_add_one, List.getElem?_drop, show i + (j - i) = j by omega, ho]
  by_cases h1 : o.1 = p.1 <;> simp [h1]

set_option maxRecDepth 100000 in
set_option maxHeartbeats 4000000 in
theorem rwrite_done (v : Value) (d : DK) (at_ : Int) (data : ByteArray) (w : World) (hv : IsDisk w v d) (hd : d.ok) (h1 : 0 ≤ at_) (h2 : at_ < d.sure.length) (h3 : data.size ≤ 256) (hdown : deedB d = true) (hrise : Rising d.wet) :
    Calls Tryz.prog 31 #[v, .int .i64 at_, .string data] w fun e w' => ∃ v', e = .returned (.tuple #[v', .int .i64 0]) ∧ IsDisk w' v' { deedD d with wet := withF (at_, padB data) d.wet } ∧ Below w.heap.size w w' := by
  obtain ⟨A, n, c, A', m, c', rfl⟩ := hv.parts
  have hnl : d.sure.length = n := by
    obtain ⟨vs, vw, e, ⟨A1, c1, e1, _⟩, _⟩ := hv
    simp only [Value.agg.injEq, Array.mk.injEq, List.cons.injEq] at e
    rw [e1] at e
    injection e.1 with _ e2
    exact e2.symm
  rw [hnl] at h2
  have hd0 : decide (at_ < 0) = false := decide_eq_false (by omega)
  have hd1' : decide ((n : Int) ≤ at_) = false := decide_eq_false (by omega)
  have hd2 : decide ((256 : Int) < (data.size : Int)) = false := by simp; omega
  have hwt : (deedD d).wet = d.wet := by unfold deedD; split <;> (try split) <;> rfl
  have hsr : (deedD d).sure = d.sure := by unfold deedD; split <;> (try split) <;> rfl
  have hdo := deedD_ok hd
  obtain ⟨d1, hd1⟩ : ∃ d1, d1 = deedD d := ⟨_, rfl⟩
  obtain ⟨b1, hb1⟩ : ∃ b1, b1 = deedB d := ⟨_, rfl⟩
  have hde : ∀ W : World, Below w.heap.size w W → Calls Tryz.prog 55 #[.agg #[.slice A n c, .slice A' m c', .bool d.dead, .int .i64 d.left]] W fun e w' => ∃ v', e = .returned (.tuple #[v', .bool b1]) ∧ IsDisk w' v' d1 ∧ Below W.heap.size W w' := fun W hb => by
    rw [hd1, hb1]; exact rdeed_calls _ d W (hv.below hb) hd.lo hd.hi
  rw [← hd1] at hwt hsr hdo ⊢
  rw [hdown] at hb1
  subst hb1
  rw [← hwt] at hrise ⊢
  clear hd1 hwt hsr hv hd hnl
  obtain ⟨sure, wet, dead, left⟩ := d
  dsimp only at hde
  have HDE := Lib.hid hde
  have HDO := Lib.hid hdo
  have HRISE := Lib.hid hrise
  clear hrise
  clear hde hdo
  go_enter Tryz.func31, Tryz.ntmps31
  go_wp2_with fail
  have hb0 : Below w.heap.size w ((w.alloc (.cells #[.slice A n c, .slice A' m c', .bool dead, .int .i64 left] 27)).alloc (.cells #[.slice none 0 0, .slice none 0 0, .bool false, .int .i64 0] 27)) := ((Below.refl _ _).alloc (Nat.le_refl _) _).alloc (by simp) _
  with_reducible refine (HDE.out _ hb0).mono ?_
  clear HDE
  rintro e w1 ⟨v1, rfl, hv1, hb1⟩
  obtain ⟨A1, n1, c1, A1', m1, c1', rfl⟩ := hv1.parts
  obtain ⟨sure1, wet1, dead1, left1⟩ := d1
  dsimp only at hv1 ⊢
  have hg1 := box_kept w.heap.size (box_alloc (heap_alloc_new w _) _) hb1
  have hg2 : w1.heap[w.heap.size + 1]? = some (.cells #[.slice none 0 0, .slice none 0 0, .bool false, .int .i64 0] 27 (0, 0)) := box_kept (w.heap.size + 1) (by have := heap_alloc_new (w.alloc (.cells #[.slice A n c, .slice A' m c', .bool dead, .int .i64 left] 27)) (.cells #[.slice none 0 0, .slice none 0 0, .bool false, .int .i64 0] 27); simpa using this) hb1
  have hbw := below_trans' hb0 hb1
  obtain ⟨w2, e2, hG2, hK2, hB2⟩ := box_store4 hg1 (.slice A1 n1 c1) (.slice A1' m1 c1') (.bool dead1) (.int .i64 left1)
  have HV2 := Lib.hid (hv1.other hg1 (by decide) (by decide) hK2)
  have HB := Lib.hid (hB2 _ _ hbw (Nat.le_refl _))
  have hr2 : w2.heap[w.heap.size + 1]? = _ := (hK2 _ (by omega)).trans hg2
  obtain ⟨⟨hp0, hp1, hp2, hp3⟩, hf0, hf1, hf2, hf3⟩ := box4 hg1
  have HG2 := Lib.hid hG2
  have HR2 := Lib.hid hr2
  have E2 := Lib.hid e2
  clear hb0 hb1 hv1 hg1 hg2 hbw e2 hG2 hK2 hB2 hr2
  go_upto_region 4 with (fail)
  rw [E2.out]
  clear hp0 hp1 hp2 hp3 hf0 hf1 hf2 hf3 E2
  obtain ⟨⟨hp0, hp1, hp2, hp3⟩, hf0, hf1, hf2, hf3⟩ := box4 HG2.out
  obtain ⟨⟨hq0, hq1, hq2, hq3⟩, hr0, hr1, hr2, hr3⟩ := box4 HR2.out
  obtain ⟨k, hk⟩ : ∃ k : Nat, k = 256 - data.size := ⟨_, rfl⟩
  have hk2 : (256 : Int) - (data.size : Int) = (k : Int) := by omega
  obtain ⟨i0, hi, hz0, hz1, hz2⟩ := info_parts Tryz.info5
  have hmk : ∀ W : World, (Instr.makeSlice 70 (.int .i64 (256 - (data.size : Int))) (.int .i64 (256 - (data.size : Int)))).run Tryz.prog W = .ok (.slice (some ⟨W.heap.size, 0, none⟩) k k) (W.alloc (.cells (madeCells (Value.cells (.int .u8 0)) k) 5)) := by
    intro W
    have := run_make (P := Tryz.prog) W 70 5 i0 (.int .u8 0) Tryz.underlying70 hi hz0 .i64 .i64 (256 - (data.size : Int)) (256 - (data.size : Int)) (by omega) (by omega) (by rw [hz2]; omega) (by omega)
    rw [this, hk2, hz1]
    simp
  obtain ⟨t, ht⟩ : ∃ t : ByteArray, t = ⟨(List.replicate k (0 : UInt8)).toArray⟩ := ⟨_, rfl⟩
  have hcv : ∀ W : World, (convert 70 9 (.slice (some ⟨W.heap.size, 0, none⟩) k k)).run Tryz.prog (W.alloc (.cells (madeCells #[.int .u8 0] k) 5)) = .ok (.string t) (W.alloc (.cells (madeCells #[.int .u8 0] k) 5)) := by
    intro W
    have h0 := run_convert_bytes_back (P := Tryz.prog) (W.alloc (.cells (madeCells #[.int .u8 0] k) 5)) 70 9 5 ⟨W.heap.size, 0, none⟩ k (List.replicate k 0) Tryz.underlying70 Tryz.underlying5 Tryz.underlying9 ?_
    · rw [ht]; simpa using h0
    · intro j hj
      have hj' : j < k := by simpa using hj
      rw [Addr.add_lit, cell_of_row _ _ _ _ _ _ (heap_alloc_new W _)]
      simp [madeCells, hj', Nat.mod_one]
  have e2 := padB_eq data k hk
  have hts : t.size = k := by rw [ht]; simp [ByteArray.size]
  have hts2 : t.size ≤ 256 := by omega
  rw [← ht] at e2
  have E3 := Lib.hid e2
  clear e2 ht hts hk hk2 hi hz0 hz1 hz2
  go_upto_region 7 with (fail)
  rw [E3.out]
  obtain ⟨P, hP⟩ : ∃ P, P = padB data := ⟨_, rfl⟩
  rw [← hP]
  obtain ⟨X, gW, eX, eW, hGW, hbX⟩ : ∃ X gW, ((w2.alloc (.cells (madeCells #[.int .u8 0] k) 5)).alloc (.cells #[.int .i64 at_, .string P] 106)) = X ∧ w2.heap.size + 1 = gW ∧ X.heap[gW]? = some (.cells #[.int .i64 at_, .string P] 106 (0, 0)) ∧ Below w2.heap.size w2 X := ⟨_, _, rfl, rfl, by have := heap_alloc_new (w2.alloc (.cells (madeCells #[.int .u8 0] k) 5)) (.cells #[.int .i64 at_, .string P] 106); simpa using this, ((Below.refl _ _).alloc (Nat.le_refl _) _).alloc (by simp) _⟩
  rw [eX, eW]
  have HVX := Lib.hid (HV2.out.below hbX)
  have HGD := Lib.hid (box_kept _ HG2.out hbX)
  have HGR := Lib.hid (box_kept _ HR2.out hbX)
  have HGW := Lib.hid hGW
  have HBX := Lib.hid (below_trans' HB.out hbX)
  obtain ⟨hm1, hwr⟩ := disk_wet HVX.out
  dsimp only at hm1 hwr
  have HM := Lib.hid hm1
  have HW := Lib.hid hwr
  have HP := Lib.hid hP
  have hm2 : m1 ≤ 2000 := by have := HDO.out.wet; dsimp only at this; omega
  obtain ⟨i1, hi, hz0, hz1, hz2⟩ := info_parts Tryz.info52
  clear eX eW hGW hbX hm1 hwr hP HV2 HG2 HR2 HB hp0 hp1 hp2 hp3 hf0 hf1 hf2 hf3 hq0 hq1 hq2 hq3 hr0 hr1 hr2 hr3 E3 hts2 hdown
  obtain ⟨⟨p0, p1, p2, p3⟩, _⟩ := box4 HGD.out
  generalize Value.tuple #[Value.agg #[Value.slice A1 n1 c1, Value.slice A1' m1 c1', Value.bool dead1, Value.int IntKind.i64 left1], Value.bool true] = tu1
  generalize Value.agg #[Value.slice A1 n1 c1, Value.slice A1' m1 c1', Value.bool dead1, Value.int IntKind.i64 left1] = ag1
  generalize Value.agg #[Value.slice A n c, Value.slice A' m c', Value.bool dead, Value.int IntKind.i64 left] = ag2
  go_wp2_with fail
  go_loopw [10, 11] (fun u10 u11 wr => ∃ i : Nat, i ≤ m1 ∧ u11 = .int .i64 i ∧ (∀ q x, q < i → wet1[q]? = some x → x.1 < at_) ∧ wr.ownsRow X.heap.size 106 2 u10 i (wetCells (wet1.take i)) ∧ Below X.heap.size X wr) (fun _ u _ => m1 - (intOf u).toNat)
  case atStart => exact ⟨0, Nat.zero_le _, rfl, fun q x hq => absurd hq (by omega), World.ownsRow_nil _ _ _ _, Below.refl _ _⟩
  case round =>
    obtain ⟨i, hi', rfl, hlow, hown, hbr⟩ := hrel
    have HLOW := Lib.hid hlow
    have HOWN := Lib.hid hown
    have HBR := Lib.hid hbr
    clear hlow hown hbr p0 p1 p2 p3
    obtain ⟨⟨p0, p1, p2, p3⟩, _⟩ := box4 (box_kept _ HGD.out HBR.out)
    by_cases hgo : ∃ o, wet1[i]? = some o ∧ o.1 < at_
    · obtain ⟨⟨oa, od⟩, ho, hlt⟩ := hgo
      have hilt : i < m1 := by have := (List.getElem?_eq_some_iff.1 ho).1; have := HM.out; omega
      obtain ⟨b, off, rfl, hbl, hcell⟩ := HW.out.at_ (by omega)
      obtain ⟨hw0, hw1⟩ := wetCells_at wet1 i _ ho
      have hc0 := (HBR.out.cell (p := ⟨b, off + i * 2, none⟩) hbl).trans (hcell _ _ hw0)
      have hc1 := (HBR.out.cell (p := ⟨b, off + i * 2 + 1, none⟩) hbl).trans (hcell _ _ hw1)
      dsimp only at hlt hc0 hc1
      have hdl : decide (oa < at_) = true := decide_eq_true hlt
      have hi1 : (0 : Int) ≤ (i : Int) := by omega
      have hi2 : (i : Int) < (m1 : Int) := by omega
      have HO := Lib.hid ho
      clear hcell hw0 hw1 ho
      go_wp2_with (at_builtin; refine wpList_append_own_at _ (by rfl) (.tmp 63) (.tmp 69) 25 (by rfl) X.heap.size 106 i1 (.agg #[.int .i64 0, .string ⟨#[]⟩]) 2 24 Tryz.underlying25 hi hz0 hz1 hz2 (by rfl) (by omega) _ i (wetCells (wet1.take i)) (by rfl) (by exact HOWN.out.alloc _) ⟨wr.heap.size, 0, none⟩ 1 1 [.int .i64 oa, .string od] (by rfl) (by rfl) (by exact news2 rfl _ _ _) (by simp [Value.oneCell']) (Nat.le_trans (show i + 1 ≤ 1000000 by omega) (by decide)) (by omega) (by have := HBR.out.size; simp; omega) ?_; intro v' w' hown' hgrow' hnil' hat')
      refine ⟨⟨i + 1, by omega, by go_num, fun q x hq hx => ?_, ?_, (HBR.out.alloc HBR.out.size _).grown hgrow' (by have := HBR.out.size; simp; omega) (own_ge (HOWN.out.alloc (.cells #[.int .i64 oa, .string od] 106)))⟩, by simp [intOf]; omega⟩
      · by_cases e : q = i
        · subst e
          rw [HO.out] at hx
          injection hx with hx
          subst hx
          exact hlt
        · exact HLOW.out q x (by omega) hx
      · rw [List.take_add_one, HO.out]
        simpa [wetCells] using hown'
    · have hstop : ∀ x, wet1[i]? = some x → ¬ x.1 < at_ := fun x hx hl => hgo ⟨x, hx, hl⟩
      have htw := tw_take (p := (at_, P)) wet1 i HLOW.out hstop (by have := HM.out; omega)
      have HTW := Lib.hid htw
      have HST := Lib.hid hstop
      obtain ⟨A2, c2, ev, _⟩ := SL.of_own HOWN.out
      subst ev
      clear hgo hstop htw HLOW
      obtain ⟨⟨r0, r1⟩, _⟩ := box2 (box_kept _ HGW.out HBR.out)
      by_cases hilt : i < m1
      · obtain ⟨⟨oa, od⟩, ho⟩ : ∃ o, wet1[i]? = some o := ⟨_, List.getElem?_eq_getElem (by have := HM.out; omega)⟩
        have hge := HST.out _ ho
        obtain ⟨b, off, e0, hbl, hcell⟩ := HW.out.at_ (by omega)
        subst e0
        obtain ⟨hw0, hw1⟩ := wetCells_at wet1 i _ ho
        have hc0 := (HBR.out.cell (p := ⟨b, off + i * 2, none⟩) hbl).trans (hcell _ _ hw0)
        dsimp only at hge hc0
        have hdl : decide (oa < at_) = false := decide_eq_false hge
        have hi1 : (0 : Int) ≤ (i : Int) := by omega
        have hi2 : (i : Int) < (m1 : Int) := by omega
        clear hcell hw0 hw1 ho hge
        go_upto_region 12 with (fail)
        go_wp2_with (at_builtin; refine wpList_append_own_at _ (by rfl) (.tmp 73) (.tmp 75) 25 (by rfl) X.heap.size 106 i1 (.agg #[.int .i64 0, .string ⟨#[]⟩]) 2 24 Tryz.underlying25 hi hz0 hz1 hz2 (by rfl) (by omega) _ i (wetCells (wet1.take i)) (by rfl) (by exact HOWN.out.alloc _) ⟨wr.heap.size, 0, none⟩ 1 1 [.int .i64 at_, .string P] (by rfl) (by rfl) (by exact news2 rfl _ _ _) (by simp [Value.oneCell']) (Nat.le_trans (show i + 1 ≤ 1000000 by omega) (by decide)) (by omega) (by have := HBR.out.size; simp; omega) ?_; intro v3 w3 hown3 hgrow3 hnil3 hat3)
        have hbr3 : Below X.heap.size X w3 := (HBR.out.alloc HBR.out.size _).grown hgrow3 (by have := HBR.out.size; simp; omega) (own_ge (HOWN.out.alloc (.cells #[.int .i64 at_, .string P] 106)))
        have hown3' : w3.ownsRow X.heap.size 106 2 v3 (wet1.take i ++ [(at_, P)]).length (wetCells (wet1.take i ++ [(at_, P)])) := by
          have hl : (wet1.take i ++ [(at_, P)]).length = i + 1 := by
            have := HM.out
            simp
            omega
          rw [hl, wetCells_append, wetCells_one]; exact hown3
        have HB3 := Lib.hid hbr3
        have HO3 := Lib.hid hown3'
        clear hown3 hgrow3 hnil3 hat3 hbr3 hown3' p0 p1 p2 p3 r0 r1 HBR HOWN
        obtain ⟨⟨p0, p1, p2, p3⟩, _⟩ := box4 (box_kept _ HGD.out HB3.out)
        go_loopw [10, 13] (fun u10 u13 wr => ∃ (j : Nat) (acc : List Wt), i ≤ j ∧ j ≤ m1 ∧ u13 = .int .i64 j ∧ acc = wet1.take i ++ [(at_, P)] ++ ((wet1.drop i).take (j - i)).filter (fun o => decide (o.1 ≠ (at_, P).1)) ∧ acc.length ≤ j + 1 ∧ wr.ownsRow X.heap.size 106 2 u10 acc.length (wetCells acc) ∧ Below X.heap.size X wr) (fun _ u _ => m1 - (intOf u).toNat)
        case atStart => exact ⟨i, _, Nat.le_refl _, hi', rfl, by simp, by simp; omega, HO3.out, HB3.out⟩
        case round =>
          obtain ⟨j, acc, hij, hjm, rfl, hacc, hal, hown, hbr⟩ := hrel
          have HACC := Lib.hid hacc
          have HOWN := Lib.hid hown
          have HBR := Lib.hid hbr
          clear hacc hown hbr p0 p1 p2 p3 HB3 HO3
          obtain ⟨⟨p0, p1, p2, p3⟩, f0, f1, f2, f3⟩ := box4 (box_kept _ HGD.out HBR.out)
          by_cases hjlt : j < m1
          · obtain ⟨⟨oa, od⟩, ho⟩ : ∃ o, wet1[j]? = some o := ⟨_, List.getElem?_eq_getElem (by have := HM.out; omega)⟩
            obtain ⟨b2, off2, e2, hbl2, hcell2⟩ := HW.out.at_ (by omega)
            cases e2
            obtain ⟨hw0, hw1⟩ := wetCells_at wet1 j _ ho
            have hc0 := (HBR.out.cell (p := ⟨_, _ + j * 2, none⟩) hbl2).trans (hcell2 _ _ hw0)
            have hc1 := (HBR.out.cell (p := ⟨_, _ + j * 2 + 1, none⟩) hbl2).trans (hcell2 _ _ hw1)
            dsimp only at hc0 hc1
            have hj1 : (0 : Int) ≤ (j : Int) := by omega
            have hj2 : (j : Int) < (m1 : Int) := by omega
            have hnx := acc_next (p := (at_, P)) hij ho (wet1.take i ++ [(at_, P)])
            rw [← HACC.out] at hnx
            have HNX := Lib.hid hnx
            clear hcell2 hw0 hw1 ho hnx
            by_cases he : oa = at_
            · subst he
              go_wp2_with fail
              refine ⟨⟨j + 1, acc, by omega, by omega, by go_num, ?_, by omega, HOWN.out, HBR.out⟩, by simp [intOf]; omega⟩
              rw [HNX.out]; simp
            · have hf : (oa == at_) = false := by simpa using he
              go_wp2_with (at_builtin; refine wpList_append_own_at _ (by rfl) (.tmp 93) (.tmp 99) 25 (by rfl) X.heap.size 106 i1 (.agg #[.int .i64 0, .string ⟨#[]⟩]) 2 24 Tryz.underlying25 hi hz0 hz1 hz2 (by rfl) (by omega) _ acc.length (wetCells acc) (by rfl) (by exact HOWN.out.alloc _) ⟨wr.heap.size, 0, none⟩ 1 1 [.int .i64 oa, .string od] (by rfl) (by rfl) (by exact news2 rfl _ _ _) (by simp [Value.oneCell']) (Nat.le_trans (show acc.length + 1 ≤ 1000000 by omega) (by decide)) (by omega) (by have := HBR.out.size; simp; omega) ?_; intro v3 w3 hown3 hgrow3 hnil3 hat3)
              refine ⟨⟨j + 1, acc ++ [(oa, od)], by omega, by omega, by go_num, ?_, by simp; omega, ?_, (HBR.out.alloc HBR.out.size _).grown hgrow3 (by have := HBR.out.size; simp; omega) (own_ge (HOWN.out.alloc (.cells #[.int .i64 oa, .string od] 106)))⟩, by simp [intOf]; omega⟩
              · rw [HNX.out]; simp [he]
              · rw [List.length_append, List.length_singleton, wetCells_append, wetCells_one]; exact hown3
          · have hjl : decide ((j : Int) < (m1 : Int)) = false := by simp; omega
            have hjl2 : ¬ ((j : Int) < (m1 : Int)) := by omega
            obtain ⟨A5, c5, ev, _⟩ := SL.of_own HOWN.out
            subst ev
            have hfin : acc = withF (at_, padB data) wet1 := by
              have e5 : (wet1.drop i).take (j - i) = wet1.drop i := List.take_of_length_le (by have := HM.out; simp; omega)
              rw [← HP.out, with_ins HRISE.out, HTW.out.1, HTW.out.2, HACC.out, e5]
            have HFIN := Lib.hid hfin
            have hg0 := box_kept _ HGR.out HBR.out
            obtain ⟨⟨r0, r1, r2, r3⟩, s0, s1, s2, s3⟩ := box4 hg0
            have HGR2 := Lib.hid hg0
            have HGD2 := Lib.hid (box_kept _ HGD.out HBR.out)
            have HD2 := Lib.hid ((HVX.out.below HBR.out).rewet (SL.of_own HOWN.out))
            have HBW := Lib.hid (below_trans' HBX.out HBR.out)
            clear hfin hg0
            go_wp2_with fail
            refine bodyPost_ret (v := .tuple #[.agg #[.slice A1 n1 c1, .slice A5 acc.length c5, .bool dead1, .int .i64 left1], .int .i64 0]) (by simp [results, Tryz.results31, go_sem, r0, r1, r2, r3]) rfl ⟨_, rfl, ?_, ?_⟩
            · have h1' := HD2.out.other (w' := wr.setCell ⟨w.heap.size, 1, none⟩ (.slice A5 acc.length c5)) HGD2.out (by decide) (by decide) (fun b hb => Below.heap_setCell _ _ _ _ hb)
              have h2' := h1'.other (by rw [Below.heap_setCell _ _ _ _ (by simp)]; exact HGR2.out) (by decide) (by decide) (store4_other _ (w.heap.size + 1) (.slice A1 n1 c1) (.slice A5 acc.length c5) (.bool dead1) (.int .i64 left1))
              try dsimp only at h2' ⊢
              rw [← HFIN.out]
              exact h2'
            · exact below_store4 (HBW.out.setCell (p := ⟨w.heap.size, 1, none⟩) (Nat.le_refl _) _) _ (by omega) _ _ _ _
      · have hnl : decide ((i : Int) < (m1 : Int)) = false := by simp; omega
        have hnl2 : ¬ ((i : Int) < (m1 : Int)) := by omega
        go_upto_region 12 with (fail)
        go_wp2_with (at_builtin; refine wpList_append_own_at _ (by rfl) (.tmp 73) (.tmp 75) 25 (by rfl) X.heap.size 106 i1 (.agg #[.int .i64 0, .string ⟨#[]⟩]) 2 24 Tryz.underlying25 hi hz0 hz1 hz2 (by rfl) (by omega) _ i (wetCells (wet1.take i)) (by rfl) (by exact HOWN.out.alloc _) ⟨wr.heap.size, 0, none⟩ 1 1 [.int .i64 at_, .string P] (by rfl) (by rfl) (by exact news2 rfl _ _ _) (by simp [Value.oneCell']) (Nat.le_trans (show i + 1 ≤ 1000000 by omega) (by decide)) (by omega) (by have := HBR.out.size; simp; omega) ?_; intro v3 w3 hown3 hgrow3 hnil3 hat3)
        have hbr3 : Below X.heap.size X w3 := (HBR.out.alloc HBR.out.size _).grown hgrow3 (by have := HBR.out.size; simp; omega) (own_ge (HOWN.out.alloc (.cells #[.int .i64 at_, .string P] 106)))
        have hown3' : w3.ownsRow X.heap.size 106 2 v3 (wet1.take i ++ [(at_, P)]).length (wetCells (wet1.take i ++ [(at_, P)])) := by
          have hl : (wet1.take i ++ [(at_, P)]).length = i + 1 := by
            have := HM.out
            simp
            omega
          rw [hl, wetCells_append, wetCells_one]; exact hown3
        have HB3 := Lib.hid hbr3
        have HO3 := Lib.hid hown3'
        clear hown3 hgrow3 hnil3 hat3 hbr3 hown3' p0 p1 p2 p3 r0 r1 HBR HOWN
        obtain ⟨⟨p0, p1, p2, p3⟩, _⟩ := box4 (box_kept _ HGD.out HB3.out)
        go_loopw [10, 13] (fun u10 u13 wr => ∃ (j : Nat) (acc : List Wt), i ≤ j ∧ j ≤ m1 ∧ u13 = .int .i64 j ∧ acc = wet1.take i ++ [(at_, P)] ++ ((wet1.drop i).take (j - i)).filter (fun o => decide (o.1 ≠ (at_, P).1)) ∧ acc.length ≤ j + 1 ∧ wr.ownsRow X.heap.size 106 2 u10 acc.length (wetCells acc) ∧ Below X.heap.size X wr) (fun _ u _ => m1 - (intOf u).toNat)
        case atStart => exact ⟨i, _, Nat.le_refl _, hi', rfl, by simp, by simp; omega, HO3.out, HB3.out⟩
        case round =>
          obtain ⟨j, acc, hij, hjm, rfl, hacc, hal, hown, hbr⟩ := hrel
          have HACC := Lib.hid hacc
          have HOWN := Lib.hid hown
          have HBR := Lib.hid hbr
          clear hacc hown hbr p0 p1 p2 p3 HB3 HO3
          obtain ⟨⟨p0, p1, p2, p3⟩, f0, f1, f2, f3⟩ := box4 (box_kept _ HGD.out HBR.out)
          by_cases hjlt : j < m1
          · exact absurd hjlt (by omega)
          · have hjl : decide ((j : Int) < (m1 : Int)) = false := by simp; omega
            have hjl2 : ¬ ((j : Int) < (m1 : Int)) := by omega
            obtain ⟨A5, c5, ev, _⟩ := SL.of_own HOWN.out
            subst ev
            have hfin : acc = withF (at_, padB data) wet1 := by
              have e5 : (wet1.drop i).take (j - i) = wet1.drop i := List.take_of_length_le (by have := HM.out; simp; omega)
              rw [← HP.out, with_ins HRISE.out, HTW.out.1, HTW.out.2, HACC.out, e5]
            have HFIN := Lib.hid hfin
            have hg0 := box_kept _ HGR.out HBR.out
            obtain ⟨⟨r0, r1, r2, r3⟩, s0, s1, s2, s3⟩ := box4 hg0
            have HGR2 := Lib.hid hg0
            have HGD2 := Lib.hid (box_kept _ HGD.out HBR.out)
            have HD2 := Lib.hid ((HVX.out.below HBR.out).rewet (SL.of_own HOWN.out))
            have HBW := Lib.hid (below_trans' HBX.out HBR.out)
            clear hfin hg0
            go_wp2_with fail
            refine bodyPost_ret (v := .tuple #[.agg #[.slice A1 n1 c1, .slice A5 acc.length c5, .bool dead1, .int .i64 left1], .int .i64 0]) (by simp [results, Tryz.results31, go_sem, r0, r1, r2, r3]) rfl ⟨_, rfl, ?_, ?_⟩
            · have h1' := HD2.out.other (w' := wr.setCell ⟨w.heap.size, 1, none⟩ (.slice A5 acc.length c5)) HGD2.out (by decide) (by decide) (fun b hb => Below.heap_setCell _ _ _ _ hb)
              have h2' := h1'.other (by rw [Below.heap_setCell _ _ _ _ (by simp)]; exact HGR2.out) (by decide) (by decide) (store4_other _ (w.heap.size + 1) (.slice A1 n1 c1) (.slice A5 acc.length c5) (.bool dead1) (.int .i64 left1))
              try dsimp only at h2' ⊢
              rw [← HFIN.out]
              exact h2'
            · exact below_store4 (HBW.out.setCell (p := ⟨w.heap.size, 1, none⟩) (Nat.le_refl _) _) _ (by omega) _ _ _ _

end Go.Proofs.YtgeiemccjionpaaGreat.Dsk

/- DRNew -/
namespace Go.Proofs.YtgeiemccjionpaaGreat.Dsk
open Go.RowKit
attribute [local go_sem ↓] Go.wp_at_zero Go.wp_at_succ

set_option maxRecDepth 100000 in
set_option maxHeartbeats 1000000 in
theorem rnew_bad_lo (n : Int) (h1 : n < 1) (w : World) :
    Calls Tryz.prog 29 #[.int .i64 n] w fun e w' => e = .returned (.tuple #[.agg #[.slice none 0 0, .slice none 0 0, .bool false, .int .i64 0], .int .i64 1]) ∧ Below w.heap.size w w' := by
  have hd1 : decide (n < 1) = true := by simpa using h1
  go_enter Tryz.func29, Tryz.ntmps29
  go_wp2
  exact bodyPost_ret (v := .tuple #[.agg #[.slice none 0 0, .slice none 0 0, .bool false, .int .i64 0], .int .i64 1]) (by simp [results, Tryz.results29, go_sem]) rfl ⟨rfl, (Below.refl _ _).alloc (Nat.le_refl _) _⟩

set_option maxRecDepth 100000 in
set_option maxHeartbeats 1000000 in
theorem rnew_bad_hi (n : Int) (h1 : 2000 < n) (w : World) :
    Calls Tryz.prog 29 #[.int .i64 n] w fun e w' => e = .returned (.tuple #[.agg #[.slice none 0 0, .slice none 0 0, .bool false, .int .i64 0], .int .i64 1]) ∧ Below w.heap.size w w' := by
  have hd1 : decide (n < 1) = false := by simp; omega
  have hd2 : decide (2000 < n) = true := by simpa using h1
  go_enter Tryz.func29, Tryz.ntmps29
  go_wp2
  exact bodyPost_ret (v := .tuple #[.agg #[.slice none 0 0, .slice none 0 0, .bool false, .int .i64 0], .int .i64 1]) (by simp [results, Tryz.results29, go_sem]) rfl ⟨rfl, (Below.refl _ _).alloc (Nat.le_refl _) _⟩

theorem kept_own {W w' : World} {base : Nat} {e : TypeId} {size n : Nat} {v : Value} {xs : List Value} (hg : W.grownBy w' v.ownBlock) (hown : W.ownsRow base e size v n xs) {k : Nat} (hk : k < base) (hk2 : k < W.heap.size) : w'.heap[k]? = W.heap[k]? :=
  hg.block k hk2 fun e => by have := own_ge hown k e.symm; omega

set_option maxRecDepth 100000 in
set_option maxHeartbeats 2000000 in
theorem rnew_calls (n : Nat) (h1 : 1 ≤ n) (h2 : n ≤ 2000) (w : World) :
    Calls Tryz.prog 29 #[.int .i64 n] w fun e w' => ∃ v, e = .returned (.tuple #[v, .int .i64 0]) ∧ IsDisk w' v (newD n) ∧ Below w.heap.size w w' := by
  have hd1 : decide ((n : Int) < 1) = false := by simp; omega
  have hd2 : decide ((2000 : Int) < n) = false := by simp; omega
  go_enter Tryz.func29, Tryz.ntmps29
  obtain ⟨P, hP⟩ : ∃ P : ByteArray, P = ⟨(List.replicate 256 (0 : UInt8)).toArray⟩ := ⟨_, rfl⟩
  obtain ⟨i0, hi, hz0, hz1, hz2⟩ := info_parts Tryz.info5
  have hmk : ∀ W : World, (Instr.makeSlice 70 (.int .i64 256) (.int .i64 256)).run Tryz.prog W = .ok (.slice (some ⟨W.heap.size, 0, none⟩) 256 256) (W.alloc (.cells (madeCells #[.int .u8 0] 256) 5)) := by
    intro W
    have := run_make (P := Tryz.prog) W 70 5 i0 (.int .u8 0) Tryz.underlying70 hi hz0 .i64 .i64 256 256 (by omega) (by omega) (by rw [hz2]; omega) (by omega)
    rw [this, hz1]
    rfl
  have hcv : ∀ W : World, (convert 70 9 (.slice (some ⟨W.heap.size, 0, none⟩) 256 256)).run Tryz.prog (W.alloc (.cells (madeCells #[.int .u8 0] 256) 5)) = .ok (.string P) (W.alloc (.cells (madeCells #[.int .u8 0] 256) 5)) := by
    intro W
    have h0 := run_convert_bytes_back (P := Tryz.prog) (W.alloc (.cells (madeCells #[.int .u8 0] 256) 5)) 70 9 5 ⟨W.heap.size, 0, none⟩ 256 (List.replicate 256 0) Tryz.underlying70 Tryz.underlying5 Tryz.underlying9 ?_
    · rw [hP]; rw [List.length_replicate] at h0; exact h0
    · intro j hj
      have hj' : j < 256 := by simpa using hj
      rw [Addr.add_lit, cell_of_row _ _ _ _ _ _ (heap_alloc_new W _), List.getElem_replicate]
      simp [madeCells, hj', Nat.mod_one]
  have hcv2 : ∀ W : World, (convert 70 9 (.slice (some ⟨W.heap.size, 0, none⟩) 256 256)).run Tryz.prog (W.alloc (.cells (madeCells #[.int .u8 0] 256) 5)).drew = .ok (.string P) (W.alloc (.cells (madeCells #[.int .u8 0] 256) 5)).drew := fun W => hcv W.drew
  have hPP : P = padB ⟨#[]⟩ := by rw [hP]; rfl
  have HP := Lib.hid hPP
  obtain ⟨i1, hj, hy0, hy1, hy2⟩ := info_parts Tryz.info9
  clear hP hPP hi hz0 hz1 hz2
  go_wp2
  go_loopw [5] (fun u wr => ∃ (i : Nat) (A : Option Addr) (c : Nat), i ≤ n ∧ u = .int .i64 i ∧ wr.ownsRow (w.heap.size + 2) 9 1 (.slice A i c) i (List.replicate i (.string P)) ∧
    wr.heap[w.heap.size + 1]? = some (.cells #[.slice A i c, .slice none 0 0, .bool false, .int .i64 (-1)] 27 (0, 0)) ∧ wr.heap[w.heap.size]? = some (.cells #[.slice none 0 0, .slice none 0 0, .bool false, .int .i64 0] 27 (0, 0)) ∧ Below w.heap.size w wr) (fun u _ => n - (intOf u).toNat)
  case atStart =>
    refine ⟨0, none, 0, Nat.zero_le _, rfl, World.ownsRow_nil _ _ _ _, ?_, ?_, ((Below.refl _ _).alloc (Nat.le_refl _) _).alloc (by simp) _⟩
    · have := heap_alloc_new (w.alloc (.cells #[.slice none 0 0, .slice none 0 0, .bool false, .int .i64 0] 27)) (.cells #[.slice none 0 0, .slice none 0 0, .bool false, .int .i64 (-1)] 27)
      simpa using this
    · exact box_alloc (heap_alloc_new w _) _
  case round =>
    obtain ⟨i, A, c, hin, rfl, hown, hg4, hg2, hB⟩ := hrel
    have hlt4 : w.heap.size + 1 < wr.heap.size := (Array.getElem?_eq_some_iff.1 hg4).1
    have HOWN := Lib.hid hown
    have HG4 := Lib.hid hg4
    have HG2 := Lib.hid hg2
    have HB := Lib.hid hB
    clear hown hg4 hg2 hB
    obtain ⟨⟨p0, p1, p2, p3⟩, f0, f1, f2, f3⟩ := box4 HG4.out
    have HNEWS : Hid (∀ (j : Nat) (u : Value), [Value.string P][j]? = some u → ((wr.alloc (.cells (madeCells #[.int .u8 0] 256) 5)).alloc (.cells #[.string P] 9)).drew.cell? ((⟨wr.heap.size + 1, 0, none⟩ : Addr).add j) = some u) := by
      intro j u hu
      obtain rfl : j = 0 := by
        have := (List.getElem?_eq_some_iff.1 hu).1
        simpa using this
      simp at hu
      subst hu
      rw [Addr.add_lit]
      simp
    have HOX : Hid (((wr.alloc (.cells (madeCells #[.int .u8 0] 256) 5)).alloc (.cells #[.string P] 9)).drew.ownsRow (w.heap.size + 2) 9 1 (.slice A i c) i (List.replicate i (.string P))) := (HOWN.out.alloc _).alloc _
    have HGX : Hid (((wr.alloc (.cells (madeCells #[.int .u8 0] 256) 5)).alloc (.cells #[.string P] 9)).drew.heap[w.heap.size + 1]? = some (.cells #[.slice A i c, .slice none 0 0, .bool false, .int .i64 (-1)] 27 (0, 0))) := box_alloc (box_alloc HG4.out _) _
    have HGY : Hid (((wr.alloc (.cells (madeCells #[.int .u8 0] 256) 5)).alloc (.cells #[.string P] 9)).drew.heap[w.heap.size]? = some (.cells #[.slice none 0 0, .slice none 0 0, .bool false, .int .i64 0] 27 (0, 0))) := box_alloc (box_alloc HG2.out _) _
    have HBX : Hid (Below w.heap.size w ((wr.alloc (.cells (madeCells #[.int .u8 0] 256) 5)).alloc (.cells #[.string P] 9)).drew) := ((HB.out.alloc (by omega) _).alloc (by simp; omega) _).drew
    by_cases hlt : i < n
    · have p0a : (wr.alloc (.cells (madeCells #[.int .u8 0] 256) 5)).cell? ⟨w.heap.size + 1, 0, none⟩ = some (.slice A i c) := (box4 (box_alloc HG4.out _)).1.1
      have p0b : ((wr.alloc (.cells (madeCells #[.int .u8 0] 256) 5)).alloc (.cells #[.string P] 9)).cell? ⟨w.heap.size + 1, 0, none⟩ = some (.slice A i c) := (box4 (box_alloc (box_alloc HG4.out _) _)).1.1
      go_wp2
      go_region_law (refine step_append_lies _ (by rfl) (.tmp 20) (.tmp 23) 24 (by rfl) (w.heap.size + 2) 9 i1 (.string ⟨#[]⟩) 1 16 Tryz.underlying24 hj hy0 hy1 hy2 (by rfl) (by omega) (.slice A i c) i (List.replicate i (.string P)) (by simp [Act.eval]) (by exact (HOWN.out.alloc _).alloc _) ⟨wr.heap.size + 1, 0, none⟩ 1 1 [.string P] (by simp [Act.eval]) (by rfl) (by exact HNEWS.out) (by simp [Value.oneCell']) (by omega) (Nat.le_trans (show i + 1 ≤ 1000000 by omega) (by decide)) (by omega) (by simp; omega) _ rfl ?_; intro g cap w' hown' hgrow' hat' hlt'; have q4 := (kept_own hgrow' HOX.out (k := w.heap.size + 1) (by omega) (by simp; omega)).trans HGX.out; have q2 := (kept_own hgrow' HOX.out (k := w.heap.size) (by omega) (by simp; omega)).trans HGY.out; obtain ⟨⟨r0, r1, r2, r3⟩, t0, t1, t2, t3⟩ := box4 q4; have HQ4 := Lib.hid q4; have HQ2 := Lib.hid q2; clear q4 q2)
      all_goals
        have x4 : (w'.setCell ⟨w.heap.size + 1, 0, none⟩ (.slice (some ⟨g, 0, none⟩) (i + 1) cap)).heap[w.heap.size + 1]? = some (.cells #[.slice (some ⟨g, 0, none⟩) (i + 1) cap, .slice none 0 0, .bool false, .int .i64 (-1)] 27 (0, 0)) := heap_setCell_same w' _ 0 _ 27 _ HQ4.out
        have x2 : (w'.setCell ⟨w.heap.size + 1, 0, none⟩ (.slice (some ⟨g, 0, none⟩) (i + 1) cap)).heap[w.heap.size]? = some (.cells #[.slice none 0 0, .slice none 0 0, .bool false, .int .i64 0] 27 (0, 0)) := (Below.heap_setCell _ _ _ _ (by simp)).trans HQ2.out
        have xo := ownsRow_setCell_below hown' (a := ⟨w.heap.size + 1, 0, none⟩) (by simp) (.slice (some ⟨g, 0, none⟩) (i + 1) cap)
        rw [show List.replicate i (Value.string P) ++ [Value.string P] = List.replicate (i + 1) (Value.string P) from (List.replicate_succ' ..).symm] at xo
        have xb := (HBX.out.grown hgrow' (by simp; omega) (fun k e => by have := own_ge HOX.out k e; omega)).setCell (p := ⟨w.heap.size + 1, 0, none⟩) (by simp) (.slice (some ⟨g, 0, none⟩) (i + 1) cap)
        have X4 := Lib.hid x4
        have X2 := Lib.hid x2
        have XO := Lib.hid xo
        have XB := Lib.hid xb
        clear x4 x2 xo xb hown' hgrow' hat' hlt' r0 r1 r2 r3 t0 t1 t2 t3 p0a p0b p0 p1 p2 p3 f0 f1 f2 f3 HBX HOX HGX HGY HQ4 HQ2 HNEWS
        generalize (w'.setCell ⟨w.heap.size + 1, 0, none⟩ (.slice (some ⟨g, 0, none⟩) (i + 1) cap)) = wn at *
        go_wp2
        go_roundw
        case rel => exact ⟨i + 1, _, cap, by omega, by go_num, XO.out, X4.out, X2.out, XB.out⟩
        case measure => simp [intOf]; omega
    · obtain rfl : i = n := by omega
      obtain ⟨⟨q0, q1, q2, q3⟩, e0, e1, e2, e3⟩ := box4 HG2.out
      clear HNEWS HOX HGX HGY HBX
      go_wp2
      refine bodyPost_ret (v := .tuple #[.agg #[.slice A i c, .slice none 0 0, .bool false, .int .i64 (-1)], .int .i64 0]) (by simp [results, Tryz.results29, go_sem, q0, q1, q2, q3]) rfl ⟨_, rfl, ⟨_, _, rfl, ?_, SL.nil _ _ _⟩, ?_⟩
      · have h := (SL.of_own HOWN.out).other HG2.out (by decide) (store4_other wr w.heap.size (.slice A i c) (.slice none 0 0) (.bool false) (.int .i64 (-1)))
        simpa [newD, HP.out] using h
      · exact below_store4 HB.out _ (Nat.le_refl _) _ _ _ _
end Go.Proofs.YtgeiemccjionpaaGreat.Dsk
