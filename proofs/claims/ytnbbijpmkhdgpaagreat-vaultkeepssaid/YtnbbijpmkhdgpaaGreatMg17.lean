/- Contracts and plain mathematics that the statement's proof wants: no statement is proved here, nothing is assumed. -/
import Derived.RangeFuncNested
import Derived.RangeFuncBound
import Derived.RangeFuncCalls
import Derived.RangeFuncLeaves
import Derived.RangeFuncBox
import Derived.Shelf.Abstract
import Derived.Shelf.RegionOpen
import Derived.OwnWalkIn
import Derived.TacticsInMore
import Derived.LoopNIn
import Derived.LoopIn
import Derived.Test.YtnbbijpmkhdgpaaGreatMg07
import Derived.Test.YtnbbijpmkhdgpaaGreatMg13
import Derived.Test.YtnbbijpmkhdgpaaGreatMg16
/- DBack -/
namespace Go.Proofs.YtnbbijpmkhdgpaaGreat.Dsk
open Go.RowKit Go.Shelf
attribute [local go_sem] Oper.semAt_some

/-- What comes: the place, and what stands there. -/
abbrev Pw := Nat × Wt
def encP (x : Pw) : Array Value := #[.int .i64 (x.1 : Int), .agg #[.int .i64 x.2.1, .string x.2.2]]
/-- What has come behind k rounds. -/
def upW (wet : List Wt) (k : Nat) : List Pw := (List.range k).map fun j => (wet.length - 1 - j, wet.getD (wet.length - 1 - j) (0, ByteArray.empty))
theorem upW_succ (wet : List Wt) (k : Nat) : upW wet (k + 1) = upW wet k ++ [(wet.length - 1 - k, wet.getD (wet.length - 1 - k) (0, ByteArray.empty))] := by simp [upW, List.range_succ]
theorem upW_length (wet : List Wt) (k : Nat) : (upW wet k).length = k := by simp [upW]

set_option maxRecDepth 100000 in
set_option maxHeartbeats 2000000 in
theorem back1_in (F : Fence) (n : Nat) (h38 : F.fn 106) (hro : F.round = none) (hn : 1 ≤ n) (l Bs n₀ : Nat) (A : Option Addr) (m cap : Nat) (wet : List Wt) (hm : m = wet.length) (hm2 : m ≤ 1000000) (hBs0 : Bs < n₀) (hA : 0 < m → ∃ b off, A = some ⟨b, off, none⟩ ∧ b < n₀)
    (J Jx : List Pw → World → Prop)
    (hY : ∀ pre x W, J pre W → pre.length < m → YieldAt F (n - 1) Tryz.prog l (encP x) W fun e W' =>
      (e = .returned (.bool true) ∧ J (pre ++ [x]) W' ∧ Below n₀ W W') ∨ (e = .returned (.bool false) ∧ Jx (pre ++ [x]) W'))
    (W : World) (hBs : W.cell? ⟨Bs, 0, none⟩ = some (.slice A m cap)) (hR : Reads W 72 2 A m (wetCells wet)) (h0 : J [] W) :
    CallsIn F n Tryz.prog 106 #[.func (.yield l) #[] #[], .pointer (some ⟨Bs, 0, none⟩)] W fun e W' => (∃ v, e = .returned v) ∧
      ((∃ ys, ys = upW wet m ∧ J ys W') ∨ (∃ pre, (∃ k, k ≤ m ∧ pre = upW wet k) ∧ Jx pre W')) := by
  have HR := Lib.hid hR
  have HM := Lib.hid hm
  have HA := Lib.hid hA
  have HY := Lib.hid hY
  clear hR hm hA hY
  refine callsIn_of_wp Tryz.func106 rfl h38 ?_ hro
  simp only [Tryz.ntmps106, List.size_toArray, List.length_cons, List.length_nil, Nat.reduceAdd, Nat.reduceSub, Array.replicate_succ, Array.replicate_zero, List.push_toArray, List.append_toArray, List.nil_append, List.cons_append]
  gi_wp2
  gi_loopw [3] (fun i wr => ∃ p : Nat, p ≤ m ∧ i = .int .i64 ((p : Int) - 1) ∧ J (upW wet (m - p)) wr ∧ Below n₀ W wr)
    (fun i _ => (intOf i + 1).toNat)
  case atStart => exact ⟨m, Nat.le_refl _, rfl, by rw [Nat.sub_self]; exact h0, Below.refl _ _⟩
  case round =>
    obtain ⟨p, hp, rfl, hJs, hnx⟩ := hrel
    cases p with
    | zero =>
      rw [show ((0 : Nat) : Int) - 1 = -1 from rfl]
      gi_wp2
      go_end0
      exact ⟨⟨_, rfl⟩, .inl ⟨_, rfl, hJs⟩⟩
    | succ q =>
      rw [show ((q + 1 : Nat) : Int) - 1 = (q : Int) by omega]
      have hqm : q < m := by omega
      obtain ⟨o, ho⟩ : ∃ o, wet[q]? = some o := ⟨_, List.getElem?_eq_getElem (by have := HM.out; omega)⟩
      obtain ⟨b, off, rfl, hbl, hcell⟩ := HR.out.at_ (by omega)
      obtain ⟨b', off', e', hb0⟩ := HA.out (by omega)
      cases e'
      have hw := wetCells_at wet q o ho
      have hgd : wet.getD (wet.length - 1 - (m - (q + 1))) (0, ByteArray.empty) = o := by
        have e : wet.length - 1 - (m - (q + 1)) = q := by have := HM.out; omega
        rw [e, List.getD, ho]; rfl
      have hup : upW wet (m - q) = upW wet (m - (q + 1)) ++ [(q, o)] := by
        have e : m - q = m - (q + 1) + 1 := by omega
        rw [e, upW_succ, hgd]
        have e2 : wet.length - 1 - (m - (q + 1)) = q := by have := HM.out; omega
        rw [e2]
      obtain ⟨oa, od⟩ := o
      have hc0 : wr.cell? ⟨b, off + q * 2, none⟩ = some (.int .i64 oa) := (hnx.cell (p := ⟨b, off + q * 2, none⟩) hb0).trans (hcell _ _ hw.1)
      have hc1 : wr.cell? ⟨b, off + q * 2 + 1, none⟩ = some (.string od) := (hnx.cell (p := ⟨b, off + q * 2 + 1, none⟩) hb0).trans (hcell _ _ hw.2)
      have hcs : wr.cell? ⟨Bs, 0, none⟩ = some (.slice (some ⟨b, off, none⟩) m cap) := (hnx.cell (p := ⟨Bs, 0, none⟩) hBs0).trans hBs
      obtain ⟨fn, tmps, assign, body, hy, hR⟩ := HY.out _ (q, (oa, od)) wr hJs (by rw [upW_length]; omega)
      dsimp only [encP] at hy
      have HU := Lib.hid hup
      have HRR := Lib.hid hR
      clear hcell hw ho hgd hup hR
      gi_wp2
      refine HRR.out.mono ?_
      rintro e W3 (⟨rfl, hJ3, hk3⟩ | ⟨rfl, hJx3⟩)
      · gi_wp2
        go_roundw
        case rel => exact ⟨q, by omega, rfl, by rw [HU.out]; exact hJ3, hnx.trans hk3⟩
        case measure => simp [intOf]
      · gi_wp2
        refine bodyPost_ret (results_none rfl _ _ _) rfl ?_
        exact ⟨⟨_, rfl⟩, .inr ⟨_, ⟨m - q, by omega, rfl⟩, by rw [HU.out]; exact hJx3⟩⟩

set_option maxRecDepth 100000 in
set_option maxHeartbeats 1000000 in
/-- slices.Backward: the slice is boxed; the function value has the box. -/
theorem back_in (F : Fence) (n : Nat) (h34 : F.fn 79) (hro : F.round = none) (a : Option Addr) (len cap : Nat) (w : World) :
    CallsIn F n Tryz.prog 79 #[.slice a len cap] w fun e w' => e = .returned (.func (.func 106) #[] #[.pointer (some ⟨w.heap.size, 0, none⟩)]) ∧ w' = w.alloc (.cells #[.slice a len cap] 26) := by
  refine callsIn_of_wp Tryz.func79 rfl h34 ?_ hro
  simp only [Tryz.ntmps79, List.size_toArray, List.length_cons, List.length_nil, Nat.reduceAdd, Nat.reduceSub, Array.replicate_succ, Array.replicate_zero, List.push_toArray, List.append_toArray, List.nil_append, List.cons_append]
  gi_wp2
  go_ret
  exact ⟨rfl, rfl⟩

/-- It hands on all, the last one first; or the first k of these. -/
theorem back_stops (F : Fence) (n : Nat) (h38 : F.fn 106) (hro : F.round = none) (hn : 1 ≤ n) (Bs n₀ : Nat) (A : Option Addr) (m cap : Nat) (wet : List Wt) (hm : m = wet.length) (hm2 : m ≤ 1000000) (w : World) (hBs0 : Bs < n₀) (hn₀ : n₀ ≤ w.heap.size)
    (hA : 0 < m → ∃ b off, A = some ⟨b, off, none⟩ ∧ b < n₀) (hc : w.cell? ⟨Bs, 0, none⟩ = some (.slice A m cap)) (hR : Reads w 72 2 A m (wetCells wet)) :
    SeqStopsK F n Tryz.prog 106 #[.pointer (some ⟨Bs, 0, none⟩)] encP (Below n₀) (fun ys => ys = upW wet m) (fun pre => ∃ k, k ≤ m ∧ pre = upW wet k) m w := fun l J Jx W hW _ _ hY h0 =>
  back1_in F n h38 hro hn l Bs n₀ A m cap wet hm hm2 hBs0 hA J Jx hY W ((hW.cell (p := ⟨Bs, 0, none⟩) (by show Bs < w.heap.size; omega)).trans hc) (hR.keep fun b _ _ hh => (hW.block b (Array.getElem?_eq_some_iff.1 hh).1).trans hh) h0
end Go.Proofs.YtnbbijpmkhdgpaaGreat.Dsk

/- DRead -/
namespace Go.Proofs.YtnbbijpmkhdgpaaGreat.Dsk
open Go.RowKit Go.Shelf
attribute [local go_sem] Oper.semAt_some

/-- Four boxes laid ahead of a call are there behind it. -/
theorem four_boxes {w w1 : World} {o1 o2 o3 o4 : Obj} (hb : Below ((((w.alloc o1).alloc o2).alloc o3).alloc o4).heap.size ((((w.alloc o1).alloc o2).alloc o3).alloc o4) w1) :
    w1.heap[w.heap.size]? = some o1 ∧ w1.heap[w.heap.size + 1]? = some o2 ∧ w1.heap[w.heap.size + 1 + 1]? = some o3 ∧ w1.heap[w.heap.size + 1 + 1 + 1]? = some o4 ∧ Below w.heap.size w w1 := by
  have n2 := heap_alloc_new (w.alloc o1) o2
  have n3 := heap_alloc_new ((w.alloc o1).alloc o2) o3
  have n4 := heap_alloc_new (((w.alloc o1).alloc o2).alloc o3) o4
  simp only [World.size_alloc] at n2 n3 n4
  refine ⟨box_kept _ (box_alloc (box_alloc (box_alloc (heap_alloc_new w o1) o2) o3) o4) hb, box_kept _ (box_alloc (box_alloc n2 o3) o4) hb, box_kept _ (box_alloc n3 o4) hb, box_kept _ n4 hb, ?_⟩
  exact below_trans' (((((Below.refl _ _).alloc (Nat.le_refl _) _).alloc (by simp) _).alloc (by simp; omega) _).alloc (by simp; omega) _) hb

set_option maxRecDepth 100000 in
set_option maxHeartbeats 1000000 in
/-- There is no such sector. -/
theorem read_arg (v : Value) (d : DK) (at_ : Int) (w : World) (hv : IsDisk w v d) (hbad : ¬ (0 ≤ at_ ∧ at_ < d.sure.length)) :
    Calls Tryz.prog 44 #[v, .int .i64 at_] w fun e w' => e = .returned (.tuple #[.string ⟨#[]⟩, .int .i64 1]) ∧ Below w.heap.size w w' := by
  obtain ⟨sure, wet, dead, left⟩ := d
  obtain ⟨A, n, c, A', m, c', rfl, hn, hm, -⟩ := hv.open_
  dsimp only at *
  rw [← hn] at hbad
  have hh : (decide (0 ≤ at_) && decide (at_ < (n : Int))) = false := by
    rw [Bool.eq_false_iff]; intro h; simp at h; exact hbad h
  have HH := Lib.hid hh
  clear hv hn hm hbad hh
  go_enter Tryz.func44, Tryz.ntmps44
  go_wp2_with fail
  refine (has_any A n c A' m c' dead left at_ _).mono ?_
  rintro e w1 ⟨rfl, hb1⟩
  rw [HH.out]
  obtain ⟨g1, g2, g3, g4, hbw⟩ := four_boxes hb1
  have c3 := Boxed.cell g3
  have c4 := Boxed.cell g4
  have f3 := Boxed.frozen g3
  have f4 := Boxed.frozen g4
  have HB := Lib.hid hbw
  clear hb1 g1 g2 g3 g4 hbw
  go_wp2_with fail
  refine bodyPost_ret (v := .tuple #[.string ⟨#[]⟩, .int .i64 1]) (by simp [results, Tryz.results44, go_sem, c3, c4]) rfl ⟨rfl, ?_⟩
  exact (HB.out.setCell (p := ⟨w.heap.size + 1 + 1, 0, none⟩) (by simp; omega) _).setCell (p := ⟨w.heap.size + 1 + 1 + 1, 0, none⟩) (by simp; omega) _

set_option maxRecDepth 100000 in
set_option maxHeartbeats 1000000 in
/-- The power is gone. -/
theorem read_down (v : Value) (d : DK) (at_ : Int) (w : World) (hv : IsDisk w v d) (h1 : 0 ≤ at_) (h2 : at_ < d.sure.length) (hd : d.dead = true) :
    Calls Tryz.prog 44 #[v, .int .i64 at_] w fun e w' => e = .returned (.tuple #[.string ⟨#[]⟩, .int .i64 12]) ∧ Below w.heap.size w w' := by
  obtain ⟨sure, wet, dead, left⟩ := d
  dsimp only at hd
  subst hd
  obtain ⟨A, n, c, A', m, c', rfl, hn, hm, -⟩ := hv.open_
  dsimp only at *
  rw [← hn] at h2
  have hh : (decide (0 ≤ at_) && decide (at_ < (n : Int))) = true := by simp [h1, h2]
  have HH := Lib.hid hh
  clear hv hn hm h1 h2 hh
  go_enter Tryz.func44, Tryz.ntmps44
  go_wp2_with fail
  refine (has_any A n c A' m c' true left at_ _).mono ?_
  rintro e w1 ⟨rfl, hb1⟩
  rw [HH.out]
  obtain ⟨g1, g2, g3, g4, hbw⟩ := four_boxes hb1
  obtain ⟨⟨_, _, p2, _⟩, _⟩ := box4 g1
  have c3 := Boxed.cell g3
  have c4 := Boxed.cell g4
  have f3 := Boxed.frozen g3
  have f4 := Boxed.frozen g4
  have HB := Lib.hid hbw
  clear hb1 g1 g2 g3 g4 hbw
  go_wp2_with fail
  refine bodyPost_ret (v := .tuple #[.string ⟨#[]⟩, .int .i64 12]) (by simp [results, Tryz.results44, go_sem, c3, c4]) rfl ⟨rfl, ?_⟩
  exact (HB.out.setCell (p := ⟨w.heap.size + 1 + 1, 0, none⟩) (by simp; omega) _).setCell (p := ⟨w.heap.size + 1 + 1 + 1, 0, none⟩) (by simp; omega) _

/-- What Read comes to, in the words of what came. -/
def ReadsAs (wet : List Wt) (sure : List ByteArray) (j m : Nat) (s : ByteArray) : Prop :=
  (∃ (k : Nat) (ini : List Pw) (x : Pw), k ≤ m ∧ upW wet k = ini ++ [x] ∧ (∀ p ∈ ini, p.2.1 ≠ (j : Int)) ∧ x.2.1 = (j : Int) ∧ s = x.2.2) ∨ ((∀ p ∈ upW wet m, p.2.1 ≠ (j : Int)) ∧ s = sure.getD j ByteArray.empty)

/-- A block of cells is as it was where only what is no cells has turned. -/
theorem heap_own {X Y : World} {row : Option Nat} {g : Nat} {cur : Array Value} {t : TypeId} {fr : Nat × Nat} (h : X.heap[g]? = some (.cells cur t fr)) (hg : X.grownBy Y row) (hr : ∀ r, row = some r → ∃ o : Obj, X.heap[r]? = some o ∧ o.isCells = false) : Y.heap[g]? = some (.cells cur t fr) :=
  (hg.block g (Array.getElem?_eq_some_iff.1 h).1 (fun e => by obtain ⟨o, ho, hc⟩ := hr g e.symm; rw [h] at ho; cases ho; cases hc)).trans h

set_option maxRecDepth 100000 in
set_option maxHeartbeats 4000000 in
theorem read_walk (A : Option Addr) (n c : Nat) (A' : Option Addr) (m c' : Nat) (left : Int) (sure : List ByteArray) (wet : List Wt) (j : Nat) (w : World) (hj : j < n) (hn : n = sure.length) (hm : m = wet.length) (hm2 : m ≤ 1000000)
    (h1 : Reads w 9 1 A n (sure.map Value.string)) (h2 : Reads w 72 2 A' m (wetCells wet)) :
    Calls Tryz.prog 44 #[.agg #[.slice A n c, .slice A' m c', .bool false, .int .i64 left], .int .i64 j] w fun e w' => ∃ s, e = .returned (.tuple #[.string s, .int .i64 0]) ∧ Below w.heap.size w w' ∧ ReadsAs wet sure j m s := by
  have hh : (decide (0 ≤ (j : Int)) && decide ((j : Int) < (n : Int))) = true := by simp; omega
  have HH := Lib.hid hh
  have HN := Lib.hid hn
  have HM := Lib.hid hm
  have H1 := Lib.hid h1
  have H2 := Lib.hid h2
  clear hh hn hm h1 h2
  refine (callsIn_wide (n := 5)).1 ?_
  refine callsIn_of_wp_marks Tryz.func44 rfl trivial ?_ rfl
  simp only [Tryz.ntmps44, List.size_toArray, List.length_cons, List.length_nil, Nat.reduceAdd, Nat.reduceSub, Array.replicate_succ, Array.replicate_zero, List.push_toArray, List.append_toArray, List.nil_append, List.cons_append]
  gi_wp2_with fail
  refine ⟨trivial, ((callsIn_wide (n := 4)).2 (has_any A n c A' m c' false left j _)).mono ?_⟩
  rintro e w1 ⟨rfl, hb1⟩
  rw [HH.out]
  obtain ⟨g1, g2, g3, g4, hbw⟩ := four_boxes hb1
  obtain ⟨⟨p0, p1, p2, p3⟩, _⟩ := box4 g1
  have G1 := Lib.hid g1
  have G2 := Lib.hid g2
  have G3 := Lib.hid g3
  have G4 := Lib.hid g4
  have HB := Lib.hid hbw
  clear hb1 g1 g2 g3 g4 hbw
  gi_wp2_with fail
  refine ⟨trivial, (back_in Fence.wide 4 trivial rfl A' m c' w1).mono ?_⟩
  rintro e w2 ⟨rfl, rfl⟩
  gi_wp2_with fail
  have hsz : (w1.alloc (.cells #[.slice A' m c'] 26)).heap.size = w1.heap.size + 1 := World.size_alloc _ _
  have hs4 : w.heap.size + 1 + 1 + 1 < w1.heap.size := Boxed.lt G4.out
  have gD := box_alloc G1.out (.cells #[.slice A' m c'] 26)
  have bA : Boxed (w1.alloc (.cells #[.slice A' m c'] 26)) (w.heap.size + 1) 3 (.int .i64 j) := box_alloc G2.out _
  have bS : Boxed (w1.alloc (.cells #[.slice A' m c'] 26)) (w.heap.size + 1 + 1) 9 (.string ⟨#[]⟩) := box_alloc G3.out _
  have bE : Boxed (w1.alloc (.cells #[.slice A' m c'] 26)) (w.heap.size + 1 + 1 + 1) 34 (.int .i64 0) := box_alloc G4.out _
  have bN := Boxed.new w1 26 (.slice A' m c')
  have hB0 : Below w.heap.size w (w1.alloc (.cells #[.slice A' m c'] 26)) := HB.out.alloc HB.out.size _
  obtain ⟨W0, hW0⟩ : ∃ W0, w1.alloc (.cells #[.slice A' m c'] 26) = W0 := ⟨_, rfl⟩
  rw [hW0] at gD bA bS bE bN hB0 hsz ⊢
  clear hW0 p0 p1 p2 p3 G1 G2 G3 G4 HB
  have hA : 0 < m → ∃ b off, A' = some ⟨b, off, none⟩ ∧ b < w1.heap.size + 1 := fun h => by
    obtain ⟨b, off, e, hb, _⟩ := H2.out.at_ h
    exact ⟨b, off, e, by omega⟩
  have hR : Reads W0 72 2 A' m (wetCells wet) := H2.out.keep fun b _ _ hh => (hB0.block b (Array.getElem?_eq_some_iff.1 hh).1).trans hh
  refine wpIn_rangeFunc_ownH rfl (by omega) (gf := 106) (lb := #[.pointer (some ⟨w1.heap.size, 0, none⟩)]) rfl trivial (enters_of Tryz.func106 (by kernel_rfl) rfl)
    (back_stops Fence.wide (5 - 1) trivial rfl (by omega) w1.heap.size (w1.heap.size + 1) A' m c' wet HM.out hm2 W0 (by omega) (by omega) hA bN.cell hR) belowK_t (belowK_b (by omega)) (Below.refl _ _) (fun _ => rfl)
    (fun pre W => ((∀ p ∈ pre, p.2.1 ≠ (j : Int)) ∧ W.heap[w.heap.size]? = some (.cells #[.slice A n c, .slice A' m c', .bool false, .int .i64 left] 28 (0, 0)) ∧ Boxed W (w.heap.size + 1) 3 (.int .i64 j) ∧ Boxed W (w.heap.size + 1 + 1) 9 (.string ⟨#[]⟩) ∧ Boxed W (w.heap.size + 1 + 1 + 1) 34 (.int .i64 0) ∧ w1.heap.size + 1 ≤ W.heap.size) ∧ Below w.heap.size w W)
    (fun cd pre W => (cd = .ret ∧ ∃ ini x, pre = ini ++ [x] ∧ (∀ p ∈ ini, p.2.1 ≠ (j : Int)) ∧ x.2.1 = (j : Int) ∧ Boxed W (w.heap.size + 1 + 1) 9 (.string x.2.2) ∧ Boxed W (w.heap.size + 1 + 1 + 1) 34 (.int .i64 0)) ∧ Below w.heap.size w W)
    (OwnFrom.and (Own.from (fun s X Y row hs hg hr => ⟨hs.1, heap_own hs.2.1 hg hr, heap_own hs.2.2.1 hg hr, heap_own hs.2.2.2.1 hg hr, heap_own hs.2.2.2.2.1 hg hr, Nat.le_trans hs.2.2.2.2.2 hg.size⟩) _) (ownFrom_below (Nat.le_refl _) (by omega)))
    (fun cd => OwnFrom.and (Own.from (fun s X Y row hs hg hr => by obtain ⟨hc, ini, x, e1, e2, e3, e4, e5⟩ := hs; exact ⟨hc, ini, x, e1, e2, e3, heap_own e4 hg hr, heap_own e5 hg hr⟩) _) (ownFrom_below (Nat.le_refl _) (by omega)))
    ⟨⟨by simp, gD, bA, bS, bE, by omega⟩, hB0⟩
    (fun x a' W => ∃ Bx, w.heap.size + 1 + 1 + 1 < Bx ∧ W.heap[Bx]? = some (.cells #[.int .i64 x.2.1, .string x.2.2] 72 (0, 0)) ∧ a' = { tmps := #[.agg #[.slice A n c, .slice A' m c', .bool false, .int .i64 left], .int .i64 j, .pointer (some ⟨w.heap.size, 0, none⟩), .pointer (some ⟨w.heap.size + 1, 0, none⟩), .pointer (some ⟨w.heap.size + 1 + 1, 0, none⟩), .pointer (some ⟨w.heap.size + 1 + 1 + 1, 0, none⟩), undef, .pointer (some ⟨Bx, 0, none⟩), .agg #[.slice A n c, .slice A' m c', .bool false, .int .i64 left], .int .i64 j, .bool true, .bool false, .pointer (some ⟨w.heap.size, 2, none⟩), .bool false, .pointer (some ⟨w.heap.size, 1, none⟩), .slice A' m c', .func (.func 106) #[] #[.pointer (some ⟨w1.heap.size, 0, none⟩)], .int .i64 (x.1 : Int), .agg #[.int .i64 x.2.1, .string x.2.2], undef, undef, undef, undef, undef, undef, undef, undef, undef, undef, undef], defers := [] })
    (fun x a' _ X Y row hs hg hr => by obtain ⟨Bx, h1, h2, h3⟩ := hs; exact ⟨Bx, h1, heap_own h2 hg (fun r e => (hr r e).2), h3⟩)
    ?assign ?body ?done ?stop
  case assign =>
    rintro l pre ⟨xi, xa, xd⟩ W K ⟨⟨i1, i2, i3, i4, i5, i7⟩, i6⟩ hK
    dsimp only [encP]
    clear hR hA bN bE bS bA gD
    gi_wp2
    exact hK _ _ ((KeepsOthers.alloc _ _).from _) ((Below.refl _ W).alloc i7 _) ⟨⟨i1, box_alloc i2 _, i3.alloc _, i4.alloc _, i5.alloc _, by rw [World.size_alloc]; omega⟩, i6.alloc i6.size _⟩ ⟨W.heap.size, i5.lt, heap_alloc_new W _, rfl⟩
  case body =>
    rintro l pre ⟨xi, xa, xd⟩ a' W hl ⟨r, hr⟩ ⟨⟨i1, i2, i3, i4, i5, i7⟩, i6⟩ ⟨Bx, hBx, bX, rfl⟩ hlt
    dsimp only at bX ⊢
    have cA := i3.cell
    obtain ⟨⟨cX0, cX1⟩, _⟩ := box2 bX
    have cS := i4.cell
    have fS := i4.frozen
    have cE := i5.cell
    have fE := i5.frozen
    clear hR hA bN bE bS bA gD
    by_cases he : xa = (j : Int)
    · have heb : (xa == (j : Int)) = true := by simp [he]
      have HE := Lib.hid he
      clear he
      gi_wp2
      exact ⟨((KeepsOthers.setCell _ _ _).trans (KeepsOthers.setCell _ _ _)).from _, ⟨rfl, pre, _, rfl, i1, HE.out, (i4.set _).other (by omega) _, (i5.other (by omega) _).set _⟩, (i6.setCell (p := ⟨w.heap.size + 1 + 1, 0, none⟩) (by simp; omega) _).setCell (p := ⟨w.heap.size + 1 + 1 + 1, 0, none⟩) (by simp; omega) _⟩
    · have heb : (xa == (j : Int)) = false := by simp [he]
      have HE := Lib.hid he
      clear he
      gi_wp2
      exact ⟨KeepsFrom.refl _ _, Below.refl _ _, ⟨fun p hp => (List.mem_append.1 hp).elim (i1 p) (fun e => by simp at e; subst e; exact HE.out), i2, i3, i4, i5, i7⟩, i6⟩
  case done =>
    rintro D ys W hD rfl ⟨⟨i1, i2, i3, i4, i5, i7⟩, i6⟩ hK
    have cA := i3.cell
    obtain ⟨⟨cD0, _⟩, _⟩ := box4 i2
    have cS := i4.cell
    have fS := i4.frozen
    have cE := i5.cell
    have fE := i5.frozen
    obtain ⟨b, off, rfl, hbl, hcell⟩ := H1.out.at_ (by omega)
    have hcj : W.cell? ⟨b, off + j, none⟩ = some (.string (sure.getD j ByteArray.empty)) := (i6.cell (p := ⟨b, off + j, none⟩) hbl).trans (hcell j _ (by have := HN.out; rw [List.getElem?_map, List.getElem?_eq_getElem (by omega)]; simp [List.getD, List.getElem?_eq_getElem (show j < sure.length by omega)]))
    have I1 := Lib.hid i1
    obtain ⟨t, ht⟩ : ∃ t, t = sure.getD j ByteArray.empty := ⟨_, rfl⟩
    rw [← ht] at hcj
    have HT := Lib.hid ht
    have HBL := Lib.hid hbl
    clear hR hA bN bE bS bA gD hcell i1 ht
    gi_wp2
    have hK' := ((KeepsOthers.setCell W ⟨w.heap.size + 1 + 1, 0, none⟩ (.string t)).trans (KeepsOthers.setCell _ ⟨w.heap.size + 1 + 1 + 1, 0, none⟩ (.int .i64 0))).same D _ hK rfl
    refine ⟨by simp, .inl ⟨_, _, rfl, run_takeDeferred hK', ?_⟩⟩
    have b5 : Boxed _ (w.heap.size + 1 + 1) 9 (.string t) := heap_own ((i4.set (.string t)).other (B' := w.heap.size + 1 + 1 + 1) (by omega) (.int .i64 0)) (grownBy_putObj' _ D (.deferred none)) (fun r e => by cases e; exact ⟨_, hK', rfl⟩)
    have b6 : Boxed _ (w.heap.size + 1 + 1 + 1) 34 (.int .i64 0) := heap_own ((i5.other (B' := w.heap.size + 1 + 1) (by omega) (.string t)).set (.int .i64 0)) (grownBy_putObj' _ D (.deferred none)) (fun r e => by cases e; exact ⟨_, hK', rfl⟩)
    have c5 := b5.cell
    have c6 := b6.cell
    refine ⟨.tuple #[.string t, .int .i64 0], ?_, t, rfl, ?_, .inr ⟨I1.out, HT.out⟩⟩
    · simp [results, Tryz.f44, go_sem, c5, c6]
    · exact ((i6.setCell (p := ⟨w.heap.size + 1 + 1, 0, none⟩) (by simp; omega) _).setCell (p := ⟨w.heap.size + 1 + 1 + 1, 0, none⟩) (by simp; omega) _).trans (belowK_b (w := w) (Nat.le_refl _) _ D _ _ (by omega) hK' rfl rfl)
  case stop =>
    rintro D cd pre W hD ⟨k, hk, rfl⟩ ⟨⟨rfl, ini, x, e1, e2, e3, bS1, bE1⟩, i6⟩ hK
    have I1 := Lib.hid e1
    have I2 := Lib.hid e2
    have I3 := Lib.hid e3
    clear hR hA bN bE bS bA gD e1 e2 e3
    gi_wp2
    refine ⟨by simp, .inl ⟨_, _, rfl, run_takeDeferred hK, ?_⟩⟩
    have b5 : Boxed _ (w.heap.size + 1 + 1) 9 (.string x.2.2) := heap_own bS1 (grownBy_putObj' _ D (.deferred none)) (fun r e => by cases e; exact ⟨_, hK, rfl⟩)
    have b6 : Boxed _ (w.heap.size + 1 + 1 + 1) 34 (.int .i64 0) := heap_own bE1 (grownBy_putObj' _ D (.deferred none)) (fun r e => by cases e; exact ⟨_, hK, rfl⟩)
    have c5 := b5.cell
    have c6 := b6.cell
    refine ⟨.tuple #[.string x.2.2, .int .i64 0], ?_, _, rfl, ?_, .inl ⟨k, ini, x, hk, I1.out, I2.out, I3.out, rfl⟩⟩
    · simp [results, Tryz.f44, go_sem, c5, c6]
    · exact i6.trans (belowK_b (w := w) (Nat.le_refl _) W D _ _ (by omega) hK rfl rfl)

/-- What came behind k rounds are the last k of the list, the last one first. -/
theorem upW_eq (wet : List Wt) : ∀ k, k ≤ wet.length → (upW wet k).map (·.2) = (wet.reverse).take k := by
  intro k hk
  apply List.ext_getElem
  · simp [upW, hk]
  · intro i h1 h2
    simp only [upW, List.length_map, List.length_range] at h1
    have hi : i < wet.length := by omega
    simp [upW, List.getElem_reverse, List.getD, List.getElem?_eq_getElem (show wet.length - 1 - i < wet.length by omega)]

theorem readsAs_eq (wet : List Wt) (sure : List ByteArray) (j : Nat) (s : ByteArray) (h : ReadsAs wet sure j wet.length s) : s = readF wet sure j := by
  unfold readF
  rcases h with ⟨k, ini, x, hk, he, hi, hx, rfl⟩ | ⟨hi, rfl⟩
  · have e := upW_eq wet k hk
    rw [he, List.map_append] at e
    have hf : wet.reverse.find? (fun o => o.1 == (j : Int)) = some x.2 := by
      have e2 : wet.reverse = (ini.map (·.2) ++ [x.2]) ++ wet.reverse.drop k := by
        have := (List.take_append_drop k wet.reverse).symm
        rw [← e] at this
        simpa using this
      rw [e2, List.append_assoc, List.find?_append, List.find?_eq_none.2]
      · simp [hx]
      · intro o ho
        obtain ⟨p, hp, rfl⟩ := List.mem_map.1 ho
        simpa using hi p hp
    rw [hf]
  · have e := upW_eq wet wet.length (Nat.le_refl _)
    have hf : wet.reverse.find? (fun o => o.1 == (j : Int)) = none := by
      rw [List.find?_eq_none]
      intro o ho
      have : o ∈ (upW wet wet.length).map (·.2) := by rw [e, List.take_of_length_le (by simp)]; exact ho
      obtain ⟨p, hp, rfl⟩ := List.mem_map.1 this
      simpa using hi p hp
    rw [hf]
    simp

/-- disk.Read of a sector that is there, with power. -/
theorem read_ok (v : Value) (d : DK) (at_ : Int) (w : World) (hv : IsDisk w v d) (hd : d.ok) (h1 : 0 ≤ at_) (h2 : at_ < d.sure.length) (hde : d.dead = false) :
    Calls Tryz.prog 44 #[v, .int .i64 at_] w fun e w' => e = .returned (.tuple #[.string (readF d.wet d.sure at_), .int .i64 0]) ∧ Below w.heap.size w w' := by
  obtain ⟨sure, wet, dead, left⟩ := d
  dsimp only at hde
  subst hde
  obtain ⟨_, _, rfl, h3, h4⟩ := hv
  obtain ⟨A, c, rfl, _, hr⟩ := h3
  obtain ⟨A', c', rfl, _, hr'⟩ := h4
  dsimp only at *
  obtain ⟨j, rfl⟩ := Int.eq_ofNat_of_zero_le h1
  refine (read_walk A sure.length c A' wet.length c' left sure wet j w (by omega) rfl rfl (by have := hd.wet; dsimp only at this; omega) hr hr').mono ?_
  rintro e w' ⟨s, rfl, hb, hs⟩
  exact ⟨by rw [readsAs_eq wet sure j s hs], hb⟩
end Go.Proofs.YtnbbijpmkhdgpaaGreat.Dsk

/- DDoes -/
namespace Go.Proofs.YtnbbijpmkhdgpaaGreat.Dsk
open Go.RowKit

theorem write_calls (v : Value) (d : DK) (at_ : Int) (data : ByteArray) (w : World) (hv : IsDisk w v d) (hd : d.ok) :
    Calls Tryz.prog 63 #[v, .int .i64 at_, .string data] w fun e w' => ∃ v', e = .returned (.tuple #[v', .int .i64 (wrE d at_ data)]) ∧ IsDisk w' v' (wrD d at_ data) ∧ Below w.heap.size w w' := by
  unfold wrE wrD
  by_cases h : wrOk d at_ data
  · rw [if_pos h, if_pos h]
    exact write_may v d at_ data w hv hd h.1 h.2.1 h.2.2
  · rw [if_neg h, if_neg h]
    exact write_arg v d at_ data w hv h

theorem read_calls (v : Value) (d : DK) (at_ : Int) (w : World) (hv : IsDisk w v d) (hd : d.ok) :
    Calls Tryz.prog 44 #[v, .int .i64 at_] w fun e w' => e = .returned (.tuple #[.string (rdS d at_), .int .i64 (rdE d at_)]) ∧ Below w.heap.size w w' := by
  unfold rdS rdE
  by_cases h : rdOk d at_
  · by_cases hde : d.dead = false
    · rw [if_pos ⟨h, hde⟩, if_pos h, if_pos hde]
      exact read_ok v d at_ w hv hd h.1 h.2 hde
    · rw [if_neg (fun x => hde x.2), if_pos h, if_neg hde]
      exact read_down v d at_ w hv h.1 h.2 (by simpa using hde)
  · rw [if_neg (fun x => h x.1), if_neg h]
    exact read_arg v d at_ w hv h

/-- Three boxes that were laid one behind another. -/
theorem three_new (w : World) (a b c : Obj) : ∃ X g1 g2 g3, ((w.alloc a).alloc b).alloc c = X ∧ w.heap.size = g1 ∧ w.heap.size + 1 = g2 ∧ w.heap.size + 1 + 1 = g3 ∧ X.heap[g1]? = some a ∧ X.heap[g2]? = some b ∧ X.heap[g3]? = some c ∧ Below w.heap.size w X ∧ w.heap.size ≤ g3 ∧ g3 ≠ g1 := by
  refine ⟨_, _, _, _, rfl, rfl, rfl, rfl, box_alloc (box_alloc (heap_alloc_new w a) b) c, ?_, ?_, (((Below.refl _ _).alloc (Nat.le_refl _) _).alloc (by simp) _).alloc (by simp; omega) _, by omega, by omega⟩
  · exact box_alloc (by have := heap_alloc_new (w.alloc a) b; simpa using this) c
  · have := heap_alloc_new ((w.alloc a).alloc b) c
    simpa using this

end Go.Proofs.YtnbbijpmkhdgpaaGreat.Dsk
