/- slices.Backward over what is to be: it hands on each, the last one first. No statement is proved here. -/
import Derived.RangeFuncNested
import Derived.RangeFuncBound
import Derived.RangeFuncCalls
import Derived.RangeFuncLeaves
import Derived.RangeFuncBox
import Derived.Shelf.Abstract
import Derived.Shelf.RegionOpen
import Derived.OwnWalkIn
import Derived.TacticsInMore
import Derived.LoopNIn
import Derived.LoopIn
import Derived.Test.YtnnbbkfdijionaaWrite
namespace Go.Proofs.Ytnnbbkfdijionaa
open Go.RowKit Go.Shelf
attribute [local go_sem] Oper.semAt_some

/-- What comes: the place, and what stands there. -/
abbrev Pw := Nat × Wt
def encP (x : Pw) : Array Value := #[.int .i64 (x.1 : Int), .agg #[.int .i64 x.2.1, .string x.2.2]]
/-- What has come behind k rounds. -/
def upW (wet : List Wt) (k : Nat) : List Pw := (List.range k).map fun j => (wet.length - 1 - j, wet.getD (wet.length - 1 - j) (0, ByteArray.empty))
theorem upW_succ (wet : List Wt) (k : Nat) : upW wet (k + 1) = upW wet k ++ [(wet.length - 1 - k, wet.getD (wet.length - 1 - k) (0, ByteArray.empty))] := by simp [upW, List.range_succ]
theorem upW_length (wet : List Wt) (k : Nat) : (upW wet k).length = k := by simp [upW]

set_option maxRecDepth 100000 in
set_option maxHeartbeats 2000000 in
theorem back1_in (F : Fence) (n : Nat) (h38 : F.fn 38) (hro : F.round = none) (hn : 1 ≤ n) (l Bs n₀ : Nat) (A : Option Addr) (m cap : Nat) (wet : List Wt) (hm : m = wet.length) (hm2 : m ≤ 1000000) (hBs0 : Bs < n₀) (hA : 0 < m → ∃ b off, A = some ⟨b, off, none⟩ ∧ b < n₀)
    (J Jx : List Pw → World → Prop)
    (hY : ∀ pre x W, J pre W → pre.length < m → YieldAt F (n - 1) Try.prog l (encP x) W fun e W' =>
      (e = .returned (.bool true) ∧ J (pre ++ [x]) W' ∧ Below n₀ W W') ∨ (e = .returned (.bool false) ∧ Jx (pre ++ [x]) W'))
    (W : World) (hBs : W.cell? ⟨Bs, 0, none⟩ = some (.slice A m cap)) (hR : Reads W 52 2 A m (wetCells wet)) (h0 : J [] W) :
    CallsIn F n Try.prog 38 #[.func (.yield l) #[] #[], .pointer (some ⟨Bs, 0, none⟩)] W fun e W' => (∃ v, e = .returned v) ∧
      ((∃ ys, ys = upW wet m ∧ J ys W') ∨ (∃ pre, (∃ k, k ≤ m ∧ pre = upW wet k) ∧ Jx pre W')) := by
  have HR := Lib.hid hR
  have HM := Lib.hid hm
  have HA := Lib.hid hA
  have HY := Lib.hid hY
  clear hR hm hA hY
  refine callsIn_of_wp Try.func38 rfl h38 ?_ hro
  simp only [Try.ntmps38, List.size_toArray, List.length_cons, List.length_nil, Nat.reduceAdd, Nat.reduceSub, Array.replicate_succ, Array.replicate_zero, List.push_toArray, List.append_toArray, List.nil_append, List.cons_append]
  gi_wp2
  gi_loopw [3] (fun i wr => ∃ p : Nat, p ≤ m ∧ i = .int .i64 ((p : Int) - 1) ∧ J (upW wet (m - p)) wr ∧ Below n₀ W wr)
    (fun i _ => (intOf i + 1).toNat)
  case atStart => exact ⟨m, Nat.le_refl _, rfl, by rw [Nat.sub_self]; exact h0, Below.refl _ _⟩
  case round =>
    obtain ⟨p, hp, rfl, hJs, hnx⟩ := hrel
    cases p with
    | zero =>
      rw [show ((0 : Nat) : Int) - 1 = -1 from rfl]
      gi_wp2
      go_end0
      exact ⟨⟨_, rfl⟩, .inl ⟨_, rfl, hJs⟩⟩
    | succ q =>
      rw [show ((q + 1 : Nat) : Int) - 1 = (q : Int) by omega]
      have hqm : q < m := by omega
      obtain ⟨o, ho⟩ : ∃ o, wet[q]? = some o := ⟨_, List.getElem?_eq_getElem (by have := HM.out; omega)⟩
      obtain ⟨b, off, rfl, hbl, hcell⟩ := HR.out.at_ (by omega)
      obtain ⟨b', off', e', hb0⟩ := HA.out (by omega)
      cases e'
      have hw := wetCells_at wet q o ho
      have hgd : wet.getD (wet.length - 1 - (m - (q + 1))) (0, ByteArray.empty) = o := by
        have e : wet.length - 1 - (m - (q + 1)) = q := by have := HM.out; omega
        rw [e, List.getD, ho]; rfl
      have hup : upW wet (m - q) = upW wet (m - (q + 1)) ++ [(q, o)] := by
        have e : m - q = m - (q + 1) + 1 := by omega
        rw [e, upW_succ, hgd]
        have e2 : wet.length - 1 - (m - (q + 1)) = q := by have := HM.out; omega
        rw [e2]
      obtain ⟨oa, od⟩ := o
      have hc0 : wr.cell? ⟨b, off + q * 2, none⟩ = some (.int .i64 oa) := (hnx.cell (p := ⟨b, off + q * 2, none⟩) hb0).trans (hcell _ _ hw.1)
      have hc1 : wr.cell? ⟨b, off + q * 2 + 1, none⟩ = some (.string od) := (hnx.cell (p := ⟨b, off + q * 2 + 1, none⟩) hb0).trans (hcell _ _ hw.2)
      have hcs : wr.cell? ⟨Bs, 0, none⟩ = some (.slice (some ⟨b, off, none⟩) m cap) := (hnx.cell (p := ⟨Bs, 0, none⟩) hBs0).trans hBs
      obtain ⟨fn, tmps, assign, body, hy, hR⟩ := HY.out _ (q, (oa, od)) wr hJs (by rw [upW_length]; omega)
      dsimp only [encP] at hy
      have HU := Lib.hid hup
      have HRR := Lib.hid hR
      clear hcell hw ho hgd hup hR
      gi_wp2
      refine HRR.out.mono ?_
      rintro e W3 (⟨rfl, hJ3, hk3⟩ | ⟨rfl, hJx3⟩)
      · gi_wp2
        go_roundw
        case rel => exact ⟨q, by omega, rfl, by rw [HU.out]; exact hJ3, hnx.trans hk3⟩
        case measure => simp [intOf]
      · gi_wp2
        refine bodyPost_ret (results_none rfl _ _ _) rfl ?_
        exact ⟨⟨_, rfl⟩, .inr ⟨_, ⟨m - q, by omega, rfl⟩, by rw [HU.out]; exact hJx3⟩⟩

set_option maxHeartbeats 1000000 in
/-- slices.Backward: the slice is boxed; the function value has the box. -/
theorem back_in (F : Fence) (n : Nat) (h34 : F.fn 34) (hro : F.round = none) (a : Option Addr) (len cap : Nat) (w : World) :
    CallsIn F n Try.prog 34 #[.slice a len cap] w fun e w' => e = .returned (.func (.func 38) #[] #[.pointer (some ⟨w.heap.size, 0, none⟩)]) ∧ w' = w.alloc (.cells #[.slice a len cap] 26) := by
  refine callsIn_of_wp Try.func34 rfl h34 ?_ hro
  simp only [Try.ntmps34, List.size_toArray, List.length_cons, List.length_nil, Nat.reduceAdd, Nat.reduceSub, Array.replicate_succ, Array.replicate_zero, List.push_toArray, List.append_toArray, List.nil_append, List.cons_append]
  gi_wp2
  go_ret
  exact ⟨rfl, rfl⟩

/-- It hands on all, the last one first; or the first k of these. -/
theorem back_stops (F : Fence) (n : Nat) (h38 : F.fn 38) (hro : F.round = none) (hn : 1 ≤ n) (Bs n₀ : Nat) (A : Option Addr) (m cap : Nat) (wet : List Wt) (hm : m = wet.length) (hm2 : m ≤ 1000000) (w : World) (hBs0 : Bs < n₀) (hn₀ : n₀ ≤ w.heap.size)
    (hA : 0 < m → ∃ b off, A = some ⟨b, off, none⟩ ∧ b < n₀) (hc : w.cell? ⟨Bs, 0, none⟩ = some (.slice A m cap)) (hR : Reads w 52 2 A m (wetCells wet)) :
    SeqStopsK F n Try.prog 38 #[.pointer (some ⟨Bs, 0, none⟩)] encP (Below n₀) (fun ys => ys = upW wet m) (fun pre => ∃ k, k ≤ m ∧ pre = upW wet k) m w := fun l J Jx W hW _ _ hY h0 =>
  back1_in F n h38 hro hn l Bs n₀ A m cap wet hm hm2 hBs0 hA J Jx hY W ((hW.cell (p := ⟨Bs, 0, none⟩) (by show Bs < w.heap.size; omega)).trans hc) (hR.keep fun b _ _ hh => (hW.block b (Array.getElem?_eq_some_iff.1 hh).1).trans hh) h0
end Go.Proofs.Ytnnbbkfdijionaa
