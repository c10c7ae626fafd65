/- Single operations of a region, over whatever frame. No statement is proved here. -/
import Derived.Test.YtkfjbhikibidiaaRSome
import Derived.Deep.RegionHeld3
import Derived.Shelf.Abstract
namespace Go.Proofs.Ytkfjbhikibidiaa
open Go.RowKit

section
variable {o : Oper} {a : Act} {w : World} {x y : Operand}
theorem ex_move (ho : o.op = .move x) {v : Value} (hx : a.eval x = v) : (execOp a.eval o).run Try.prog w = .ok (.value v) w := by
  simp only [execOp, ho]
  rw [hx]
  simp [go_sem]
theorem ex_assign (ho : o.op = .assign x) {v : Value} (hx : a.eval x = v) : (execOp a.eval o).run Try.prog w = .ok (.value v) w := by
  simp only [execOp, ho]
  rw [hx]
  simp [go_sem]
theorem ex_not (ho : o.op = .unOp .not 4 x) {b : Bool} (hx : a.eval x = .bool b) : (execOp a.eval o).run Try.prog w = .ok (.value (.bool (!b))) w := by
  simp only [execOp, ho]
  rw [hx]
  simp [go_sem]
theorem ex_load26 {g : Nat} {r : Rec} {v : Value} (ho : o.op = .load 26 x) (hx : a.eval x = .pointer (some ⟨g, 0, none⟩)) (hb : RBox w g r v) : (execOp a.eval o).run Try.prog w = .ok (.value (recV r v)) w := by
  obtain ⟨c0, c1, c2, c3, c4, c5, c6, c7, c8⟩ := hb.at_
  simp only [execOp, ho]
  rw [hx]
  simp [go_sem, recV, c0, c1, c2, c3, c4, c5, c6, c7, c8]
theorem ex_eqs {s t : ByteArray} {c : Bool} (ho : o.op = .binOp .eql 9 x y 9) (hx : a.eval x = .string s) (hy : a.eval y = .string t) (hc : (s.toList == t.toList) = c) : (execOp a.eval o).run Try.prog w = .ok (.value (.bool c)) w := by
  subst hc
  simp only [execOp, ho]
  rw [hx, hy]
  simp [go_sem]
theorem ex_cut {s : ByteArray} (ho : o.op = .slice 9 x none (some (.const (.int .i64 4))) none) (hx : a.eval x = .string s) (hl : 4 ≤ s.size) : (execOp a.eval o).run Try.prog w = .ok (.value (.string (s.extract 0 4))) w := by
  simp only [execOp, ho]
  rw [hx]
  have hl' : (4 : Int) ≤ s.size := by omega
  simp [go_sem, hl, hl']
theorem ex_pick {z : Operand} {c d : Bool} {u v : Value} (ho : o.op = .pick x y z) (hx : a.eval x = .bool c) (hy : a.eval y = u) (hz : a.eval z = v) (h : (if c then u else v) = .bool d) : (execOp a.eval o).run Try.prog w = .ok (.value (.bool d)) w := by
  simp only [execOp, ho]
  rw [hx, hy, hz]
  cases c <;> simp at h <;> simp [go_sem, h]

theorem ex_call {K : Act → World → Prop} {Q : Exit → Act → World → Prop} {F : Nat} {xs : Array Operand} {ts : Array TypeId} {args : Array Value} (ho : o.op = .call { callee := .value (.func F), args := xs, argTypes := ts })
    (he : ∀ args W, (callFunc F args).run Try.prog W = .ok (.enter F args) W) (hxs : xs.map a.eval = args)
    (hc : Calls Try.prog F args w fun e w' => ∃ v, e = .returned v ∧ K (a.put o.dst v) w') : o.wp Try.prog a w K Q := by
  unfold Oper.wp
  subst hxs
  simp only [execOp, ho]
  simp [go_sem, resolve, invoke, Act.eval, he] at hc ⊢
  refine hc.mono ?_
  rintro e w' ⟨v, rfl, hk⟩
  exact hk
end
theorem want_yes {ops : Array Oper} {o ok : Oper} {tmps : Array Value} {k d : Nat} {b : Bool} (hg : o.guard = some (k, b)) (hk : ops[k]? = some ok) (hd : ok.dst = some d) (hv : tmps[d]? = some (.bool b)) : Region.wanted o (yielded ops tmps) = true := by
  simp [Region.wanted, hg, yielded, hk, hd, hv]
theorem want_no {ops : Array Oper} {o ok : Oper} {tmps : Array Value} {k d : Nat} {b : Bool} (hg : o.guard = some (k, b)) (hk : ops[k]? = some ok) (hd : ok.dst = some d) (hv : tmps[d]? = some (.bool (!b))) : Region.wanted o (yielded ops tmps) = false := by
  cases b <;> simp [Region.wanted, hg, yielded, hk, hd, hv]
section
variable {ops : Array Oper} {Q : Exit → Act → World → Prop} {S : World → Prop} {fuel : Nat} {listed : Array Bool} {a : Act} {w : World}
theorem region_start {id : Nat} (hm : Try.prog.follows .mixedOrders = true) (hs : Region.noSelect ops = true) (n : Nat) (L : Array Bool) (hn : ops.size = n) (hL : Array.replicate n false = L) (hS : S w.drew)
    (h : Region.noSelect ops = true → wpAnyH Try.prog .any ops Q S n L a w.drew) : (Code.region id ops true).wp Try.prog Q a w := by
  subst hL hn
  exact wp_region_held_drew hm hS fun _ => h hs
theorem take_yes {oi : Oper} (i d : Nat) (v : Value) (hi : ops[i]? = some oi) (hd : oi.dst = some d) (hs : Region.noSelect ops = true) (hf : Region.free .any ops listed i = true) (hr : (Region.ready .any ops listed).contains i = true)
    (hQ : ∀ c a w, Q (.panic c) (a.put (some d) v) w → Q (.panic c) a w) (hw : Region.wanted oi (yielded ops a.tmps) = true) (hy : ∀ w, S w → (execOp a.eval oi).run Try.prog w = .ok (.value v) w) (hS : S w)
    (h : wpAnyH Try.prog .any ops Q S fuel (listed.setIfInBounds i true) (a.put (some d) v) w) : wpAnyH Try.prog .any ops Q S (fuel + 1) listed a w :=
  wpAnyH_take hi hs hf hr (by rw [hd]; exact hQ) (.inl ⟨hw, hy⟩) hS (by rw [hd]; exact h)
theorem take_no {oi : Oper} (i d : Nat) (hi : ops[i]? = some oi) (hd : oi.dst = some d) (hs : Region.noSelect ops = true) (hf : Region.free .any ops listed i = true) (hr : (Region.ready .any ops listed).contains i = true)
    (hQ : ∀ c a w, Q (.panic c) (a.put (some d) undef) w → Q (.panic c) a w) (hw : Region.wanted oi (yielded ops a.tmps) = false) (hS : S w)
    (h : wpAnyH Try.prog .any ops Q S fuel (listed.setIfInBounds i true) (a.put (some d) undef) w) : wpAnyH Try.prog .any ops Q S (fuel + 1) listed a w :=
  wpAnyH_take hi hs hf hr (by rw [hd]; exact hQ) (.inr ⟨hw, rfl⟩) hS (by rw [hd]; exact h)
theorem take_call {oi : Oper} (i d F : Nat) {xs : Array Operand} {ts : Array TypeId} (args : Array Value) (hi : ops[i]? = some oi) (hd : oi.dst = some d) (hr : Region.ready .any ops listed = [i])
    (hw : Region.wanted oi (yielded ops a.tmps) = true) (ho : oi.op = .call { callee := .value (.func F), args := xs, argTypes := ts }) (he : ∀ args W, (callFunc F args).run Try.prog W = .ok (.enter F args) W) (hxs : xs.map a.eval = args)
    (hc : Calls Try.prog F args w fun e w' => ∃ v, e = .returned v ∧ S w' ∧ wpAnyH Try.prog .any ops Q S fuel (listed.setIfInBounds i true) (a.put (some d) v) w') : wpAnyH Try.prog .any ops Q S (fuel + 1) listed a w := by
  refine wpAnyH_ready hr (by simp) (AllReadyH.cons hi (fun K hK => ?_) AllReadyH.nil)
  rw [if_pos hw]
  refine ex_call ho he hxs (hc.mono ?_)
  rintro e w' ⟨v, rfl, hS, h⟩
  refine ⟨v, rfl, hK.out _ _ hS fun _ => ?_⟩
  rw [hd]
  exact h
end
theorem enters6 : ∀ args W, (callFunc 6 args).run Try.prog W = .ok (.enter 6 args) W := enters_of Try.func6 (by kernel_rfl) rfl
theorem enters8 : ∀ args W, (callFunc 8 args).run Try.prog W = .ok (.enter 8 args) W := enters_of Try.func8 (by kernel_rfl) rfl
theorem enters10 : ∀ args W, (callFunc 10 args).run Try.prog W = .ok (.enter 10 args) W := enters_of Try.func10 (by kernel_rfl) rfl
theorem enters14 : ∀ args W, (callFunc 14 args).run Try.prog W = .ok (.enter 14 args) W := enters_of Try.func14 (by kernel_rfl) rfl
end Go.Proofs.Ytkfjbhikibidiaa
