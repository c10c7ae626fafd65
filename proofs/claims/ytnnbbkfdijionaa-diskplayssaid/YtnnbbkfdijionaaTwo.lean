/- The examples' statement 't, u := Start(d, 1), Start(d, 2)', in whatever order its operations come. No statement is proved here. -/
import Derived.Test.YtnnbbkfdijionaaOps
namespace Go.Proofs.Ytnnbbkfdijionaa
open Go.RowKit

/-- A frame with six places that the statement writes. -/
structure Fr (F : Value → Value → Value → Value → Value → Value → Act) (Bd : Nat) : Prop where
  put9 : ∀ x9 x10 x44 x45 x46 x47 v, (F x9 x10 x44 x45 x46 x47).put (some 9) v = F v x10 x44 x45 x46 x47
  put10 : ∀ x9 x10 x44 x45 x46 x47 v, (F x9 x10 x44 x45 x46 x47).put (some 10) v = F x9 v x44 x45 x46 x47
  put44 : ∀ x9 x10 x44 x45 x46 x47 v, (F x9 x10 x44 x45 x46 x47).put (some 44) v = F x9 x10 v x45 x46 x47
  put45 : ∀ x9 x10 x44 x45 x46 x47 v, (F x9 x10 x44 x45 x46 x47).put (some 45) v = F x9 x10 x44 v x46 x47
  put46 : ∀ x9 x10 x44 x45 x46 x47 v, (F x9 x10 x44 x45 x46 x47).put (some 46) v = F x9 x10 x44 x45 v x47
  put47 : ∀ x9 x10 x44 x45 x46 x47 v, (F x9 x10 x44 x45 x46 x47).put (some 47) v = F x9 x10 x44 x45 x46 v
  ev1 : ∀ x9 x10 x44 x45 x46 x47, (F x9 x10 x44 x45 x46 x47).eval (.tmp 1) = .pointer (some ⟨Bd, 0, none⟩)
  ev9 : ∀ x9 x10 x44 x45 x46 x47, (F x9 x10 x44 x45 x46 x47).eval (.tmp 9) = x9
  ev10 : ∀ x9 x10 x44 x45 x46 x47, (F x9 x10 x44 x45 x46 x47).eval (.tmp 10) = x10
  ev44 : ∀ x9 x10 x44 x45 x46 x47, (F x9 x10 x44 x45 x46 x47).eval (.tmp 44) = x44
  ev45 : ∀ x9 x10 x44 x45 x46 x47, (F x9 x10 x44 x45 x46 x47).eval (.tmp 45) = x45
  ev46 : ∀ x9 x10 x44 x45 x46 x47, (F x9 x10 x44 x45 x46 x47).eval (.tmp 46) = x46
  ev47 : ∀ x9 x10 x44 x45 x46 x47, (F x9 x10 x44 x45 x46 x47).eval (.tmp 47) = x47

/-- What each of the eight operations waits for, at the least. -/
def need (b0 b1 b2 b3 b4 b5 b6 b7 : Bool) : Nat → Bool
  | 0 => !b0
  | 1 => !b1 && b0
  | 2 => !b2
  | 3 => !b3 && b2
  | 4 => !b4
  | 5 => !b5
  | 6 => !b6 && b1 && b3 && b4 && b5
  | 7 => !b7 && b3 && b4 && b5 && b6
  | _ => false

/-- The statement's eight operations. -/
structure Ops7 (ops : Array Oper) : Prop where
  is : ∃ o0 o1 o2 o3 o4 o5 o6 o7, ops = #[o0, o1, o2, o3, o4, o5, o6, o7] ∧
    (o0.op = .load 28 (.tmp 1) ∧ o0.dst = some 44 ∧ o0.guard = none) ∧
    (o1.op = .call { callee := .value (.func 20), args := #[.tmp 44, .const (.int .u64 1)], argTypes := #[28, 33] } ∧ o1.dst = some 45 ∧ o1.guard = none) ∧
    (o2.op = .load 28 (.tmp 1) ∧ o2.dst = some 46 ∧ o2.guard = none) ∧
    (o3.op = .call { callee := .value (.func 20), args := #[.tmp 46, .const (.int .u64 2)], argTypes := #[28, 33] } ∧ o3.dst = some 47 ∧ o3.guard = none) ∧
    (o4.op = .alloc 28 ∧ o4.dst = some 9 ∧ o4.guard = none) ∧
    (o5.op = .alloc 28 ∧ o5.dst = some 10 ∧ o5.guard = none) ∧
    (o6.op = .store 28 (.tmp 9) (.tmp 45) ∧ o6.dst = none ∧ o6.guard = none) ∧
    (o7.op = .store 28 (.tmp 10) (.tmp 47) ∧ o7.dst = none ∧ o7.guard = none)
  ready : ∀ b0 b1 b2 b3 b4 b5 b6 b7 : Bool, (Region.ready .any ops #[b0, b1, b2, b3, b4, b5, b6, b7]).all (need b0 b1 b2 b3 b4 b5 b6 b7) = true
  done : ∀ b0 b1 b2 b3 b4 b5 b6 b7 : Bool, (!(Region.ready .any ops #[b0, b1, b2, b3, b4, b5, b6, b7]).isEmpty || (b0 && b1 && b2 && b3 && b4 && b5 && b6 && b7)) = true

/-- A disk that a Start has answered. -/
def Fresh (W : World) (v : Value) (ss : List ByteArray) : Prop := ∃ A c B d, v = .agg #[.slice A 3 c, .slice B 0 d, .bool false, .int .i64 (-1)] ∧ IsDisk W v ⟨ss, [], false, -1⟩
theorem Fresh.below {W W' : World} {v : Value} {ss : List ByteArray} (h : Fresh W v ss) (hb : Below W.heap.size W W') : Fresh W' v ss := by
  obtain ⟨A, c, B, d, e, hd⟩ := h
  exact ⟨A, c, B, d, e, hd.below hb⟩
theorem Fresh.other {W W' : World} {v : Value} {ss : List ByteArray} (h : Fresh W v ss) {g : Nat} {cur : Array Value} {fr : Nat × Nat} (hg : W.heap[g]? = some (.cells cur 28 fr)) (hk : ∀ b : Nat, b ≠ g → W'.heap[b]? = W.heap[b]?) : Fresh W' v ss := by
  obtain ⟨A, c, B, d, e, hd⟩ := h
  exact ⟨A, c, B, d, e, hd.other hg (by decide) (by decide) hk⟩

def zeroBox : Obj := .cells #[.slice none 0 0, .slice none 0 0, .bool false, .int .i64 0] 28 (0, 0)
def BoxOf (W : World) (g : Nat) (v : Value) : Prop := ∃ u0 u1 u2 u3, v = .agg #[u0, u1, u2, u3] ∧ W.heap[g]? = some (.cells #[u0, u1, u2, u3] 28 (0, 0))
theorem BoxOf.kept {W W' : World} {g : Nat} {v : Value} (h : BoxOf W g v) (hk : W'.heap[g]? = W.heap[g]?) : BoxOf W' g v := by
  obtain ⟨u0, u1, u2, u3, e, hg⟩ := h
  exact ⟨u0, u1, u2, u3, e, hk.trans hg⟩
theorem BoxOf.lt {W : World} {g : Nat} {v : Value} (h : BoxOf W g v) : g < W.heap.size := by
  obtain ⟨u0, u1, u2, u3, e, hg⟩ := h
  exact (Array.getElem?_eq_some_iff.1 hg).1

def ptr (g : Nat) : Value := .pointer (some ⟨g, 0, none⟩)

/-- What holds in the midst of the statement, b0 to b7 saying what is done. -/
structure Mid (F : Value → Value → Value → Value → Value → Value → Act) (Bd : Nat) (vd : Value) (D : DK) (T U : List ByteArray) (w0 : World) (b0 b1 b2 b3 b4 b5 b6 b7 : Bool) (x9 x10 x44 x45 x46 x47 : Value) (g9 g10 : Nat) (W : World) : Prop where
  box : BoxOf W Bd vd
  disk : IsDisk W vd D
  below : Below w0.heap.size w0 W
  le : w0.heap.size ≤ Bd
  h44 : b0 = true → x44 = vd
  h46 : b2 = true → x46 = vd
  h45 : b1 = true → Fresh W x45 T
  h47 : b3 = true → Fresh W x47 U
  h9 : b4 = true → x9 = ptr g9 ∧ g9 ≠ Bd ∧ w0.heap.size ≤ g9 ∧ g9 < W.heap.size
  h10 : b5 = true → x10 = ptr g10 ∧ g10 ≠ Bd ∧ w0.heap.size ≤ g10 ∧ g10 < W.heap.size
  apart : b4 = true → b5 = true → g9 ≠ g10
  z9 : b4 = true → b6 = false → W.heap[g9]? = some zeroBox
  z10 : b5 = true → b7 = false → W.heap[g10]? = some zeroBox
  s9 : b6 = true → BoxOf W g9 x45
  s10 : b7 = true → BoxOf W g10 x47
  i6 : b6 = true → b1 = true ∧ b4 = true
  i7 : b7 = true → b3 = true ∧ b5 = true

theorem Mid.call {F : Value → Value → Value → Value → Value → Value → Act} {Bd : Nat} {vd : Value} {D : DK} {T U : List ByteArray} {w0 : World} {b0 b1 b2 b3 b4 b5 b6 b7 : Bool} {x9 x10 x44 x45 x46 x47 : Value} {g9 g10 : Nat} {W W' : World}
    (h : Mid F Bd vd D T U w0 b0 b1 b2 b3 b4 b5 b6 b7 x9 x10 x44 x45 x46 x47 g9 g10 W) (hb : Below W.heap.size W W') : Mid F Bd vd D T U w0 b0 b1 b2 b3 b4 b5 b6 b7 x9 x10 x44 x45 x46 x47 g9 g10 W' where
  box := h.box.kept (hb.block _ h.box.lt)
  disk := h.disk.below hb
  below := below_trans' h.below hb
  le := h.le
  h44 := h.h44
  h46 := h.h46
  h45 := fun e => (h.h45 e).below hb
  h47 := fun e => (h.h47 e).below hb
  h9 := fun e => by have := h.h9 e; have := hb.size; exact ⟨by simp_all, by simp_all, by simp_all, by omega⟩
  h10 := fun e => by have := h.h10 e; have := hb.size; exact ⟨by simp_all, by simp_all, by simp_all, by omega⟩
  apart := h.apart
  z9 := fun e e' => (hb.block _ (h.h9 e).2.2.2).trans (h.z9 e e')
  z10 := fun e e' => (hb.block _ (h.h10 e).2.2.2).trans (h.z10 e e')
  s9 := fun e => (h.s9 e).kept (hb.block _ (h.s9 e).lt)
  s10 := fun e => (h.s10 e).kept (hb.block _ (h.s10 e).lt)
  i6 := h.i6
  i7 := h.i7

theorem wpOp_of {P : Program} {ops : Array Oper} {Q : Exit → Act → World → Prop} {i : Nat} {o : Oper} {K : Act → World → Prop} {a : Act} {w : World} (ho : ops[i]? = some o) (hg : o.guard = none) (h : o.wp P a w K Q) : wpOp P ops Q i K a w := by
  have hw : Region.wanted o (yielded ops a.tmps) = true := by simp [Region.wanted, hg]
  unfold wpOp
  rw [ho]
  show if Region.wanted o (yielded ops a.tmps) = true then _ else _
  rw [if_pos hw]
  exact .inl h

/-- In whatever order the operations come: both disks stand in boxes of their own, and the disk that was started is as it was. -/
theorem two_starts {F : Value → Value → Value → Value → Value → Value → Act} {Bd : Nat} (hF : Fr F Bd) {s : Secs} (H : Calls9 s) {ops : Array Oper} (hops : Ops7 ops) (w X : World) {A B : Option Addr} {c d : Nat}
    (hG : X.heap[Bd]? = some (.cells #[.slice A 3 c, .slice B 2 d, .bool false, .int .i64 (-1)] 28 (0, 0))) (hV : IsDisk X (.agg #[.slice A 3 c, .slice B 2 d, .bool false, .int .i64 (-1)]) ⟨[s.z, s.ab, s.z], [(1, s.xyz), (2, s.q)], false, -1⟩)
    (hB : Below w.heap.size w X) (hle : w.heap.size ≤ Bd) (Q : Exit → Act → World → Prop)
    (hQ : ∀ x44 x46 AT cT BT dT AU cU BU dU g9 g10 W, W.heap[g9]? = some (.cells #[.slice AT 3 cT, .slice BT 0 dT, .bool false, .int .i64 (-1)] 28 (0, 0)) → W.heap[g10]? = some (.cells #[.slice AU 3 cU, .slice BU 0 dU, .bool false, .int .i64 (-1)] 28 (0, 0)) →
      W.heap[Bd]? = some (.cells #[.slice A 3 c, .slice B 2 d, .bool false, .int .i64 (-1)] 28 (0, 0)) → IsDisk W (.agg #[.slice AT 3 cT, .slice BT 0 dT, .bool false, .int .i64 (-1)]) ⟨[s.z, s.xyz, s.z], [], false, -1⟩ →
      IsDisk W (.agg #[.slice AU 3 cU, .slice BU 0 dU, .bool false, .int .i64 (-1)]) ⟨[s.z, s.ab, s.q], [], false, -1⟩ → IsDisk W (.agg #[.slice A 3 c, .slice B 2 d, .bool false, .int .i64 (-1)]) ⟨[s.z, s.ab, s.z], [(1, s.xyz), (2, s.q)], false, -1⟩ → Below w.heap.size w W →
      w.heap.size ≤ g9 → w.heap.size ≤ g10 →
      Q .normal (F (ptr g9) (ptr g10) x44 (.agg #[.slice AT 3 cT, .slice BT 0 dT, .bool false, .int .i64 (-1)]) x46 (.agg #[.slice AU 3 cU, .slice BU 0 dU, .bool false, .int .i64 (-1)])) W) :
    (Code.region 7 ops true).wp Try.prog Q (F undef undef undef undef undef undef) X := by
  obtain ⟨o0, o1, o2, o3, o4, o5, o6, o7, rfl, ⟨p0, d0, n0⟩, ⟨p1, d1, n1⟩, ⟨p2, d2, n2⟩, ⟨p3, d3, n3⟩, ⟨p4, d4, n4⟩, ⟨p5, d5, n5⟩, ⟨p6, d6, n6⟩, ⟨p7, d7, n7⟩⟩ := hops.is
  obtain ⟨vd, hvd⟩ : ∃ vd, vd = Value.agg #[.slice A 3 c, .slice B 2 d, .bool false, .int .i64 (-1)] := ⟨_, rfl⟩
  obtain ⟨D, hD⟩ : ∃ D : DK, D = ⟨[s.z, s.ab, s.z], [(1, s.xyz), (2, s.q)], false, -1⟩ := ⟨_, rfl⟩
  refine wp_region_any (by kernel_rfl) ?_
  refine wpAny_inv (fun listed a W => ∃ b0 b1 b2 b3 b4 b5 b6 b7 x9 x10 x44 x45 x46 x47 g9 g10, listed = #[b0, b1, b2, b3, b4, b5, b6, b7] ∧ a = F x9 x10 x44 x45 x46 x47 ∧ Mid F Bd vd D [s.z, s.xyz, s.z] [s.z, s.ab, s.q] w b0 b1 b2 b3 b4 b5 b6 b7 x9 x10 x44 x45 x46 x47 g9 g10 W) ?step ?fin ?sz _ _ _ _ (by simp) ?start
  case sz =>
    rintro listed a W ⟨b0, b1, b2, b3, b4, b5, b6, b7, _, _, _, _, _, _, _, _, rfl, _⟩
    rfl
  case start =>
    refine ⟨false, false, false, false, false, false, false, false, undef, undef, undef, undef, undef, undef, 0, 0, rfl, rfl, ?_⟩
    exact ⟨⟨_, _, _, _, hvd, hG⟩, by rw [hvd, hD]; exact hV, ⟨hB.os, hB.tape, hB.output, hB.size, hB.block⟩, hle, by simp, by simp, by simp, by simp, by simp, by simp, by simp, by simp, by simp, by simp, by simp, by simp, by simp⟩
  case fin =>
    rintro listed a W ⟨b0, b1, b2, b3, b4, b5, b6, b7, x9, x10, x44, x45, x46, x47, g9, g10, rfl, rfl, hm⟩ hr
    have hd := hops.done b0 b1 b2 b3 b4 b5 b6 b7
    rw [hr] at hd
    simp only [List.isEmpty_nil, Bool.not_true, Bool.false_or, Bool.and_eq_true] at hd
    obtain ⟨⟨⟨⟨⟨⟨⟨rfl, rfl⟩, rfl⟩, rfl⟩, rfl⟩, rfl⟩, rfl⟩, rfl⟩ := hd
    obtain ⟨AT, cT, BT, dT, rfl, hT⟩ := hm.h45 rfl
    obtain ⟨AU, cU, BU, dU, rfl, hU⟩ := hm.h47 rfl
    obtain ⟨_, _, _, _, e9, h9⟩ := hm.s9 rfl
    obtain ⟨_, _, _, _, e10, h10⟩ := hm.s10 rfl
    obtain ⟨_, _, _, _, eD, hGD⟩ := hm.box
    have hdk := hm.disk
    subst hvd
    subst hD
    simp only [Value.agg.injEq, Array.mk.injEq, List.cons.injEq, and_true] at e9 e10 eD
    obtain ⟨rfl, rfl, rfl, rfl⟩ := e9
    obtain ⟨rfl, rfl, rfl, rfl⟩ := e10
    obtain ⟨rfl, rfl, rfl, rfl⟩ := eD
    rw [(hm.h9 rfl).1, (hm.h10 rfl).1]
    exact hQ _ _ _ _ _ _ _ _ _ _ _ _ _ h9 h10 hGD hT hU hdk hm.below (hm.h9 rfl).2.2.1 (hm.h10 rfl).2.2.1
  case step =>
    rintro listed a W i ⟨b0, b1, b2, b3, b4, b5, b6, b7, x9, x10, x44, x45, x46, x47, g9, g10, rfl, rfl, hm⟩ hi
    have hn := List.all_eq_true.1 (hops.ready b0 b1 b2 b3 b4 b5 b6 b7) i hi
    clear hi
    match i, hn with
    | 0, _ =>
      refine wpOp_of (o := o0) rfl n0 ?_
      obtain ⟨u0, u1, u2, u3, ev, hb⟩ := hm.box
      refine op_load28 p0 (hF.ev1 ..) hb ?_
      rw [d0, hF.put44, ← ev]
      exact ⟨true, b1, b2, b3, b4, b5, b6, b7, _, _, _, _, _, _, g9, g10, rfl, rfl, { hm with h44 := fun _ => rfl }⟩
    | 2, _ =>
      refine wpOp_of (o := o2) rfl n2 ?_
      obtain ⟨u0, u1, u2, u3, ev, hb⟩ := hm.box
      refine op_load28 p2 (hF.ev1 ..) hb ?_
      rw [d2, hF.put46, ← ev]
      exact ⟨b0, b1, true, b3, b4, b5, b6, b7, _, _, _, _, _, _, g9, g10, rfl, rfl, { hm with h46 := fun _ => rfl }⟩
    | 1, hn =>
      simp only [need, Bool.and_eq_true, Bool.not_eq_true'] at hn
      obtain ⟨hb1, hb0⟩ := hn
      subst hb1
      refine wpOp_of (o := o1) rfl n1 ?_
      refine op_call p1 ?_
      rw [hF.ev44, hm.h44 hb0]
      refine (H.st1 vd W (by rw [← hD]; exact hm.disk)).mono ?_
      rintro e W' ⟨AT, cT, BT, dT, rfl, hT, hb⟩
      refine ⟨_, rfl, ?_⟩
      rw [d1, hF.put45]
      have hm' := hm.call hb
      exact ⟨b0, true, b2, b3, b4, b5, b6, b7, _, _, _, _, _, _, g9, g10, rfl, rfl, { hm' with h44 := fun _ => rfl, h45 := fun _ => ⟨AT, cT, BT, dT, rfl, hT⟩, s9 := fun e => absurd (hm.i6 e).1 (by simp), i6 := fun e => ⟨rfl, (hm.i6 e).2⟩ }⟩
    | 3, hn =>
      simp only [need, Bool.and_eq_true, Bool.not_eq_true'] at hn
      obtain ⟨hb3, hb2⟩ := hn
      subst hb3
      refine wpOp_of (o := o3) rfl n3 ?_
      refine op_call p3 ?_
      rw [hF.ev46, hm.h46 hb2]
      refine (H.st2 vd W (by rw [← hD]; exact hm.disk)).mono ?_
      rintro e W' ⟨AT, cT, BT, dT, rfl, hT, hb⟩
      refine ⟨_, rfl, ?_⟩
      rw [d3, hF.put47]
      have hm' := hm.call hb
      exact ⟨b0, b1, b2, true, b4, b5, b6, b7, _, _, _, _, _, _, g9, g10, rfl, rfl, { hm' with h46 := fun _ => rfl, h47 := fun _ => ⟨AT, cT, BT, dT, rfl, hT⟩, s10 := fun e => absurd (hm.i7 e).1 (by simp), i7 := fun e => ⟨rfl, (hm.i7 e).2⟩ }⟩
    | 4, hn =>
      simp only [need, Bool.not_eq_true'] at hn
      subst hn
      refine wpOp_of (o := o4) rfl n4 ?_
      refine op_alloc28 p4 ?_
      rw [d4, hF.put9]
      have hm' := hm.call ((Below.refl _ _).alloc (Nat.le_refl _) (.cells #[.slice none 0 0, .slice none 0 0, .bool false, .int .i64 0] 28))
      have hlt := hm.box.lt
      have hsz := hm.below.size
      exact ⟨b0, b1, b2, b3, true, b5, b6, b7, _, _, _, _, _, _, W.heap.size, g10, rfl, rfl, { hm' with h9 := fun _ => ⟨rfl, by omega, by omega, by simp⟩, apart := fun _ e => by have := (hm.h10 e).2.2.2; omega, z9 := fun _ _ => heap_alloc_new W _, s9 := fun e => absurd (hm.i6 e).2 (by simp), i6 := fun e => absurd (hm.i6 e).2 (by simp) }⟩
    | 5, hn =>
      simp only [need, Bool.not_eq_true'] at hn
      subst hn
      refine wpOp_of (o := o5) rfl n5 ?_
      refine op_alloc28 p5 ?_
      rw [d5, hF.put10]
      have hm' := hm.call ((Below.refl _ _).alloc (Nat.le_refl _) (.cells #[.slice none 0 0, .slice none 0 0, .bool false, .int .i64 0] 28))
      have hlt := hm.box.lt
      have hsz := hm.below.size
      exact ⟨b0, b1, b2, b3, b4, true, b6, b7, _, _, _, _, _, _, g9, W.heap.size, rfl, rfl, { hm' with h10 := fun _ => ⟨rfl, by omega, by omega, by simp⟩, apart := fun e _ => by have := (hm.h9 e).2.2.2; omega, z10 := fun _ _ => heap_alloc_new W _, s10 := fun e => absurd (hm.i7 e).2 (by simp), i7 := fun e => absurd (hm.i7 e).2 (by simp) }⟩
    | 6, hn =>
      simp only [need, Bool.and_eq_true, Bool.not_eq_true'] at hn
      obtain ⟨⟨⟨⟨hb6, hb1⟩, hb3⟩, hb4⟩, hb5⟩ := hn
      subst hb6 hb1 hb3 hb4 hb5
      refine wpOp_of (o := o6) rfl n6 ?_
      obtain ⟨AT, cT, BT, dT, rfl, hT⟩ := hm.h45 rfl
      obtain ⟨e9, ne9, le9, lt9⟩ := hm.h9 rfl
      obtain ⟨e10, ne10, le10, lt10⟩ := hm.h10 rfl
      have hz := hm.z9 rfl rfl
      refine op_store28 p6 (by rw [hF.ev9, e9]; rfl) (hF.ev45 ..) hz ?_
      intro W2 hg hk hbl
      rw [d6]
      have hsz : W.heap.size ≤ W2.heap.size := (hbl _ _ (Below.refl _ W) (Nat.zero_le _)).size
      refine ⟨b0, true, b2, true, true, true, true, b7, _, _, _, _, _, _, g9, g10, rfl, rfl, ?_⟩
      exact { box := hm.box.kept (hk _ (Ne.symm ne9)), disk := hm.disk.other hz (by decide) (by decide) hk, below := hbl _ _ hm.below le9, le := hm.le, h44 := hm.h44, h46 := hm.h46, h45 := fun e => (hm.h45 e).other hz hk, h47 := fun e => (hm.h47 e).other hz hk, h9 := fun _ => ⟨e9, ne9, le9, by omega⟩, h10 := fun _ => ⟨e10, ne10, le10, by omega⟩, apart := hm.apart, z9 := fun _ e => (by cases e), z10 := fun e e' => (hk _ (Ne.symm (hm.apart rfl rfl))).trans (hm.z10 e e'), s9 := fun _ => ⟨_, _, _, _, rfl, hg⟩, s10 := fun e => (hm.s10 e).kept (hk _ (Ne.symm (hm.apart rfl rfl))), i6 := fun _ => ⟨rfl, rfl⟩, i7 := hm.i7 }
    | 7, hn =>
      simp only [need, Bool.and_eq_true, Bool.not_eq_true'] at hn
      obtain ⟨⟨⟨⟨hb7, hb3⟩, hb4⟩, hb5⟩, hb6⟩ := hn
      subst hb7 hb3 hb4 hb5 hb6
      refine wpOp_of (o := o7) rfl n7 ?_
      obtain ⟨AT, cT, BT, dT, rfl, hT⟩ := hm.h47 rfl
      obtain ⟨e9, ne9, le9, lt9⟩ := hm.h9 rfl
      obtain ⟨e10, ne10, le10, lt10⟩ := hm.h10 rfl
      have hz := hm.z10 rfl rfl
      refine op_store28 p7 (by rw [hF.ev10, e10]; rfl) (hF.ev47 ..) hz ?_
      intro W2 hg hk hbl
      rw [d7]
      have hsz : W.heap.size ≤ W2.heap.size := (hbl _ _ (Below.refl _ W) (Nat.zero_le _)).size
      refine ⟨b0, b1, b2, true, true, true, true, true, _, _, _, _, _, _, g9, g10, rfl, rfl, ?_⟩
      exact { box := hm.box.kept (hk _ (Ne.symm ne10)), disk := hm.disk.other hz (by decide) (by decide) hk, below := hbl _ _ hm.below le10, le := hm.le, h44 := hm.h44, h46 := hm.h46, h45 := fun e => (hm.h45 e).other hz hk, h47 := fun e => (hm.h47 e).other hz hk, h9 := fun _ => ⟨e9, ne9, le9, by omega⟩, h10 := fun _ => ⟨e10, ne10, le10, by omega⟩, apart := hm.apart, z9 := fun _ e => (by cases e), z10 := fun _ e => (by cases e), s9 := fun e => (hm.s9 e).kept (hk _ (hm.apart rfl rfl)), s10 := fun _ => ⟨_, _, _, _, rfl, hg⟩, i6 := hm.i6, i7 := fun _ => ⟨rfl, rfl⟩ }
    | i + 8, hn => simp [need] at hn

end Go.Proofs.Ytnnbbkfdijionaa
