/- The law's own examples: awake answers true. No statement is proved here. -/
import Derived.Test.YtnnbbkfdijionaaTwo
import Derived.Deep.QuietTactic
import Derived.BigQuiet
import Derived.Lib.QuietBelow
namespace Go.Proofs.Ytnnbbkfdijionaa
open Go.RowKit

/-- A new box of four cells, its world and its number under names of their own. -/
theorem box_new (w1 : World) (v0 v1 v2 v3 : Value) : ∃ X Bd, w1.alloc (.cells #[v0, v1, v2, v3] 28) = X ∧ w1.heap.size = Bd ∧ X.heap[Bd]? = some (.cells #[v0, v1, v2, v3] 28 (0, 0)) ∧ Below w1.heap.size w1 X :=
  ⟨_, _, rfl, rfl, heap_alloc_new _ _, (Below.refl _ _).alloc (Nat.le_refl _) _⟩

/-- What stands in the boxes and in the sectors, at the end of the examples. -/
structure Aft (s : Secs) (Bd g9 g10 : Nat) (bT oT bU oU bW oW cT cU c d dT dU : Nat) (A BT BU : Option Addr) (W : World) : Prop where
  boxD : W.heap[Bd]? = some (.cells #[.slice A 3 c, .slice (some ⟨bW, oW, none⟩) 2 d, .bool false, .int .i64 (-1)] 28 (0, 0))
  boxT : W.heap[g9]? = some (.cells #[.slice (some ⟨bT, oT, none⟩) 3 cT, .slice BT 0 dT, .bool false, .int .i64 (-1)] 28 (0, 0))
  boxU : W.heap[g10]? = some (.cells #[.slice (some ⟨bU, oU, none⟩) 3 cU, .slice BU 0 dU, .bool false, .int .i64 (-1)] 28 (0, 0))
  vd : IsDisk W (.agg #[.slice A 3 c, .slice (some ⟨bW, oW, none⟩) 2 d, .bool false, .int .i64 (-1)]) ⟨[s.z, s.ab, s.z], [(1, s.xyz), (2, s.q)], false, -1⟩
  t1 : W.cell? ⟨bT, oT + 1, none⟩ = some (.string s.xyz)
  t2 : W.cell? ⟨bT, oT + 2, none⟩ = some (.string s.z)
  u1 : W.cell? ⟨bU, oU + 1, none⟩ = some (.string s.ab)
  u2 : W.cell? ⟨bU, oU + 2, none⟩ = some (.string s.q)
  w0 : W.cell? ⟨bW, oW, none⟩ = some (.int .i64 1)
  lT : bT < W.heap.size
  lU : bU < W.heap.size
  lW : bW < W.heap.size

theorem Aft.below {s : Secs} {Bd g9 g10 bT oT bU oU bW oW cT cU c d dT dU : Nat} {A BT BU : Option Addr} {W W' : World} (h : Aft s Bd g9 g10 bT oT bU oU bW oW cT cU c d dT dU A BT BU W) (hb : Below W.heap.size W W') : Aft s Bd g9 g10 bT oT bU oU bW oW cT cU c d dT dU A BT BU W' :=
  ⟨box_kept _ h.boxD hb, box_kept _ h.boxT hb, box_kept _ h.boxU hb, h.vd.below hb, (hb.cell (p := ⟨bT, oT + 1, none⟩) h.lT).trans h.t1, (hb.cell (p := ⟨bT, oT + 2, none⟩) h.lT).trans h.t2, (hb.cell (p := ⟨bU, oU + 1, none⟩) h.lU).trans h.u1, (hb.cell (p := ⟨bU, oU + 2, none⟩) h.lU).trans h.u2, (hb.cell (p := ⟨bW, oW, none⟩) h.lW).trans h.w0, by have := h.lT; have := hb.size; omega, by have := h.lU; have := hb.size; omega, by have := h.lW; have := hb.size; omega⟩

/-- The sectors of a disk of three, by their places. -/
theorem sure3 {W : World} {A B : Option Addr} {c m d : Nat} {b : Bool} {l : Int} {x y z : ByteArray} {wet : List Wt} (h : IsDisk W (.agg #[.slice A 3 c, .slice B m d, .bool b, .int .i64 l]) ⟨[x, y, z], wet, b, l⟩) :
    ∃ bk off, A = some ⟨bk, off, none⟩ ∧ bk < W.heap.size ∧ W.cell? ⟨bk, off + 1, none⟩ = some (.string y) ∧ W.cell? ⟨bk, off + 2, none⟩ = some (.string z) := by
  obtain ⟨vs, vw, e, ⟨A1, c1, e1, _, hr⟩, _⟩ := h
  simp only [Value.agg.injEq, Array.mk.injEq, List.cons.injEq] at e
  obtain ⟨e0, _⟩ := e
  rw [e1] at e0
  injection e0 with e2 e3 e4
  subst e2
  obtain ⟨bk, off, ea, hb, hc⟩ := hr.at_ (by simp)
  exact ⟨bk, off, ea, hb, hc 1 _ rfl, hc 2 _ rfl⟩

/-- The first sector that is to be something, by its place. -/
theorem wet2 {W : World} {A B : Option Addr} {c n d : Nat} {b : Bool} {l a : Int} {x : ByteArray} {o : Wt} {sure : List ByteArray} (h : IsDisk W (.agg #[.slice A n c, .slice B 2 d, .bool b, .int .i64 l]) ⟨sure, [(a, x), o], b, l⟩) :
    ∃ bk off, B = some ⟨bk, off, none⟩ ∧ bk < W.heap.size ∧ W.cell? ⟨bk, off, none⟩ = some (.int .i64 a) := by
  obtain ⟨vs, vw, e, _, ⟨A1, c1, e1, _, hr⟩⟩ := h
  simp only [Value.agg.injEq, Array.mk.injEq, List.cons.injEq] at e
  obtain ⟨_, e0, _⟩ := e
  rw [e1] at e0
  injection e0 with e2 e3 e4
  subst e2
  obtain ⟨bk, off, ea, hb, hc⟩ := hr.at_ (by simp)
  exact ⟨bk, off, ea, hb, hc 0 _ rfl⟩

set_option maxRecDepth 100000 in
set_option maxHeartbeats 4000000 in
theorem awake_calls (s : Secs) (H : Calls9 s) (w : World) : Calls Try.prog 9 #[] w fun e w' => e = .returned (.bool true) ∧ Below w.heap.size w w' := by
  go_enter Try.func9, Try.ntmps9
  go_upto_region 2 with (go_at_call 10; refine (H.new _).mono ?_; rintro e w1 ⟨A1, c1, B1, d1, rfl, hv, hb⟩; have HW1 := Lib.hid hv; have HWB1 := Lib.hid hb; clear hv hb)
  obtain ⟨X1, Bd, eX, eB, hG, hB⟩ := box_new w1 (.slice A1 3 c1) (.slice B1 0 d1) (.bool false) (.int .i64 (-1))
  rw [eX, eB]
  have hle : w.heap.size ≤ Bd := by rw [← eB]; exact HWB1.out.size
  have HV1 := Lib.hid (HW1.out.below hB)
  have HG1 := Lib.hid hG
  have HB1 := Lib.hid (below_trans' HWB1.out hB)
  clear eX eB hG hB HW1 HWB1
  generalize Value.tuple #[Value.agg #[Value.slice A1 3 c1, Value.slice B1 0 d1, Value.bool false, Value.int IntKind.i64 (-1)], Value.int IntKind.i64 0] = tu1
  generalize Value.agg #[Value.slice A1 3 c1, Value.slice B1 0 d1, Value.bool false, Value.int IntKind.i64 (-1)] = ag1
  obtain ⟨⟨p0, p1, p2, p3⟩, _⟩ := box4 HG1.out
  go_upto_region 3 with (go_at_call 22; refine (H.wr1 _ _ HV1.out).mono ?_; rintro e y2 ⟨A2, c2, B2, d2, rfl, hv, hb⟩; have hg := box_kept _ HG1.out hb; have HY2 := Lib.hid hv; have HYB2 := Lib.hid hb; have HYG2 := Lib.hid hg; obtain ⟨⟨q0, q1, q2, q3⟩, f0, f1, f2, f3⟩ := box4 hg; clear hv hb hg p0 p1 p2 p3)
  obtain ⟨X2, eX, hG, hK, hB⟩ := box_store4 HYG2.out (.slice A2 3 c2) (.slice B2 1 d2) (.bool false) (.int .i64 (-1))
  rw [eX]
  have HV2 := Lib.hid (HY2.out.other HYG2.out (by decide) (by decide) hK)
  have HG2 := Lib.hid hG
  have HB2 := Lib.hid (hB _ _ (below_trans' HB1.out HYB2.out) hle)
  clear eX hG hK hB HY2 HYB2 HYG2 q0 q1 q2 q3 f0 f1 f2 f3 HV1 HG1 HB1
  generalize Value.tuple #[Value.agg #[Value.slice A2 3 c2, Value.slice B2 1 d2, Value.bool false, Value.int IntKind.i64 (-1)], Value.int IntKind.i64 0] = tu2
  generalize Value.agg #[Value.slice A2 3 c2, Value.slice B2 1 d2, Value.bool false, Value.int IntKind.i64 (-1)] = ag2
  generalize Value.agg #[Value.slice A1 3 c1, Value.slice B1 0 d1, Value.bool false, Value.int IntKind.i64 (-1)] = al1
  obtain ⟨⟨p0, p1, p2, p3⟩, _⟩ := box4 HG2.out
  go_upto_region 4 with (go_at_call 19; refine (H.fl _ _ HV2.out).mono ?_; rintro e y3 ⟨A3, c3, B3, d3, rfl, hv, hb⟩; have hg := box_kept _ HG2.out hb; have HY3 := Lib.hid hv; have HYB3 := Lib.hid hb; have HYG3 := Lib.hid hg; obtain ⟨⟨q0, q1, q2, q3⟩, f0, f1, f2, f3⟩ := box4 hg; clear hv hb hg p0 p1 p2 p3)
  obtain ⟨X3, eX, hG, hK, hB⟩ := box_store4 HYG3.out (.slice A3 3 c3) (.slice B3 0 d3) (.bool false) (.int .i64 (-1))
  rw [eX]
  have HV3 := Lib.hid (HY3.out.other HYG3.out (by decide) (by decide) hK)
  have HG3 := Lib.hid hG
  have HB3 := Lib.hid (hB _ _ (below_trans' HB2.out HYB3.out) hle)
  clear eX hG hK hB HY3 HYB3 HYG3 q0 q1 q2 q3 f0 f1 f2 f3 HV2 HG2 HB2
  generalize Value.tuple #[Value.agg #[Value.slice A3 3 c3, Value.slice B3 0 d3, Value.bool false, Value.int IntKind.i64 (-1)], Value.int IntKind.i64 0] = tu3
  generalize Value.agg #[Value.slice A3 3 c3, Value.slice B3 0 d3, Value.bool false, Value.int IntKind.i64 (-1)] = ag3
  generalize Value.agg #[Value.slice A2 3 c2, Value.slice B2 1 d2, Value.bool false, Value.int IntKind.i64 (-1)] = al2
  obtain ⟨⟨p0, p1, p2, p3⟩, _⟩ := box4 HG3.out
  go_upto_region 5 with (go_at_call 22; refine (H.wr2 _ _ HV3.out).mono ?_; rintro e y4 ⟨A4, c4, B4, d4, rfl, hv, hb⟩; have hg := box_kept _ HG3.out hb; have HY4 := Lib.hid hv; have HYB4 := Lib.hid hb; have HYG4 := Lib.hid hg; obtain ⟨⟨q0, q1, q2, q3⟩, f0, f1, f2, f3⟩ := box4 hg; clear hv hb hg p0 p1 p2 p3)
  obtain ⟨X4, eX, hG, hK, hB⟩ := box_store4 HYG4.out (.slice A4 3 c4) (.slice B4 1 d4) (.bool false) (.int .i64 (-1))
  rw [eX]
  have HV4 := Lib.hid (HY4.out.other HYG4.out (by decide) (by decide) hK)
  have HG4 := Lib.hid hG
  have HB4 := Lib.hid (hB _ _ (below_trans' HB3.out HYB4.out) hle)
  clear eX hG hK hB HY4 HYB4 HYG4 q0 q1 q2 q3 f0 f1 f2 f3 HV3 HG3 HB3
  generalize Value.tuple #[Value.agg #[Value.slice A4 3 c4, Value.slice B4 1 d4, Value.bool false, Value.int IntKind.i64 (-1)], Value.int IntKind.i64 0] = tu4
  generalize Value.agg #[Value.slice A4 3 c4, Value.slice B4 1 d4, Value.bool false, Value.int IntKind.i64 (-1)] = ag4
  generalize Value.agg #[Value.slice A3 3 c3, Value.slice B3 0 d3, Value.bool false, Value.int IntKind.i64 (-1)] = al3
  obtain ⟨⟨p0, p1, p2, p3⟩, _⟩ := box4 HG4.out
  go_upto_region 6 with (go_at_call 22; refine (H.wr3 _ _ HV4.out).mono ?_; rintro e y5 ⟨A5, c5, B5, d5, rfl, hv, hb⟩; have hg := box_kept _ HG4.out hb; have HY5 := Lib.hid hv; have HYB5 := Lib.hid hb; have HYG5 := Lib.hid hg; obtain ⟨⟨q0, q1, q2, q3⟩, f0, f1, f2, f3⟩ := box4 hg; clear hv hb hg p0 p1 p2 p3)
  obtain ⟨X5, eX, hG, hK, hB⟩ := box_store4 HYG5.out (.slice A5 3 c5) (.slice B5 2 d5) (.bool false) (.int .i64 (-1))
  rw [eX]
  have HV5 := Lib.hid (HY5.out.other HYG5.out (by decide) (by decide) hK)
  have HG5 := Lib.hid hG
  have HB5 := Lib.hid (hB _ _ (below_trans' HB4.out HYB5.out) hle)
  clear eX hG hK hB HY5 HYB5 HYG5 q0 q1 q2 q3 f0 f1 f2 f3 HV4 HG4 HB4
  generalize Value.tuple #[Value.agg #[Value.slice A5 3 c5, Value.slice B5 2 d5, Value.bool false, Value.int IntKind.i64 (-1)], Value.int IntKind.i64 0] = tu5
  generalize Value.agg #[Value.slice A5 3 c5, Value.slice B5 2 d5, Value.bool false, Value.int IntKind.i64 (-1)] = ag5
  generalize Value.agg #[Value.slice A4 3 c4, Value.slice B4 1 d4, Value.bool false, Value.int IntKind.i64 (-1)] = al4
  obtain ⟨⟨p0, p1, p2, p3⟩, _⟩ := box4 HG5.out
  go_upto_region 7 with (go_at_call 23; refine (H.rd1 _ _ HV5.out).mono ?_; rintro e X6 ⟨rfl, hb⟩; have HW6 := Lib.hid hb; clear hb)
  have HV6 := Lib.hid (HV5.out.below HW6.out)
  have HG6 := Lib.hid (box_kept _ HG5.out HW6.out)
  have HB6 := Lib.hid (below_trans' HB5.out HW6.out)
  clear p0 p1 p2 p3 HV5 HG5 HB5 HW6
  obtain ⟨⟨p0, p1, p2, p3⟩, _⟩ := box4 HG6.out
  generalize Value.tuple #[Value.string s.xyz, Value.int IntKind.i64 0] = tu6
  generalize Value.agg #[Value.slice A5 3 c5, Value.slice B5 2 d5, Value.bool false, Value.int IntKind.i64 (-1)] = ag6
  clear p0 p1 p2 p3
  go_wp2_with fail
  refine two_starts (F := fun x9 x10 x44 x45 x46 x47 => { tmps := #[Value.bool false, Value.pointer (some ⟨Bd, 0, none⟩), Value.int IntKind.i64 0, Value.int IntKind.i64 0, Value.int IntKind.i64 0, Value.int IntKind.i64 0, Value.int IntKind.i64 0, Value.string s.xyz, Value.int IntKind.i64 0, x9, x10, undef, undef, undef, undef, tu1, tu1, ag1, Value.int IntKind.i64 0, tu2, al1, tu2, ag2, Value.int IntKind.i64 0, tu3, al2, tu3, ag3, Value.int IntKind.i64 0, tu4, al3, tu4, ag4, Value.int IntKind.i64 0, tu5, al4, tu5, ag5, Value.int IntKind.i64 0, tu6, ag6, tu6, Value.string s.xyz, Value.int IntKind.i64 0, x44, x45, x46, x47, undef, undef, undef, undef, undef, undef, undef, undef, undef, undef, undef, undef, undef, undef, undef, undef, undef, undef, undef, undef, undef, undef, undef, undef, undef, undef, undef, undef, undef, undef, undef, undef, undef, undef, undef, undef, undef, undef, undef, undef, undef, undef, undef, undef, undef, undef, undef, undef, undef, undef, undef, undef, undef, undef, undef, undef, undef, undef, undef, undef, undef, undef, undef, undef, undef, undef, undef, undef, undef, undef, undef, undef, undef, undef, undef, undef, undef, undef, undef, undef, undef, undef, undef, undef, undef, undef, undef, undef, undef, undef, undef, undef, undef, undef, undef, undef, undef, undef, undef, undef, undef, undef, undef, undef, undef, undef, undef, undef, undef, undef, undef], defers := [] }) ⟨fun _ _ _ _ _ _ _ => rfl, fun _ _ _ _ _ _ _ => rfl, fun _ _ _ _ _ _ _ => rfl, fun _ _ _ _ _ _ _ => rfl, fun _ _ _ _ _ _ _ => rfl, fun _ _ _ _ _ _ _ => rfl, fun _ _ _ _ _ _ => rfl, fun _ _ _ _ _ _ => rfl, fun _ _ _ _ _ _ => rfl, fun _ _ _ _ _ _ => rfl, fun _ _ _ _ _ _ => rfl, fun _ _ _ _ _ _ => rfl, fun _ _ _ _ _ _ => rfl⟩ H ⟨⟨_, _, _, _, _, _, _, _, rfl, ⟨rfl, rfl, rfl⟩, ⟨rfl, rfl, rfl⟩, ⟨rfl, rfl, rfl⟩, ⟨rfl, rfl, rfl⟩, ⟨rfl, rfl, rfl⟩, ⟨rfl, rfl, rfl⟩, ⟨rfl, rfl, rfl⟩, ⟨rfl, rfl, rfl⟩⟩, by decide +kernel, by decide +kernel⟩ w X6 HG6.out HV6.out HB6.out hle _ ?_
  clear HG6 HV6 HB6
  intro x44 x46 AT cT BT dT AU cU BU dU g9 g10 X7 hg9 hg10 hgD hT hU hD hB le9 le10
  dsimp only [ptr]
  obtain ⟨bT, oT, rfl, lT, t1, t2⟩ := sure3 hT
  obtain ⟨bU, oU, rfl, lU, u1, u2⟩ := sure3 hU
  obtain ⟨bW, oW, rfl, lW, w0⟩ := wet2 hD
  have hA : Aft s Bd g9 g10 bT oT bU oU bW oW cT cU c5 d5 dT dU A5 BT BU X7 := ⟨hgD, hg9, hg10, hD, t1, t2, u1, u2, w0, lT, lU, lW⟩
  have HB := Lib.hid hB
  clear hg9 hg10 hgD hT hU hD hB t1 t2 u1 u2 w0 lT lU lW
  obtain ⟨⟨p0, p1, p2, p3⟩, _⟩ := box4 hA.boxD
  go_wp2_with fail
  refine (H.rd3 _ _ hA.vd).mono ?_
  rintro e X8 ⟨rfl, hb⟩
  replace hA := hA.below hb
  replace HB := Lib.hid (below_trans' HB.out hb)
  clear p0 p1 p2 p3 hb
  obtain ⟨⟨p0, p1, p2, p3⟩, _⟩ := box4 hA.boxD
  go_wp2_with fail
  refine (H.arm _ _ hA.vd).mono ?_
  rintro e X9 ⟨A9, c9, B9, d9, rfl, hv9, hb⟩
  replace hA := hA.below hb
  replace HB := Lib.hid (below_trans' HB.out hb)
  clear p0 p1 p2 p3
  have HV9 := Lib.hid hv9
  clear hv9 hb
  go_wp2_with fail
  refine (H.wr4 _ _ HV9.out).mono ?_
  rintro e X10 ⟨A11, c11, B11, d11, rfl, hv, hb⟩
  replace hA := hA.below hb
  replace HB := Lib.hid (below_trans' HB.out hb)
  clear hv hb HV9
  go_upto_region 10 with (fail)
  obtain ⟨Y0, g13, eX, eB, hG, hb⟩ := box_new X10 (.slice A11 3 c11) (.slice B11 2 d11) (.bool true) (.int .i64 0)
  rw [eX, eB]
  replace hA := hA.below hb
  replace HB := Lib.hid (below_trans' HB.out hb)
  have HG13 := Lib.hid hG
  clear eX eB hG hb
  obtain ⟨⟨p0, p1, p2, p3⟩, _⟩ := box4 hA.boxD
  obtain ⟨⟨q0, q1, q2, q3⟩, _⟩ := box4 hA.boxT
  obtain ⟨⟨r0, r1, r2, r3⟩, _⟩ := box4 hA.boxU
  have k1 := hA.t1
  have k2 := hA.t2
  have k3 := hA.u1
  have k4 := hA.u2
  have k5 := hA.w0
  obtain ⟨⟨_, _, s2, _⟩, _⟩ := box4 HG13.out
  go_upto_region 12 with (fail)
  have p0' := fun d os => cell_regrown p0 d os
  have p1' := fun d os => cell_regrown p1 d os
  have q0' := fun d os => cell_regrown q0 d os
  have q3' := fun d os => cell_regrown q3 d os
  have r0' := fun d os => cell_regrown r0 d os
  have s2' := fun d os => cell_regrown s2 d os
  have k1' := fun d os => cell_regrown k1 d os
  have k2' := fun d os => cell_regrown k2 d os
  have k3' := fun d os => cell_regrown k3 d os
  have k4' := fun d os => cell_regrown k4 d os
  have k5' := fun d os => cell_regrown k5 d os
  have cX : ∀ d os, _ := fun d os => Calls.regrown_of (w := Y0) (d := d) (os := os) (H.fxyz _)
  have cZ : ∀ d os, _ := fun d os => Calls.regrown_of (w := Y0) (d := d) (os := os) (H.f0 _)
  have cA : ∀ d os, _ := fun d os => Calls.regrown_of (w := Y0) (d := d) (os := os) (H.fab _)
  have cQ : ∀ d os, _ := fun d os => Calls.regrown_of (w := Y0) (d := d) (os := os) (H.fq _)
  have CX := Lib.hid cX
  have CZ := Lib.hid cZ
  have CA := Lib.hid cA
  have CQ := Lib.hid cQ
  clear p0 p1 q0 q3 r0 s2 k1 k2 k3 k4 k5 p2 p3 q1 q2 r1 r2 r3 cX cZ cA cQ
  refine wp_region_quiet_below (by kernel_rfl) (by kernel_rfl) ?_
  simp only [List.append_eq, List.cons_append, List.nil_append]
  repeat (first | go_big_quiet_step (first | (with_reducible exact CX.out _ _) | (with_reducible exact CZ.out _ _) | (with_reducible exact CA.out _ _) | (with_reducible exact CQ.out _ _)) | quiet_step (first | (with_reducible exact CX.out _ _) | (with_reducible exact CZ.out _ _) | (with_reducible exact CA.out _ _) | (with_reducible exact CQ.out _ _)))
  refine wpQuiet_nil ?_
  intro _ hw'
  obtain ⟨⟨dq, osq⟩, hw''⟩ := hw'
  subst hw''
  go_wp2_with fail
  go_ret
  exact ⟨rfl, below_trans' HB.out (below_regrown Y0 dq osq)⟩

/-- The law's own examples answer true. -/
theorem awake_true (w : World) : Calls Try.prog 9 #[] w fun e w' => e = .returned (.bool true) ∧ Below w.heap.size w w' := awake_calls _ calls9 w
end Go.Proofs.Ytnnbbkfdijionaa
