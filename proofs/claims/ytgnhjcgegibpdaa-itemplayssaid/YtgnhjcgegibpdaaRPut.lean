/- The document's Put: what the call does. No statement is proved here. -/
import Derived.Test.YtgnhjcgegibpdaaROrd
import Derived.Test.YtgnhjcgegibpdaaAwake
import Derived.Deep.RegionHeld3
import Derived.OwnWalk
namespace Go.Proofs.Ytgnhjcgegibpdaa
open Go.RowKit
open Go.Sort (grow)

/-- Items behind items of the call's own, wherever they come from. -/
theorem app_its (W : World) (B : Nat) (v : Value) (l news : List It) (ao : Option Addr) (m c : Nat) (hO : Own B W v l) (hm : news.length = m) (hnone : ao = none → m = 0 ∧ c = 0)
    (hsrc : ∀ ad, ao = some ad → ∀ j u, (itsC news)[j]? = some u → W.cell? (ad.add j) = some u) (hlen : l.length + m ≤ 10000) (hB : B ≤ W.heap.size) :
    ∃ v' W', (Builtin.append_ #[22, 22] 22 #[v, .slice ao m c]).run Try.prog W = .ok v' W' ∧ Own B W' v' (l ++ news) ∧ Below B W W' ∧
      (∀ g, g < W.heap.size → v.ownBlock ≠ some g → W'.heap[g]? = W.heap[g]?) ∧ (∀ g, g < W.heap.size → v.ownBlock ≠ some g → v'.ownBlock ≠ some g) := by
  obtain ⟨i1, hi, hz0, hz1, hz2⟩ := info_parts info24
  cases ao with
  | none =>
    obtain ⟨rfl, rfl⟩ := hnone rfl
    obtain rfl : news = [] := List.eq_nil_of_length_eq_zero hm
    refine ⟨v, W, run_append_owned_none W B 22 22 24 i1 7 Try.underlying22 hi v l.length (itsC l) hO, by rw [List.append_nil]; exact hO, Below.refl _ _, fun _ _ _ => rfl, fun _ _ h => h⟩
  | some ad =>
    obtain ⟨v', W', h1, h2, h3, _, h5⟩ := run_append_own_at (P := Try.prog) W B 22 22 24 i1 _ 7 88 Try.underlying22 hi hz0 hz1 hz2 (by rfl) (by omega) v l.length (itsC l) hO ad m c (itsC news) (by rw [itsC_len, hm]) (hsrc ad rfl) (itsC_oneCell news) (Nat.le_trans (show l.length + m ≤ 1000000 by omega) (by decide)) (by omega) hB
    refine ⟨v', W', h1, ?_, (Below.refl B W).grown h3 hB hO.ge, fun g hg hne => h3.block g hg (fun e => hne e.symm), fun g hg hne e => ?_⟩
    · unfold Own
      rw [itsC_append, List.length_append, hm]
      exact h2
    · rcases h5 with h5 | h5
      · exact hne (h5.symm.trans e)
      · rw [h5] at e
        injection e with e
        omega

theorem step_app_is {P : Program} {ops : Array Oper} {o : Oper} {a : Act} {w : World} {K : Act → World → Prop} {Q : Exit → Act → World → Prop} {E : Prop}
    (hg : o.guard = none) (d x : Operand) (dT sT : TypeId) (hop : o.op = Op.call { callee := Callee.builtin Builtin.append, args := #[d, x], argTypes := #[dT, sT] })
    (v u : Value) (hd : a.eval d = v) (hx : a.eval x = u) {v' : Value} {w' : World} (hr : (Builtin.append_ #[dT, sT] o.type #[v, u]).run P w = .ok v' w') (hK : K (a.put o.dst v') w') :
    if Region.wanted o (yielded ops a.tmps) = true then Oper.wp P o a w K Q else E := by
  have hw : Region.wanted o (yielded ops a.tmps) = true := by simp [Region.wanted, hg]
  rw [if_pos hw]
  unfold Oper.wp
  simp [execOp, hop, resolve, invoke, builtin, hd, hx, hr, Result.andThen]
  exact hK

theorem own_empty (W : World) (B : Nat) (h : B ≤ W.heap.size) : Own B (W.alloc (.cells #[] 24)) (.slice (some ⟨W.heap.size, 0, none⟩) 0 0) [] :=
  ⟨rfl, .inr ⟨W.heap.size, 0, #[], rfl, h, heap_alloc_new W _, Nat.le_refl _, by decide, rfl, rfl⟩⟩

/-- The items m, cut at k, lie where a slice points, in every world that leaves what is below B. -/
structure Cut2 (W0 : World) (B k n : Nat) (m : List It) (a1 : Option Addr) (c1 : Nat) (a2 : Option Addr) (c2 : Nat) : Prop where
  n1 : a1 = none → k = 0 ∧ c1 = 0
  n2 : a2 = none → n - k = 0 ∧ c2 = 0
  s1 : ∀ W, Below B W0 W → ∀ ad, a1 = some ad → ∀ j u, (itsC (m.take k))[j]? = some u → W.cell? (ad.add j) = some u
  s2 : ∀ W, Below B W0 W → ∀ ad, a2 = some ad → ∀ j u, (itsC (m.drop k))[j]? = some u → W.cell? (ad.add j) = some u

/-- The three appends one behind the other: into v0; behind it x, which lies in block bx; then the rest. -/
theorem three (W0 W : World) (B k n : Nat) (m : List It) (x : It) (a1 : Option Addr) (c1 : Nat) (a2 : Option Addr) (c2 : Nat) (hC : Cut2 W0 B k n m a1 c1 a2 c2) (hn : m.length = n) (hk : k ≤ n) (hl : n ≤ 1000) (v0 : Value) (hO : Own B W v0 []) (hB : Below B W0 W) (hBs : B ≤ W.heap.size) (bx : Nat) (hx : Box W bx x) (hbx : v0.ownBlock ≠ some bx) :
    ∃ v1 W1, (Builtin.append_ #[22, 22] 22 #[v0, .slice a1 k c1]).run Try.prog W = .ok v1 W1 ∧
    ∃ v2 W2, (Builtin.append_ #[22, 22] 22 #[v1, .slice (some ⟨bx, 0, none⟩) 1 1]).run Try.prog W1 = .ok v2 W2 ∧
    ∃ v3 W3, (Builtin.append_ #[22, 22] 22 #[v2, .slice a2 (n - k) c2]).run Try.prog W2 = .ok v3 W3 ∧ Own B W3 v3 (m.take k ++ x :: m.drop k) ∧ Below B W0 W1 ∧ Below B W0 W2 ∧ Below B W0 W3 := by
  obtain ⟨v1, W1, r1, o1, b1, g1, p1⟩ := app_its W B v0 [] (m.take k) a1 k c1 hO (by simp; omega) hC.n1 (hC.s1 W hB) (by simp; omega) hBs
  rw [List.nil_append] at o1
  have hbl := (Array.getElem?_eq_some_iff.1 hx).1
  have hx1 : Box W1 bx x := (g1 bx hbl hbx).trans hx
  have hB1 := hB.trans b1
  obtain ⟨v2, W2, r2, o2, b2, _, _⟩ := app_its W1 B v1 (m.take k) [x] (some ⟨bx, 0, none⟩) 1 1 o1 rfl (fun h => by cases h) (fun ad e => by
    injection e with e
    rw [← e, itsC_one]
    intro j u hj
    rw [Addr.add_lit, Nat.zero_add, cell_of_row _ _ _ _ _ _ hx1, ← hj]
    exact List.getElem?_toArray) (by simp; omega) (Nat.le_trans hBs b1.size)
  have hB2 := hB1.trans b2
  obtain ⟨v3, W3, r3, o3, b3, _, _⟩ := app_its W2 B v2 (m.take k ++ [x]) (m.drop k) a2 (n - k) c2 o2 (by simp; omega) hC.n2 (hC.s2 W2 hB2) (by simp; omega) (Nat.le_trans hBs (Nat.le_trans b1.size b2.size))
  refine ⟨v1, W1, r1, v2, W2, r2, v3, W3, r3, ?_, hB1, hB2, hB2.trans b3⟩
  rw [List.append_assoc] at o3
  exact o3

/-- The same, x laid behind the first. -/
theorem threeA (W0 W : World) (B k n : Nat) (m : List It) (x : It) (a1 : Option Addr) (c1 : Nat) (a2 : Option Addr) (c2 : Nat) (hC : Cut2 W0 B k n m a1 c1 a2 c2) (hn : m.length = n) (hk : k ≤ n) (hl : n ≤ 1000) (v0 : Value) (hO : Own B W v0 []) (hB : Below B W0 W) (hBs : B ≤ W.heap.size) :
    ∃ v1 W1, (Builtin.append_ #[22, 22] 22 #[v0, .slice a1 k c1]).run Try.prog W = .ok v1 W1 ∧
    ∃ v2 W2, (Builtin.append_ #[22, 22] 22 #[v1, .slice (some ⟨W1.heap.size, 0, none⟩) 1 1]).run Try.prog (W1.alloc (.cells #[.string (strB x.key), .int .i64 x.seq, .int .i64 x.ver, .bool x.mark, .string (strB x.mt), .string (strB x.tag), .string (strB x.body)] 24)) = .ok v2 W2 ∧
    ∃ v3 W3, (Builtin.append_ #[22, 22] 22 #[v2, .slice a2 (n - k) c2]).run Try.prog W2 = .ok v3 W3 ∧ Own B W3 v3 (m.take k ++ x :: m.drop k) ∧ Below B W0 W1 ∧ Below B W0 W2 ∧ Below B W0 W3 := by
  obtain ⟨v1, W1, r1, o1, b1, g1, p1⟩ := app_its W B v0 [] (m.take k) a1 k c1 hO (by simp; omega) hC.n1 (hC.s1 W hB) (by simp; omega) hBs
  rw [List.nil_append] at o1
  have hB1 := hB.trans b1
  have hs1 := Nat.le_trans hBs b1.size
  obtain ⟨v2, W2, r2, o2, b2, _, _⟩ := app_its (W1.alloc (.cells #[.string (strB x.key), .int .i64 x.seq, .int .i64 x.ver, .bool x.mark, .string (strB x.mt), .string (strB x.tag), .string (strB x.body)] 24)) B v1 (m.take k) [x] (some ⟨W1.heap.size, 0, none⟩) 1 1 (o1.below (below_one _ _)) rfl (fun h => by cases h) (fun ad e => by
    injection e with e
    rw [← e, itsC_one]
    exact news7 x rfl) (by simp; omega) (by simp; omega)
  have hB2 := (hB1.alloc hs1 _).trans b2
  have hs2 : B ≤ W2.heap.size := Nat.le_trans (by simp; omega) b2.size
  obtain ⟨v3, W3, r3, o3, b3, _, _⟩ := app_its W2 B v2 (m.take k ++ [x]) (m.drop k) a2 (n - k) c2 o2 (by simp; omega) hC.n2 (hC.s2 W2 hB2) (by simp; omega) hs2
  refine ⟨v1, W1, r1, v2, W2, r2, v3, W3, r3, ?_, hB1, hB2, hB2.trans b3⟩
  rw [List.append_assoc] at o3
  exact o3

/-- A slice of the call's own, cut at k. -/
theorem keepx {w2 W : World} {g : Nat} {x : It} (h : Box w2 g x) (hb : Below w2.heap.size w2.drew W) : W.cell? ⟨g, 0, none⟩ = some (.string (strB x.key)) ∧ W.cell? ⟨g, 1, none⟩ = some (.int .i64 x.seq) ∧ W.cell? ⟨g, 2, none⟩ = some (.int .i64 x.ver) ∧ W.cell? ⟨g, 3, none⟩ = some (.bool x.mark) ∧ W.cell? ⟨g, 4, none⟩ = some (.string (strB x.mt)) ∧ W.cell? ⟨g, 5, none⟩ = some (.string (strB x.tag)) ∧ W.cell? ⟨g, 6, none⟩ = some (.string (strB x.body)) :=
  box7 (Box.below (w := w2.drew) h hb)
theorem cut2_of {B1 k n c : Nat} {w : World} {A : Option Addr} {m : List It} (hO : Own B1 w (.slice A n c) m) (hn : m.length = n) (hk : k ≤ n) :
    Cut2 w.drew w.heap.size k n m A c (if c = k then A else A.map (fun x => x.add (k * 7))) (c - k) := by
  rcases id hO.2 with ⟨hv, h0⟩ | ⟨g, cap, cur, hv, _, hg, hnc, _⟩
  · injection hv with e1 e2 e3
    subst e1 e2 e3
    obtain rfl : k = 0 := by omega
    exact ⟨fun _ => ⟨rfl, rfl⟩, fun _ => ⟨rfl, rfl⟩, fun _ _ ad e => (by cases e), fun _ _ ad e => (by simp at e)⟩
  · injection hv with e1 e2 e3
    subst e1
    have hgl := (Array.getElem?_eq_some_iff.1 hg).1
    have hall : ∀ W, Below w.heap.size w.drew W → ∀ j u, (itsC m)[j]? = some u → W.cell? ⟨g, j, none⟩ = some u := fun W hW j u hj => by
      have h1 := World.ownsRow.cells hO (g := g) rfl j u hj
      rw [Addr.add_lit, Nat.zero_add] at h1
      rw [hW.cell (p := ⟨g, j, none⟩) hgl]
      exact h1
    refine ⟨fun h => (by cases h), fun h => (by split at h <;> cases h), fun W hW ad e j u hj => ?_, fun W hW ad e j u hj => ?_⟩
    · injection e with e
      rw [← e, Addr.add_lit, Nat.zero_add]
      rw [← itsC_take, List.getElem?_take] at hj
      split at hj
      · exact hall W hW j u hj
      · cases hj
    · by_cases hck : c = k
      · rw [List.drop_of_length_le (by rw [hn]; omega)] at hj
        simp [itsC] at hj
      · rw [if_neg hck] at e
        simp only [Option.map_some] at e
        injection e with e
        rw [← e, Addr.add_lit, Addr.add_lit, Nat.zero_add]
        rw [← itsC_drop, List.getElem?_drop] at hj
        exact hall W hW _ u hj

set_option maxRecDepth 100000 in
set_option maxHeartbeats 16000000 in
theorem rput_calls (v : Value) (l : List It) (x : It) (w : World) (hv : Its w v l) (hlen : l.length ≤ 1000) :
    Calls Try.prog 19 #[v, itV x] w fun e w' => ∃ v', e = .returned v' ∧ Own w.heap.size w' v' (putL x l) ∧ Below w.heap.size w w' := by
  have hb := below_one w (.cells #[.string (strB x.key), .int .i64 x.seq, .int .i64 x.ver, .bool x.mark, .string (strB x.mt), .string (strB x.tag), .string (strB x.body)] 24)
  have HD := Lib.hid (rdrop_calls v l x.key x.seq _ (hv.below hb) hlen)
  have HB := Lib.hid hb
  obtain ⟨A0, c0, rfl⟩ := hv.form
  clear hv hb
  unfold itV putL
  have hdl := List.length_filter_le (stays x.key x.seq) l
  obtain ⟨m, hm⟩ : ∃ m, m = dropL x.key x.seq l := ⟨_, rfl⟩
  rw [← hm] at HD ⊢
  rw [show l.filter (stays x.key x.seq) = m from hm.symm] at hdl
  clear hm
  go_enter Try.func19, Try.ntmps19
  go_wp2_with fail
  with_reducible refine HD.out.mono ?_
  rintro e w1 ⟨v1, rfl, hO1, hB1⟩
  have HX := Lib.hid (Box.below (x := x) (g := w.heap.size) (heap_alloc_new w _) hB1)
  have HO1 := Lib.hid hO1
  have HB1 := Lib.hid (below_trans' HB.out hB1)
  obtain ⟨A, c, rfl⟩ := hO1.its.form
  obtain ⟨n, hn⟩ : ∃ n, n = m.length := ⟨_, rfl⟩
  rw [← hn] at HO1 hdl ⊢
  have HN := Lib.hid hn
  clear hO1 hB1 HD HB hn
  go_wp2_with fail
  go_loopw [5] (fun u5 wr => ∃ k : Nat, k ≤ n ∧ u5 = .int .i64 k ∧ Hid (∀ q y, q < k → m[q]? = some y → (!less y x) = false) ∧ Below w1.heap.size w1 wr) (fun u _ => n - (intOf u).toNat)
  case atStart => exact ⟨0, Nat.zero_le _, rfl, Lib.hid (fun q y hq => absurd hq (by omega)), Below.refl _ _⟩
  case round =>
    obtain ⟨k, hk, rfl, HLOW, hbr⟩ := hrel
    have HBR := Lib.hid hbr
    have hxr := HX.out.below hbr
    have qs := fun d os => hxr.regrown d os
    have q0 := fun d os => (qs d os).1
    have q1 := fun d os => (qs d os).2.1
    have q2 := fun d os => (qs d os).2.2.1
    have q3 := fun d os => (qs d os).2.2.2.1
    have q4 := fun d os => (qs d os).2.2.2.2.1
    have q5 := fun d os => (qs d os).2.2.2.2.2.1
    have q6 := fun d os => (qs d os).2.2.2.2.2.2
    clear hbr hxr qs
    by_cases hlt : k < n
    · obtain ⟨y, hy⟩ : ∃ y, m[k]? = some y := ⟨_, List.getElem?_eq_getElem (by have := HN.out; omega)⟩
      obtain ⟨b, off, rfl, hbl, hcell⟩ := HO1.out.its.at_.2.2 (by omega)
      have hAp := (hcell k y hy).below hbl HBR.out
      have p0 := fun d os => (hAp.regrown d os).c0
      have p1 := fun d os => (hAp.regrown d os).c1
      have p2 := fun d os => (hAp.regrown d os).c2
      have p3 := fun d os => (hAp.regrown d os).c3
      have p4 := fun d os => (hAp.regrown d os).c4
      have p5 := fun d os => (hAp.regrown d os).c5
      have p6 := fun d os => (hAp.regrown d os).c6
      have hcL := rless_calls y x
      unfold itV at hcL
      have CL : Hid (∀ d os, _) := Lib.hid (fun d os => Calls.regrown_of (w := wr) (d := d) (os := os) (hcL _))
      have hk1 : (0 : Int) ≤ (k : Int) := by omega
      have hk2 : (k : Int) < (n : Int) := by omega
      have HY := Lib.hid hy
      clear hcell hAp hcL hy
      cases hl : less y x with
      | true =>
        rw [hl] at CL
        have HF : Hid (∀ q z, q < k + 1 → m[q]? = some z → (!less z x) = false) := Lib.hid fun q z hq hz => by
          by_cases e : q = k
          · subst e
            rw [HY.out] at hz
            injection hz with hz
            rw [← hz, hl]
            rfl
          · exact HLOW.out q z (by omega) hz
        go_wp2_with fail
        refine wp_region_quiet_below (by kernel_rfl) (by kernel_rfl) ?_
        (try simp only [List.append_eq, List.cons_append, List.nil_append])
        repeat (first | go_big_quiet_step (with_reducible exact CL.out _ _) | quiet_step (with_reducible exact CL.out _ _))
        refine wpQuiet_nil ?_
        intro w2 hw'
        obtain ⟨⟨dq, osq⟩, hw''⟩ := hw'
        have hb2 := below_regrown wr dq osq
        rw [← hw''] at hb2
        clear hw''
        go_wp2_with fail
        exact ⟨⟨k + 1, by omega, by go_num, HF, Below.trans HBR.out (hb2.mono HBR.out.size)⟩, by simp [intOf]; omega⟩
      | false =>
        rw [hl] at CL
        have hins : insL x m = m.take k ++ x :: m.drop k := ins_at HLOW.out (fun z hz => by
          rw [HY.out] at hz
          injection hz with hz
          rw [← hz, hl]
          rfl) (by have := HN.out; omega)
        go_wp2_with fail
        refine wp_region_quiet_below (by kernel_rfl) (by kernel_rfl) ?_
        (try simp only [List.append_eq, List.cons_append, List.nil_append])
        repeat (first | go_big_quiet_step (with_reducible exact CL.out _ _) | quiet_step (with_reducible exact CL.out _ _))
        refine wpQuiet_nil ?_
        intro w2 hw'
        obtain ⟨⟨dq, osq⟩, hw''⟩ := hw'
        have hb2 := below_regrown wr dq osq
        rw [← hw''] at hb2
        clear hw''
        clear p0 p1 p2 p3 p4 p5 p6
        have HW2 := Lib.hid (Below.trans HBR.out (hb2.mono HBR.out.size))
        have HX2 := Lib.hid (HX.out.below HW2.out)
        have hO2 := HO1.out.below HW2.out
        have hC := cut2_of hO2 HN.out.symm hk
        have HBW := Lib.hid (below_trans' HB1.out HW2.out)
        have hm' : m.length = n := HN.out.symm
        obtain ⟨vA1, WA1, rA1, vA2, WA2, rA2, vA3, WA3, rA3, oA, bA1, bA2, bA3⟩ := threeA w2.drew (w2.drew.alloc (.cells #[] 24)) w2.heap.size k n m x _ _ _ _ hC hm' hk (by omega) _ (own_empty w2.drew _ (Nat.le_refl _)) (below_one w2.drew _) (by simp)
        obtain ⟨vB1, WB1, rB1, vB2, WB2, rB2, vB3, WB3, rB3, oB, bB1, bB2, bB3⟩ := three w2.drew ((w2.drew.alloc (.cells #[] 24)).alloc (.cells #[.string (strB x.key), .int .i64 x.seq, .int .i64 x.ver, .bool x.mark, .string (strB x.mt), .string (strB x.tag), .string (strB x.body)] 24)) w2.heap.size k n m x _ _ _ _ hC hm' hk (by omega) _ ((own_empty w2.drew _ (Nat.le_refl _)).below (below_one _ _)) (below_two w2.drew _ _) (by simp; omega) (w2.heap.size + 1) (by have h := heap_alloc_new (w2.drew.alloc (.cells #[] 24)) (.cells #[.string (strB x.key), .int .i64 x.seq, .int .i64 x.ver, .bool x.mark, .string (strB x.mt), .string (strB x.tag), .string (strB x.body)] 24); rw [World.size_alloc] at h; exact h) (by simp [Value.ownBlock])
        obtain ⟨vC1, WC1, rC1, vC2, WC2, rC2, vC3, WC3, rC3, oC, bC1, bC2, bC3⟩ := three w2.drew ((w2.drew.alloc (.cells #[.string (strB x.key), .int .i64 x.seq, .int .i64 x.ver, .bool x.mark, .string (strB x.mt), .string (strB x.tag), .string (strB x.body)] 24)).alloc (.cells #[] 24)) w2.heap.size k n m x _ _ _ _ hC hm' hk (by omega) (.slice (some ⟨w2.heap.size + 1, 0, none⟩) 0 0) (by have h := own_empty (w2.drew.alloc (.cells #[.string (strB x.key), .int .i64 x.seq, .int .i64 x.ver, .bool x.mark, .string (strB x.mt), .string (strB x.tag), .string (strB x.body)] 24)) w2.heap.size (by simp); rw [World.size_alloc] at h; exact h) (below_two w2.drew _ _) (by simp; omega) w2.heap.size (Box.below (heap_alloc_new w2.drew _) (below_one _ _)) (by simp [Value.ownBlock])
        change (Builtin.append_ #[22, 22] 22 #[.slice (some ⟨w2.heap.size, 0, none⟩) 0 0, .slice _ k c]).run Try.prog (w2.alloc (.cells #[] 24)).drew = _ at rA1
        change (Builtin.append_ #[22, 22] 22 #[.slice (some ⟨w2.heap.size, 0, none⟩) 0 0, .slice _ k c]).run Try.prog ((w2.alloc (.cells #[] 24)).alloc (.cells #[.string (strB x.key), .int .i64 x.seq, .int .i64 x.ver, .bool x.mark, .string (strB x.mt), .string (strB x.tag), .string (strB x.body)] 24)).drew = _ at rB1
        change (Builtin.append_ #[22, 22] 22 #[.slice (some ⟨w2.heap.size + 1, 0, none⟩) 0 0, .slice _ k c]).run Try.prog ((w2.alloc (.cells #[.string (strB x.key), .int .i64 x.seq, .int .i64 x.ver, .bool x.mark, .string (strB x.mt), .string (strB x.tag), .string (strB x.body)] 24)).alloc (.cells #[] 24)).drew = _ at rC1
        have K0 : Hid (Below w2.heap.size w2.drew (w2.alloc (.cells #[] 24)).drew) := Lib.hid (below_one w2.drew _)
        have K1 : Hid (Below w2.heap.size w2.drew (w2.alloc (.cells #[.string (strB x.key), .int .i64 x.seq, .int .i64 x.ver, .bool x.mark, .string (strB x.mt), .string (strB x.tag), .string (strB x.body)] 24)).drew) := Lib.hid (below_one w2.drew _)
        have K2 : Hid (Below w2.heap.size w2.drew ((w2.alloc (.cells #[] 24)).alloc (.cells #[.string (strB x.key), .int .i64 x.seq, .int .i64 x.ver, .bool x.mark, .string (strB x.mt), .string (strB x.tag), .string (strB x.body)] 24)).drew) := Lib.hid (below_two w2.drew _ _)
        have K3 : Hid (Below w2.heap.size w2.drew ((w2.alloc (.cells #[.string (strB x.key), .int .i64 x.seq, .int .i64 x.ver, .bool x.mark, .string (strB x.mt), .string (strB x.tag), .string (strB x.body)] 24)).alloc (.cells #[] 24)).drew) := Lib.hid (below_two w2.drew _ _)
        have HE := Lib.hid hins
        have OA := Lib.hid oA
        have OB := Lib.hid oB
        have OC := Lib.hid oC
        have BA1 := Lib.hid bA1
        have BA2 := Lib.hid bA2
        have BA3 := Lib.hid bA3
        have BB1 := Lib.hid bB1
        have BB2 := Lib.hid bB2
        have BB3 := Lib.hid bB3
        have BC1 := Lib.hid bC1
        have BC2 := Lib.hid bC2
        have BC3 := Lib.hid bC3
        have FA : Hid (Own w.heap.size WA3 vA3 (insL x m) ∧ Below w.heap.size w WA3) := Lib.hid ⟨by rw [HE.out]; exact OA.out.mono HBW.out.size, HBW.out.trans (show Below w.heap.size w2 WA3 from ⟨BA3.out.os, BA3.out.tape, BA3.out.output, BA3.out.size, fun k hk => BA3.out.block k (Nat.lt_of_lt_of_le hk HBW.out.size)⟩)⟩
        have FB : Hid (Own w.heap.size WB3 vB3 (insL x m) ∧ Below w.heap.size w WB3) := Lib.hid ⟨by rw [HE.out]; exact OB.out.mono HBW.out.size, HBW.out.trans (show Below w.heap.size w2 WB3 from ⟨BB3.out.os, BB3.out.tape, BB3.out.output, BB3.out.size, fun k hk => BB3.out.block k (Nat.lt_of_lt_of_le hk HBW.out.size)⟩)⟩
        have FC : Hid (Own w.heap.size WC3 vC3 (insL x m) ∧ Below w.heap.size w WC3) := Lib.hid ⟨by rw [HE.out]; exact OC.out.mono HBW.out.size, HBW.out.trans (show Below w.heap.size w2 WC3 from ⟨BC3.out.os, BC3.out.tape, BC3.out.output, BC3.out.size, fun k hk => BC3.out.block k (Nat.lt_of_lt_of_le hk HBW.out.size)⟩)⟩
        have hnc : n ≤ c := HO1.out.its.at_.2.1
        have f1 : (k : Int) ≤ (c : Int) := by omega
        have f2 : (k : Int) ≤ (n : Int) := by omega
        have f3 : (0 : Int) ≤ (k : Int) := by omega
        have f4 : k ≤ c := by omega
        clear hins oA oB oC bA1 bA2 bA3 bB1 bB2 bB3 bC1 bC2 bC3 hC hO2 hb2 hm' CL q0 q1 q2 q3 q4 q5 q6
        have hck : ¬ c = k := by omega
        rw [if_neg hck] at rA3 rB3 rC3
        (try simp only [Option.map_some, Addr.add_lit] at rA3 rB3 rC3)
        go_wp2_with fail
        go_region_held3 (fun W => W.cell? ⟨w.heap.size, 0, none⟩ = some (.string (strB x.key)) ∧ W.cell? ⟨w.heap.size, 1, none⟩ = some (.int .i64 x.seq) ∧ W.cell? ⟨w.heap.size, 2, none⟩ = some (.int .i64 x.ver) ∧ W.cell? ⟨w.heap.size, 3, none⟩ = some (.bool x.mark) ∧ W.cell? ⟨w.heap.size, 4, none⟩ = some (.string (strB x.mt)) ∧ W.cell? ⟨w.heap.size, 5, none⟩ = some (.string (strB x.tag)) ∧ W.cell? ⟨w.heap.size, 6, none⟩ = some (.string (strB x.body))) (((refine keepx HX2.out ?_); (first | exact Below.refl _ _ | exact K0.out | exact K1.out | exact K2.out | exact K3.out | exact BA1.out | exact BA2.out | exact BA3.out | exact BB1.out | exact BB2.out | exact BB3.out | exact BC1.out | exact BC2.out | exact BC3.out | exact BA1.out.alloc BA1.out.size _))) (first
          | (refine step_app_is rfl _ _ 22 22 rfl _ _ (by simp [Act.eval, Act.put]) (by simp [Act.eval, Act.put]) rA1 ?_)
          | (refine step_app_is rfl _ _ 22 22 rfl _ _ (by simp [Act.eval, Act.put]) (by simp [Act.eval, Act.put]) rA2 ?_)
          | (refine step_app_is rfl _ _ 22 22 rfl _ _ (by simp [Act.eval, Act.put]) (by simp [Act.eval, Act.put]) rA3 ?_)
          | (refine step_app_is rfl _ _ 22 22 rfl _ _ (by simp [Act.eval, Act.put]) (by simp [Act.eval, Act.put]) rB1 ?_)
          | (refine step_app_is rfl _ _ 22 22 rfl _ _ (by simp [Act.eval, Act.put]) (by simp [Act.eval, Act.put]) rB2 ?_)
          | (refine step_app_is rfl _ _ 22 22 rfl _ _ (by simp [Act.eval, Act.put]) (by simp [Act.eval, Act.put]) rB3 ?_)
          | (refine step_app_is rfl _ _ 22 22 rfl _ _ (by simp [Act.eval, Act.put]) (by simp [Act.eval, Act.put]) rC1 ?_)
          | (refine step_app_is rfl _ _ 22 22 rfl _ _ (by simp [Act.eval, Act.put]) (by simp [Act.eval, Act.put]) rC2 ?_)
          | (refine step_app_is rfl _ _ 22 22 rfl _ _ (by simp [Act.eval, Act.put]) (by simp [Act.eval, Act.put]) rC3 ?_))
        all_goals
          go_wp2_with fail
          go_ret
          first | exact ⟨_, rfl, FA.out⟩ | exact ⟨_, rfl, FB.out⟩ | exact ⟨_, rfl, FC.out⟩
    · have hkn : ¬ (k : Int) < (n : Int) := by omega
      have CL := HLOW
      have hins : insL x m = m.take k ++ x :: m.drop k := ins_at HLOW.out (fun z hz => by
        rw [List.getElem?_eq_none (by have := HN.out; omega)] at hz
        cases hz) (by have := HN.out; omega)
      go_wp2_with fail
      refine wp_region_quiet_below (by kernel_rfl) (by kernel_rfl) ?_
      (try simp only [List.append_eq, List.cons_append, List.nil_append])
      repeat (first | go_big_quiet_step (with_reducible exact CL.out _ _) | quiet_step (with_reducible exact CL.out _ _))
      refine wpQuiet_nil ?_
      intro w2 hw'
      obtain ⟨⟨dq, osq⟩, hw''⟩ := hw'
      have hb2 := below_regrown wr dq osq
      rw [← hw''] at hb2
      clear hw''
      have HW2 := Lib.hid (Below.trans HBR.out (hb2.mono HBR.out.size))
      have HX2 := Lib.hid (HX.out.below HW2.out)
      have hO2 := HO1.out.below HW2.out
      have hC := cut2_of hO2 HN.out.symm hk
      have HBW := Lib.hid (below_trans' HB1.out HW2.out)
      have hm' : m.length = n := HN.out.symm
      obtain ⟨vA1, WA1, rA1, vA2, WA2, rA2, vA3, WA3, rA3, oA, bA1, bA2, bA3⟩ := threeA w2.drew (w2.drew.alloc (.cells #[] 24)) w2.heap.size k n m x _ _ _ _ hC hm' hk (by omega) _ (own_empty w2.drew _ (Nat.le_refl _)) (below_one w2.drew _) (by simp)
      obtain ⟨vB1, WB1, rB1, vB2, WB2, rB2, vB3, WB3, rB3, oB, bB1, bB2, bB3⟩ := three w2.drew ((w2.drew.alloc (.cells #[] 24)).alloc (.cells #[.string (strB x.key), .int .i64 x.seq, .int .i64 x.ver, .bool x.mark, .string (strB x.mt), .string (strB x.tag), .string (strB x.body)] 24)) w2.heap.size k n m x _ _ _ _ hC hm' hk (by omega) _ ((own_empty w2.drew _ (Nat.le_refl _)).below (below_one _ _)) (below_two w2.drew _ _) (by simp; omega) (w2.heap.size + 1) (by have h := heap_alloc_new (w2.drew.alloc (.cells #[] 24)) (.cells #[.string (strB x.key), .int .i64 x.seq, .int .i64 x.ver, .bool x.mark, .string (strB x.mt), .string (strB x.tag), .string (strB x.body)] 24); rw [World.size_alloc] at h; exact h) (by simp [Value.ownBlock])
      obtain ⟨vC1, WC1, rC1, vC2, WC2, rC2, vC3, WC3, rC3, oC, bC1, bC2, bC3⟩ := three w2.drew ((w2.drew.alloc (.cells #[.string (strB x.key), .int .i64 x.seq, .int .i64 x.ver, .bool x.mark, .string (strB x.mt), .string (strB x.tag), .string (strB x.body)] 24)).alloc (.cells #[] 24)) w2.heap.size k n m x _ _ _ _ hC hm' hk (by omega) (.slice (some ⟨w2.heap.size + 1, 0, none⟩) 0 0) (by have h := own_empty (w2.drew.alloc (.cells #[.string (strB x.key), .int .i64 x.seq, .int .i64 x.ver, .bool x.mark, .string (strB x.mt), .string (strB x.tag), .string (strB x.body)] 24)) w2.heap.size (by simp); rw [World.size_alloc] at h; exact h) (below_two w2.drew _ _) (by simp; omega) w2.heap.size (Box.below (heap_alloc_new w2.drew _) (below_one _ _)) (by simp [Value.ownBlock])
      change (Builtin.append_ #[22, 22] 22 #[.slice (some ⟨w2.heap.size, 0, none⟩) 0 0, .slice _ k c]).run Try.prog (w2.alloc (.cells #[] 24)).drew = _ at rA1
      change (Builtin.append_ #[22, 22] 22 #[.slice (some ⟨w2.heap.size, 0, none⟩) 0 0, .slice _ k c]).run Try.prog ((w2.alloc (.cells #[] 24)).alloc (.cells #[.string (strB x.key), .int .i64 x.seq, .int .i64 x.ver, .bool x.mark, .string (strB x.mt), .string (strB x.tag), .string (strB x.body)] 24)).drew = _ at rB1
      change (Builtin.append_ #[22, 22] 22 #[.slice (some ⟨w2.heap.size + 1, 0, none⟩) 0 0, .slice _ k c]).run Try.prog ((w2.alloc (.cells #[.string (strB x.key), .int .i64 x.seq, .int .i64 x.ver, .bool x.mark, .string (strB x.mt), .string (strB x.tag), .string (strB x.body)] 24)).alloc (.cells #[] 24)).drew = _ at rC1
      have K0 : Hid (Below w2.heap.size w2.drew (w2.alloc (.cells #[] 24)).drew) := Lib.hid (below_one w2.drew _)
      have K1 : Hid (Below w2.heap.size w2.drew (w2.alloc (.cells #[.string (strB x.key), .int .i64 x.seq, .int .i64 x.ver, .bool x.mark, .string (strB x.mt), .string (strB x.tag), .string (strB x.body)] 24)).drew) := Lib.hid (below_one w2.drew _)
      have K2 : Hid (Below w2.heap.size w2.drew ((w2.alloc (.cells #[] 24)).alloc (.cells #[.string (strB x.key), .int .i64 x.seq, .int .i64 x.ver, .bool x.mark, .string (strB x.mt), .string (strB x.tag), .string (strB x.body)] 24)).drew) := Lib.hid (below_two w2.drew _ _)
      have K3 : Hid (Below w2.heap.size w2.drew ((w2.alloc (.cells #[.string (strB x.key), .int .i64 x.seq, .int .i64 x.ver, .bool x.mark, .string (strB x.mt), .string (strB x.tag), .string (strB x.body)] 24)).alloc (.cells #[] 24)).drew) := Lib.hid (below_two w2.drew _ _)
      have HE := Lib.hid hins
      have OA := Lib.hid oA
      have OB := Lib.hid oB
      have OC := Lib.hid oC
      have BA1 := Lib.hid bA1
      have BA2 := Lib.hid bA2
      have BA3 := Lib.hid bA3
      have BB1 := Lib.hid bB1
      have BB2 := Lib.hid bB2
      have BB3 := Lib.hid bB3
      have BC1 := Lib.hid bC1
      have BC2 := Lib.hid bC2
      have BC3 := Lib.hid bC3
      have FA : Hid (Own w.heap.size WA3 vA3 (insL x m) ∧ Below w.heap.size w WA3) := Lib.hid ⟨by rw [HE.out]; exact OA.out.mono HBW.out.size, HBW.out.trans (show Below w.heap.size w2 WA3 from ⟨BA3.out.os, BA3.out.tape, BA3.out.output, BA3.out.size, fun k hk => BA3.out.block k (Nat.lt_of_lt_of_le hk HBW.out.size)⟩)⟩
      have FB : Hid (Own w.heap.size WB3 vB3 (insL x m) ∧ Below w.heap.size w WB3) := Lib.hid ⟨by rw [HE.out]; exact OB.out.mono HBW.out.size, HBW.out.trans (show Below w.heap.size w2 WB3 from ⟨BB3.out.os, BB3.out.tape, BB3.out.output, BB3.out.size, fun k hk => BB3.out.block k (Nat.lt_of_lt_of_le hk HBW.out.size)⟩)⟩
      have FC : Hid (Own w.heap.size WC3 vC3 (insL x m) ∧ Below w.heap.size w WC3) := Lib.hid ⟨by rw [HE.out]; exact OC.out.mono HBW.out.size, HBW.out.trans (show Below w.heap.size w2 WC3 from ⟨BC3.out.os, BC3.out.tape, BC3.out.output, BC3.out.size, fun k hk => BC3.out.block k (Nat.lt_of_lt_of_le hk HBW.out.size)⟩)⟩
      have hnc : n ≤ c := HO1.out.its.at_.2.1
      have f1 : (k : Int) ≤ (c : Int) := by omega
      have f2 : (k : Int) ≤ (n : Int) := by omega
      have f3 : (0 : Int) ≤ (k : Int) := by omega
      have f4 : k ≤ c := by omega
      clear hins oA oB oC bA1 bA2 bA3 bB1 bB2 bB3 bC1 bC2 bC3 hC hO2 hb2 hm' CL q0 q1 q2 q3 q4 q5 q6
      by_cases hck : c = k
      · rw [if_pos hck] at rA3 rB3 rC3
        go_wp2_with fail
        go_region_held3 (fun W => W.cell? ⟨w.heap.size, 0, none⟩ = some (.string (strB x.key)) ∧ W.cell? ⟨w.heap.size, 1, none⟩ = some (.int .i64 x.seq) ∧ W.cell? ⟨w.heap.size, 2, none⟩ = some (.int .i64 x.ver) ∧ W.cell? ⟨w.heap.size, 3, none⟩ = some (.bool x.mark) ∧ W.cell? ⟨w.heap.size, 4, none⟩ = some (.string (strB x.mt)) ∧ W.cell? ⟨w.heap.size, 5, none⟩ = some (.string (strB x.tag)) ∧ W.cell? ⟨w.heap.size, 6, none⟩ = some (.string (strB x.body))) (((refine keepx HX2.out ?_); (first | exact Below.refl _ _ | exact K0.out | exact K1.out | exact K2.out | exact K3.out | exact BA1.out | exact BA2.out | exact BA3.out | exact BB1.out | exact BB2.out | exact BB3.out | exact BC1.out | exact BC2.out | exact BC3.out | exact BA1.out.alloc BA1.out.size _))) (first
          | (refine step_app_is rfl _ _ 22 22 rfl _ _ (by simp [Act.eval, Act.put] <;> omega) (by simp [Act.eval, Act.put] <;> omega) rA1 ?_)
          | (refine step_app_is rfl _ _ 22 22 rfl _ _ (by simp [Act.eval, Act.put] <;> omega) (by simp [Act.eval, Act.put] <;> omega) rA2 ?_)
          | (refine step_app_is rfl _ _ 22 22 rfl _ _ (by simp [Act.eval, Act.put] <;> omega) (by simp [Act.eval, Act.put] <;> omega) rA3 ?_)
          | (refine step_app_is rfl _ _ 22 22 rfl _ _ (by simp [Act.eval, Act.put] <;> omega) (by simp [Act.eval, Act.put] <;> omega) rB1 ?_)
          | (refine step_app_is rfl _ _ 22 22 rfl _ _ (by simp [Act.eval, Act.put] <;> omega) (by simp [Act.eval, Act.put] <;> omega) rB2 ?_)
          | (refine step_app_is rfl _ _ 22 22 rfl _ _ (by simp [Act.eval, Act.put] <;> omega) (by simp [Act.eval, Act.put] <;> omega) rB3 ?_)
          | (refine step_app_is rfl _ _ 22 22 rfl _ _ (by simp [Act.eval, Act.put] <;> omega) (by simp [Act.eval, Act.put] <;> omega) rC1 ?_)
          | (refine step_app_is rfl _ _ 22 22 rfl _ _ (by simp [Act.eval, Act.put] <;> omega) (by simp [Act.eval, Act.put] <;> omega) rC2 ?_)
          | (refine step_app_is rfl _ _ 22 22 rfl _ _ (by simp [Act.eval, Act.put] <;> omega) (by simp [Act.eval, Act.put] <;> omega) rC3 ?_))
        all_goals
          go_wp2_with fail
          go_ret
          first | exact ⟨_, rfl, FA.out⟩ | exact ⟨_, rfl, FB.out⟩ | exact ⟨_, rfl, FC.out⟩
      · rw [if_neg hck] at rA3 rB3 rC3
        (try simp only [Option.map_some, Addr.add_lit] at rA3 rB3 rC3)
        go_wp2_with fail
        go_region_held3 (fun W => W.cell? ⟨w.heap.size, 0, none⟩ = some (.string (strB x.key)) ∧ W.cell? ⟨w.heap.size, 1, none⟩ = some (.int .i64 x.seq) ∧ W.cell? ⟨w.heap.size, 2, none⟩ = some (.int .i64 x.ver) ∧ W.cell? ⟨w.heap.size, 3, none⟩ = some (.bool x.mark) ∧ W.cell? ⟨w.heap.size, 4, none⟩ = some (.string (strB x.mt)) ∧ W.cell? ⟨w.heap.size, 5, none⟩ = some (.string (strB x.tag)) ∧ W.cell? ⟨w.heap.size, 6, none⟩ = some (.string (strB x.body))) (((refine keepx HX2.out ?_); (first | exact Below.refl _ _ | exact K0.out | exact K1.out | exact K2.out | exact K3.out | exact BA1.out | exact BA2.out | exact BA3.out | exact BB1.out | exact BB2.out | exact BB3.out | exact BC1.out | exact BC2.out | exact BC3.out | exact BA1.out.alloc BA1.out.size _))) (first
          | (refine step_app_is rfl _ _ 22 22 rfl _ _ (by simp [Act.eval, Act.put]) (by simp [Act.eval, Act.put]) rA1 ?_)
          | (refine step_app_is rfl _ _ 22 22 rfl _ _ (by simp [Act.eval, Act.put]) (by simp [Act.eval, Act.put]) rA2 ?_)
          | (refine step_app_is rfl _ _ 22 22 rfl _ _ (by simp [Act.eval, Act.put]) (by simp [Act.eval, Act.put]) rA3 ?_)
          | (refine step_app_is rfl _ _ 22 22 rfl _ _ (by simp [Act.eval, Act.put]) (by simp [Act.eval, Act.put]) rB1 ?_)
          | (refine step_app_is rfl _ _ 22 22 rfl _ _ (by simp [Act.eval, Act.put]) (by simp [Act.eval, Act.put]) rB2 ?_)
          | (refine step_app_is rfl _ _ 22 22 rfl _ _ (by simp [Act.eval, Act.put]) (by simp [Act.eval, Act.put]) rB3 ?_)
          | (refine step_app_is rfl _ _ 22 22 rfl _ _ (by simp [Act.eval, Act.put]) (by simp [Act.eval, Act.put]) rC1 ?_)
          | (refine step_app_is rfl _ _ 22 22 rfl _ _ (by simp [Act.eval, Act.put]) (by simp [Act.eval, Act.put]) rC2 ?_)
          | (refine step_app_is rfl _ _ 22 22 rfl _ _ (by simp [Act.eval, Act.put]) (by simp [Act.eval, Act.put]) rC3 ?_))
        all_goals
          go_wp2_with fail
          go_ret
          first | exact ⟨_, rfl, FA.out⟩ | exact ⟨_, rfl, FB.out⟩ | exact ⟨_, rfl, FC.out⟩

end Go.Proofs.Ytgnhjcgegibpdaa
