/- bits.with: what the call does. No statement is proved here. -/
import Derived.Test.YtjlcmmidbeikdaaSide
namespace Go.Proofs.Ytjlcmmidbeikdaa
open Go.RowKit Go.Sort

theorem below_grown {B : Nat} {a w w' : World} {row : Option Nat} (h : Below B a w) (k : w.grownBy w' row) (hr : ∀ i, row = some i → B ≤ i) (hB : B ≤ w.heap.size) : Below B a w' :=
  ⟨k.os.trans h.os, k.tape.trans h.tape, k.output.trans h.output, Nat.le_trans h.size k.size, fun i hi => (k.block i (by omega) (fun e => by have := hr i e.symm; omega)).trans (h.block i hi)⟩
theorem OwnS.below {B : Nat} {w w' : World} {v : Value} {l : List (Int × Int)} (h : OwnS B w v l) (hb : Below w.heap.size w w') : OwnS B w' v l := by
  refine ⟨h.1, ?_⟩
  rcases h.2 with hn | ⟨g, cap, cur, rfl, hg1, hg, rest⟩
  · exact .inl hn
  · exact .inr ⟨g, cap, cur, rfl, hg1, (hb.block g (Array.getElem?_eq_some_iff.1 hg).1).trans hg, rest⟩
theorem spsC_len (r : List (Int × Int)) : (spsC r).length = r.length * 2 := by
  induction r with
  | nil => rfl
  | cons z r ih => show (spsC r).length + 1 + 1 = (r.length + 1) * 2; omega
/-- Its last run, and what it is with that run longer. -/
theorem OwnS.last {B : Nat} {w : World} {A : Option Addr} {n c : Nat} {r : List (Int × Int)} {x : Int × Int} (h : OwnS B w (.slice A n c) (r ++ [x])) :
    n = r.length + 1 ∧ n ≤ c ∧ ∃ g, A = some ⟨g, 0, none⟩ ∧ B ≤ g ∧ g < w.heap.size ∧ w.cell? ⟨g, r.length * 2, none⟩ = some (.int .i64 x.1) ∧ w.cell? ⟨g, r.length * 2 + 1, none⟩ = some (.int .i64 x.2) ∧ w.frozen? ⟨g, r.length * 2 + 1, none⟩ = false ∧
      ∀ y : Int, OwnS B (w.setCell ⟨g, r.length * 2 + 1, none⟩ (.int .i64 y)) (.slice A n c) (r ++ [(x.1, y)]) := by
  have hn := h.sps.at_
  have hl : (r ++ [x]).length = r.length + 1 := by simp
  obtain ⟨e1, e2, hr⟩ := hn
  obtain ⟨b, off, e, hb, hc⟩ := hr (by omega)
  obtain rfl : n = r.length + 1 := by omega
  have ho := h
  unfold OwnS at ho
  rw [hl] at ho
  rcases id ho.2 with ⟨h0, _⟩ | ⟨g, cap, cur, h0, hB, _⟩
  · cases h0
  · injection h0 with h1 h2 h3
    subst h1 h3
    injection e with e'
    injection e' with e3 e4
    subst e3 e4
    have hx := hc r.length x (by simp)
    rw [Nat.zero_add] at hx
    refine ⟨rfl, e2, g, rfl, hB, hb, hx.1, hx.2, World.ownsRow.frozenAt ho _, fun y => ?_⟩
    have hs := (World.ownsRow.stored ho (r.length * 2 + 1) (.int .i64 y)).1
    unfold OwnS
    rw [show (r ++ [(x.1, y)]).length = r.length + 1 by simp]
    have e5 : (spsC (r ++ [x])).set (r.length * 2 + 1) (.int .i64 y) = spsC (r ++ [(x.1, y)]) := by
      rw [spsC_snoc, spsC_snoc]
      have hlen := spsC_len r
      rw [List.set_append_right _ _ (by omega), hlen, show r.length * 2 + 1 - r.length * 2 = 1 by omega]
      rfl
    rw [← e5]
    exact hs

theorem below_drewN (w : World) (n : Nat) : Below w.heap.size w (w.drewN n) := ⟨rfl, rfl, rfl, Nat.le_refl _, fun _ _ => rfl⟩

set_option maxRecDepth 100000 in
set_option maxHeartbeats 2000000 in
theorem with_nil (A : Option Addr) (n c no B : Nat) (w : World) (ho : OwnS B w (.slice A n c) []) (hB : B ≤ w.heap.size) (hno : no ≤ 600) :
    Calls Try.prog 24 #[.slice A n c, .int .i64 (no : Nat)] w fun e w' => ∃ v, e = .returned v ∧ OwnS B w' v [((no : Int), 1)] ∧ Below B w w' := by
  obtain ⟨i1, hi, hz0, hz1, hz2⟩ := info_parts info26
  obtain rfl : n = 0 := ho.sps.at_.1.symm
  have HO := Lib.hid ho
  clear ho
  go_enter Try.func24, Try.ntmps24
  go_wp2_with fail
  have hd : decide ((0 : Int) ≤ -1) = false := by decide
  go_quiet (fail)
  obtain ⟨w1, hw1⟩ : ∃ w1, w1 = w.drewN nq := ⟨_, rfl⟩
  rw [← hw1]
  have HO1 : Hid (OwnS B w1 (.slice A 0 c) []) := Lib.hid (HO.out.below (by rw [hw1]; exact below_drewN _ _))
  have HB1 : Hid (Below B w w1) := Lib.hid (by rw [hw1]; exact (below_drewN w nq).mono hB)
  have hB1 : B ≤ w1.heap.size := by rw [hw1]; exact hB
  clear hw1
  go_wp2_with (at_builtin; refine wpList_append_own_at _ (by rfl) (.tmp 35) (.tmp 38) 23 (by rfl) B 26 i1 _ 2 16 Try.underlying23 hi hz0 hz1 hz2 (by rfl) (by omega) _ 0 (spsC []) (by rfl) (by exact World.ownsRow.alloc HO1.out _) ⟨w1.heap.size, 0, none⟩ 1 1 [.int .i64 (no : Int), .int .i64 1] (by rfl) (by rfl) (by exact news2 ((no : Int), 1) rfl) (one2 ((no : Int), 1)) (by decide) (by omega) (by simp; omega) ?_; intro v' w' hown' hgrow' hnil' hat')
  obtain ⟨A', c', hA⟩ := (own_snoc (l := []) (x := ((no : Int), 1)) hown').sps.form
  have HO' : Hid (OwnS B w' v' [((no : Int), 1)]) := Lib.hid (own_snoc (l := []) (x := ((no : Int), 1)) hown')
  have HG : Hid (Below B w w') := Lib.hid (below_grown (HB1.out.alloc (by omega) _) hgrow' HO1.out.ge (by simp; omega))
  clear hown' hgrow' hnil' hat'
  subst hA
  go_wp2_with fail
  go_ret
  exact ⟨_, rfl, HO'.out, HG.out⟩

set_option maxRecDepth 100000 in
set_option maxHeartbeats 2000000 in
theorem with_on (A : Option Addr) (n c no B : Nat) (r : List (Int × Int)) (x : Int × Int) (w : World) (ho : OwnS B w (.slice A n c) (r ++ [x])) (hB : B ≤ w.heap.size) (hr : r.length ≤ 600) (h0 : 0 ≤ x.1) (h1 : 0 ≤ x.2) (hno : no ≤ 600) (he : x.1 + x.2 = no) :
    Calls Try.prog 24 #[.slice A n c, .int .i64 (no : Nat)] w fun e w' => ∃ v, e = .returned v ∧ OwnS B w' v (r ++ [(x.1, x.2 + 1)]) ∧ Below B w w' := by
  obtain ⟨rfl, hc, g, rfl, hg, hgl, c0, c1, hf, hset⟩ := ho.last
  have HS := Lib.hid hset
  clear hset ho
  have hd : (x.1 + x.2 == (no : Int)) = true := by rw [beq_iff_eq]; exact he
  have hd2 : x.1 + x.2 ≤ 600 := by omega
  have hd3 : decide ((0 : Int) ≤ (r.length : Int)) = true := by rw [decide_eq_true_iff]; omega
  have hw1 : (r.length : Int) + 1 - 1 = (r.length : Int) := by omega
  clear he
  go_enter Try.func24, Try.ntmps24
  go_wp2_with fail
  go_quiet (fail)
  go_wp2_with fail
  go_ret
  exact ⟨_, rfl, HS.out (x.2 + 1), ((below_drewN w nq).mono hB).setCell hg _⟩

set_option maxRecDepth 100000 in
set_option maxHeartbeats 2000000 in
theorem with_new (A : Option Addr) (n c no B : Nat) (r : List (Int × Int)) (x : Int × Int) (w : World) (ho : OwnS B w (.slice A n c) (r ++ [x])) (hB : B ≤ w.heap.size) (hr : r.length ≤ 600) (h0 : 0 ≤ x.1) (h1 : 0 ≤ x.2) (h2 : x.1 + x.2 ≤ 600) (hno : no ≤ 600) (he : ¬ x.1 + x.2 = no) :
    Calls Try.prog 24 #[.slice A n c, .int .i64 (no : Nat)] w fun e w' => ∃ v, e = .returned v ∧ OwnS B w' v (r ++ [x] ++ [((no : Int), 1)]) ∧ Below B w w' := by
  obtain ⟨i1, hi, hz0, hz1, hz2⟩ := info_parts info26
  have HO := Lib.hid ho
  obtain ⟨rfl, hc, g, rfl, hg, hgl, c0, c1, hf, hset⟩ := ho.last
  clear hset ho
  have hd : (x.1 + x.2 == (no : Int)) = false := by rw [beq_eq_false_iff_ne]; exact he
  have hd3 : decide ((0 : Int) ≤ (r.length : Int)) = true := by rw [decide_eq_true_iff]; omega
  have hw1 : (r.length : Int) + 1 - 1 = (r.length : Int) := by omega
  have hlen : (r ++ [x]).length = r.length + 1 := by simp
  have HLen := Lib.hid hlen
  clear he hlen
  go_enter Try.func24, Try.ntmps24
  go_wp2_with fail
  go_quiet (fail)
  obtain ⟨w1, hw1⟩ : ∃ w1, w1 = w.drewN nq := ⟨_, rfl⟩
  rw [← hw1]
  have HO1 : Hid (OwnS B w1 (.slice (some ⟨g, 0, none⟩) (r.length + 1) c) (r ++ [x])) := Lib.hid (HO.out.below (by rw [hw1]; exact below_drewN _ _))
  have HB1 : Hid (Below B w w1) := Lib.hid (by rw [hw1]; exact (below_drewN w nq).mono hB)
  have hB1 : B ≤ w1.heap.size := by rw [hw1]; exact hB
  clear hw1 c0 c1 hf
  go_wp2_with (at_builtin; refine wpList_append_own_at _ (by rfl) (.tmp 35) (.tmp 38) 23 (by rfl) B 26 i1 _ 2 16 Try.underlying23 hi hz0 hz1 hz2 (by rfl) (by omega) _ (r ++ [x]).length (spsC (r ++ [x])) (by rfl) (by exact World.ownsRow.alloc HO1.out _) ⟨w1.heap.size, 0, none⟩ 1 1 [.int .i64 (no : Int), .int .i64 1] (by rfl) (by rfl) (by exact news2 ((no : Int), 1) rfl) (one2 ((no : Int), 1)) (Nat.le_trans (show (r ++ [x]).length + 1 ≤ 1000000 by rw [HLen.out]; omega) (by decide)) (by rw [HLen.out]; omega) (by simp; omega) ?_; intro v' w' hown' hgrow' hnil' hat')
  obtain ⟨A', c', hA⟩ := (own_snoc (l := r ++ [x]) (x := ((no : Int), 1)) hown').sps.form
  have HO' : Hid (OwnS B w' v' (r ++ [x] ++ [((no : Int), 1)])) := Lib.hid (own_snoc (l := r ++ [x]) (x := ((no : Int), 1)) hown')
  have HG : Hid (Below B w w') := Lib.hid (below_grown (HB1.out.alloc (by omega) _) hgrow' HO1.out.ge (by simp; omega))
  clear hown' hgrow' hnil' hat'
  subst hA
  go_wp2_with fail
  go_ret
  exact ⟨_, rfl, HO'.out, HG.out⟩

theorem with_calls (A : Option Addr) (n c no B : Nat) (r : List (Int × Int)) (w : World) (ho : OwnS B w (.slice A n c) r) (hB : B ≤ w.heap.size) (hr : r.length ≤ 600) (ha : ∀ x ∈ r, 0 ≤ x.1 ∧ 1 ≤ x.2 ∧ x.1 + x.2 ≤ 600) (hno : no ≤ 600) :
    Calls Try.prog 24 #[.slice A n c, .int .i64 (no : Nat)] w fun e w' => ∃ v, e = .returned v ∧ OwnS B w' v (addP r no) ∧ Below B w w' := by
  rcases snoc_cases r with rfl | ⟨r', x, rfl⟩
  · exact with_nil A n c no B w ho hB hno
  · have hx := ha x (by simp)
    have hl : r'.length ≤ 600 := by simp at hr; omega
    by_cases e : x.1 + x.2 = no
    · rw [addP_on _ _ _ e]
      exact with_on A n c no B r' x w ho hB hl hx.1 (by omega) hno e
    · rw [addP_new _ _ _ e]
      exact with_new A n c no B r' x w ho hB hl hx.1 (by omega) hx.2.2 hno e
end Go.Proofs.Ytjlcmmidbeikdaa
