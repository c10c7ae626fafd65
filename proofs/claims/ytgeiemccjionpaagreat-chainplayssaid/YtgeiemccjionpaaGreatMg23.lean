/- Contracts and plain mathematics that the statement's proof wants: no statement is proved here, nothing is assumed. -/
import Derived.Maps.AppendAt
import Derived.Laws.ResultCell
import Derived.Test.YtgeiemccjionpaaGreatMg22
/- BMem -/
namespace Go.Proofs.YtgeiemccjionpaaGreat.Bit
open Go.RowKit Go.Sort

/-- The slice v reads as the runs l. -/
def Sps (w : World) (v : Value) (l : List (Int × Int)) : Prop :=
  ∃ A c, v = .slice A l.length c ∧ l.length ≤ c ∧ (0 < l.length → ∃ b off, A = some ⟨b, off, none⟩ ∧ b < w.heap.size ∧ ∀ (j : Nat) (x : Int × Int), l[j]? = some x → w.cell? ⟨b, off + j * 2, none⟩ = some (.int .i64 x.1) ∧ w.cell? ⟨b, off + j * 2 + 1, none⟩ = some (.int .i64 x.2))

section
variable {w w' : World} {v : Value} {l : List (Int × Int)}
theorem Sps.below (h : Sps w v l) (hb : Below w.heap.size w w') : Sps w' v l := by
  obtain ⟨A, c, e, hc, hr⟩ := h
  refine ⟨A, c, e, hc, fun hp => ?_⟩
  obtain ⟨b, off, e1, hl, hx⟩ := hr hp
  exact ⟨b, off, e1, Nat.lt_of_lt_of_le hl hb.size, fun j x hj => ⟨(hb.cell (p := ⟨b, off + j * 2, none⟩) hl).trans (hx j x hj).1, (hb.cell (p := ⟨b, off + j * 2 + 1, none⟩) hl).trans (hx j x hj).2⟩⟩
theorem Sps.at_ {A : Option Addr} {n c : Nat} (h : Sps w (.slice A n c) l) : l.length = n ∧ n ≤ c ∧ (0 < n → ∃ b off, A = some ⟨b, off, none⟩ ∧ b < w.heap.size ∧ ∀ (j : Nat) (x : Int × Int), l[j]? = some x → w.cell? ⟨b, off + j * 2, none⟩ = some (.int .i64 x.1) ∧ w.cell? ⟨b, off + j * 2 + 1, none⟩ = some (.int .i64 x.2)) := by
  obtain ⟨A', c', e, hc, hr⟩ := h
  injection e with e1 e2 e3
  subst e1 e2 e3
  exact ⟨rfl, hc, hr⟩
theorem Sps.form (h : Sps w v l) : ∃ A c, v = .slice A l.length c := by
  obtain ⟨A, c, e, _⟩ := h
  exact ⟨A, c, e⟩
theorem Sps.nil (w : World) : Sps w (.slice none 0 0) [] := ⟨none, 0, rfl, Nat.le_refl _, fun h => absurd h (by simp)⟩
/-- Its one run. -/
theorem Sps.one {A : Option Addr} {c : Nat} {s n : Int} (h : Sps w (.slice A 1 c) [(s, n)]) : ∃ b off, A = some ⟨b, off, none⟩ ∧ b < w.heap.size ∧ w.cell? ⟨b, off, none⟩ = some (.int .i64 s) ∧ w.cell? ⟨b, off + 1, none⟩ = some (.int .i64 n) := by
  obtain ⟨b, off, e, hl, hx⟩ := h.at_.2.2 (by omega)
  exact ⟨b, off, e, hl, by simpa using hx 0 (s, n) rfl⟩
theorem Sps.new (w : World) (s n : Int) : Sps (w.alloc (.cells #[.int .i64 s, .int .i64 n] 79)) (.slice (some ⟨w.heap.size, 0, none⟩) 1 1) [(s, n)] := by
  refine ⟨_, _, rfl, Nat.le_refl _, fun _ => ⟨w.heap.size, 0, rfl, by simp, fun j x hj => ?_⟩⟩
  have hj0 : j = 0 := by
    have := (List.getElem?_eq_some_iff.1 hj).1
    simp at this
    omega
  subst hj0
  have hx : (s, n) = x := by simpa using hj
  subst hx
  rw [cell_of_row _ _ _ _ _ _ (heap_alloc_new w _), cell_of_row _ _ _ _ _ _ (heap_alloc_new w _)]
  exact ⟨rfl, rfl⟩
end

/-- The box of a run. -/
def SBox (w : World) (g : Nat) (x : Int × Int) : Prop := w.heap[g]? = some (.cells #[.int .i64 x.1, .int .i64 x.2] 79 (0, 0))
theorem SBox.new (w : World) (x : Int × Int) : SBox (w.alloc (.cells #[.int .i64 x.1, .int .i64 x.2] 79)) w.heap.size x := heap_alloc_new w _
theorem SBox.lt {w : World} {g : Nat} {x : Int × Int} (h : SBox w g x) : g < w.heap.size := (Array.getElem?_eq_some_iff.1 h).1
theorem SBox.below {w w' : World} {g : Nat} {x : Int × Int} (h : SBox w g x) (hb : Below w.heap.size w w') : SBox w' g x := (hb.block g h.lt).trans h
theorem SBox.c0 {w : World} {g : Nat} {x : Int × Int} (h : SBox w g x) : w.cell? ⟨g, 0, none⟩ = some (.int .i64 x.1) := by rw [cell_of_row w g _ _ _ _ h]; rfl
theorem SBox.c1 {w : World} {g : Nat} {x : Int × Int} (h : SBox w g x) : w.cell? ⟨g, 1, none⟩ = some (.int .i64 x.2) := by rw [cell_of_row w g _ _ _ _ h]; rfl
/-- Runs, as cells. -/
def spsC : List (Int × Int) → List Value
  | [] => []
  | x :: l => .int .i64 x.1 :: .int .i64 x.2 :: spsC l
theorem spsC_snoc (l : List (Int × Int)) (x : Int × Int) : spsC (l ++ [x]) = spsC l ++ [.int .i64 x.1, .int .i64 x.2] := by
  induction l with
  | nil => rfl
  | cons y l ih => simp only [List.cons_append, spsC, ih]
theorem spsC_at : ∀ (l : List (Int × Int)) (j : Nat) (x : Int × Int), l[j]? = some x → (spsC l)[j * 2]? = some (.int .i64 x.1) ∧ (spsC l)[j * 2 + 1]? = some (.int .i64 x.2) := by
  intro l
  induction l with
  | nil => intro j x h; cases h
  | cons y l ih =>
    intro j x h
    cases j with
    | zero =>
      obtain rfl : y = x := by simpa using h
      exact ⟨rfl, rfl⟩
    | succ j =>
      have := ih j x (by simpa using h)
      rw [show (j + 1) * 2 = j * 2 + 2 by omega, show j * 2 + 2 + 1 = j * 2 + 1 + 2 by omega]
      exact this
/-- A slice of the call's own that reads as the runs l. -/
def OwnS (B : Nat) (w : World) (v : Value) (l : List (Int × Int)) : Prop := w.ownsRow B 79 2 v l.length (spsC l)
theorem OwnS.sps {B : Nat} {w : World} {v : Value} {l : List (Int × Int)} (h : OwnS B w v l) : Sps w v l := by
  rcases id h.2 with ⟨rfl, h0⟩ | ⟨g, cap, cur, rfl, _, hg, hn, _, _, ht⟩
  · obtain rfl : l = [] := List.eq_nil_of_length_eq_zero h0
    exact Sps.nil w
  · refine ⟨_, cap, rfl, hn, fun _ => ⟨g, 0, rfl, (Array.getElem?_eq_some_iff.1 hg).1, fun j x hj => ?_⟩⟩
    rw [Nat.zero_add, cell_of_row _ _ _ _ _ _ hg, cell_of_row _ _ _ _ _ _ hg]
    have hjl := (List.getElem?_eq_some_iff.1 hj).1
    obtain ⟨e1, e2⟩ := spsC_at l j x hj
    rw [← ht, List.getElem?_take, if_pos (by omega)] at e1 e2
    exact ⟨by simpa using e1, by simpa using e2⟩
theorem OwnS.nil (B : Nat) (w : World) : OwnS B w (.slice none 0 0) [] := World.ownsRow_nil _ _ _ _
theorem OwnS.ge {B : Nat} {w : World} {v : Value} {l : List (Int × Int)} (h : OwnS B w v l) : ∀ k, v.ownBlock = some k → B ≤ k := fun k hk => (World.ownsRow.lt h k hk).1
theorem own_snoc {B : Nat} {w : World} {v : Value} {l : List (Int × Int)} {x : Int × Int} (h : w.ownsRow B 79 2 v (l.length + 1) (spsC l ++ [.int .i64 x.1, .int .i64 x.2])) : OwnS B w v (l ++ [x]) := by
  unfold OwnS
  rw [spsC_snoc, List.length_append]
  exact h
theorem news2 {W : World} (x : Int × Int) {g : Nat} (hg : W.heap.size = g) : ∀ (j : Nat) (u : Value), ([.int .i64 x.1, .int .i64 x.2] : List Value)[j]? = some u → (W.alloc (.cells #[.int .i64 x.1, .int .i64 x.2] 79)).cell? ((⟨g, 0, none⟩ : Addr).add j) = some u := by
  intro j u hj
  subst hg
  rw [Addr.add_lit, Nat.zero_add, cell_of_row _ _ _ _ _ _ (heap_alloc_new W _), ← hj]
  exact List.getElem?_toArray
theorem one2 (x : Int × Int) : ∀ u ∈ ([.int .i64 x.1, .int .i64 x.2] : List Value), u.oneCell' = true := by
  intro u hu
  simp only [List.mem_cons, List.not_mem_nil, or_false] at hu
  rcases hu with rfl | rfl <;> rfl
theorem info26 : (Tryz.prog.info? 79).map (fun i => (i.zero, i.size, i.bytes)) = some (some (.agg #[.int .i64 0, .int .i64 0]), 2, 16) := by kernel_rfl

end Go.Proofs.YtgeiemccjionpaaGreat.Bit

/- BSide -/
namespace Go.Proofs.YtgeiemccjionpaaGreat.Bit
open Go.RowKit Go.Sort

theorem SBox.free {w : World} {g : Nat} {x : Int × Int} (h : SBox w g x) (i : Nat) : w.frozen? ⟨g, i, none⟩ = false := by unfold SBox at h; simp [World.frozen?, h]
/-- The world behind the store of a run, under a name of its own. -/
theorem store2 {w : World} {g : Nat} {y : Int × Int} (h : SBox w g y) (x : Int × Int) :
    ∃ w2, (w.setCell ⟨g, 0, none⟩ (.int .i64 x.1)).setCell ⟨g, 1, none⟩ (.int .i64 x.2) = w2 ∧ SBox w2 g x ∧ Below g w w2 := by
  refine ⟨_, rfl, ?_, ((Below.refl g w).setCell (Nat.le_refl _) _).setCell (Nat.le_refl _) _⟩
  exact heap_setCell_same _ g 1 _ 79 _ (heap_setCell_same w g 0 _ 79 _ h)
theorem below_low {w Y wr w3 : World} (h : Below Y.heap.size Y wr) (k : Below w.heap.size wr w3) (b : Below w.heap.size w Y) : Below w.heap.size w w3 := (b.trans (h.mono b.size)).trans k
theorem ret_side {a b : Int} {d : Int × Int} {p q : Bool} (h : d = (a, b)) (k : q = p) : Ending.returned (.tuple #[.agg #[.int .i64 a, .int .i64 b], .bool p]) = .returned (.tuple #[.agg #[.int .i64 d.1, .int .i64 d.2], .bool q]) := by rw [h, k]
section
variable {l : List UInt8} {pages n : Int} {N i : Nat}
theorem sideX_of (h : 1 ≤ n) (hN : N = capN pages) : sideX l pages n = sideN l n N := by unfold sideX; rw [if_neg (by omega), hN]
theorem sideV_hit (h : 1 ≤ n) (hN : N = capN pages) (hs : sideN l n N = some i) : sideV l pages n = ((i : Int) + 1 - n, n) := by unfold sideV; rw [sideX_of h hN, hs]
theorem sideB_hit (h : 1 ≤ n) (hN : N = capN pages) (hs : sideN l n N = some i) : sideB l pages n = true := by unfold sideB; rw [sideX_of h hN, hs]; rfl
theorem sideV_miss (h : 1 ≤ n) (hN : N = capN pages) (hs : sideN l n N = none) : sideV l pages n = (0, 0) := by unfold sideV; rw [sideX_of h hN, hs]
theorem sideB_miss (h : 1 ≤ n) (hN : N = capN pages) (hs : sideN l n N = none) : sideB l pages n = false := by unfold sideB; rw [sideX_of h hN, hs]; rfl
end

end Go.Proofs.YtgeiemccjionpaaGreat.Bit

/- BWith -/
namespace Go.Proofs.YtgeiemccjionpaaGreat.Bit
open Go.RowKit Go.Sort

theorem below_grown {B : Nat} {a w w' : World} {row : Option Nat} (h : Below B a w) (k : w.grownBy w' row) (hr : ∀ i, row = some i → B ≤ i) (hB : B ≤ w.heap.size) : Below B a w' :=
  ⟨k.os.trans h.os, k.tape.trans h.tape, k.output.trans h.output, Nat.le_trans h.size k.size, fun i hi => (k.block i (by omega) (fun e => by have := hr i e.symm; omega)).trans (h.block i hi)⟩
theorem OwnS.below {B : Nat} {w w' : World} {v : Value} {l : List (Int × Int)} (h : OwnS B w v l) (hb : Below w.heap.size w w') : OwnS B w' v l := by
  refine ⟨h.1, ?_⟩
  rcases h.2 with hn | ⟨g, cap, cur, rfl, hg1, hg, rest⟩
  · exact .inl hn
  · exact .inr ⟨g, cap, cur, rfl, hg1, (hb.block g (Array.getElem?_eq_some_iff.1 hg).1).trans hg, rest⟩
theorem spsC_len (r : List (Int × Int)) : (spsC r).length = r.length * 2 := by
  induction r with
  | nil => rfl
  | cons z r ih => show (spsC r).length + 1 + 1 = (r.length + 1) * 2; omega
/-- Its last run, and what it is with that run longer. -/
theorem OwnS.last {B : Nat} {w : World} {A : Option Addr} {n c : Nat} {r : List (Int × Int)} {x : Int × Int} (h : OwnS B w (.slice A n c) (r ++ [x])) :
    n = r.length + 1 ∧ n ≤ c ∧ ∃ g, A = some ⟨g, 0, none⟩ ∧ B ≤ g ∧ g < w.heap.size ∧ w.cell? ⟨g, r.length * 2, none⟩ = some (.int .i64 x.1) ∧ w.cell? ⟨g, r.length * 2 + 1, none⟩ = some (.int .i64 x.2) ∧ w.frozen? ⟨g, r.length * 2 + 1, none⟩ = false ∧
      ∀ y : Int, OwnS B (w.setCell ⟨g, r.length * 2 + 1, none⟩ (.int .i64 y)) (.slice A n c) (r ++ [(x.1, y)]) := by
  have hn := h.sps.at_
  have hl : (r ++ [x]).length = r.length + 1 := by simp
  obtain ⟨e1, e2, hr⟩ := hn
  obtain ⟨b, off, e, hb, hc⟩ := hr (by omega)
  obtain rfl : n = r.length + 1 := by omega
  have ho := h
  unfold OwnS at ho
  rw [hl] at ho
  rcases id ho.2 with ⟨h0, _⟩ | ⟨g, cap, cur, h0, hB, _⟩
  · cases h0
  · injection h0 with h1 h2 h3
    subst h1 h3
    injection e with e'
    injection e' with e3 e4
    subst e3 e4
    have hx := hc r.length x (by simp)
    rw [Nat.zero_add] at hx
    refine ⟨rfl, e2, g, rfl, hB, hb, hx.1, hx.2, World.ownsRow.frozenAt ho _, fun y => ?_⟩
    have hs := (World.ownsRow.stored ho (r.length * 2 + 1) (.int .i64 y)).1
    unfold OwnS
    rw [show (r ++ [(x.1, y)]).length = r.length + 1 by simp]
    have e5 : (spsC (r ++ [x])).set (r.length * 2 + 1) (.int .i64 y) = spsC (r ++ [(x.1, y)]) := by
      rw [spsC_snoc, spsC_snoc]
      have hlen := spsC_len r
      rw [List.set_append_right _ _ (by omega), hlen, show r.length * 2 + 1 - r.length * 2 = 1 by omega]
      rfl
    rw [← e5]
    exact hs

theorem below_drewN (w : World) (n : Nat) : Below w.heap.size w (w.drewN n) := ⟨rfl, rfl, rfl, Nat.le_refl _, fun _ _ => rfl⟩

set_option maxRecDepth 100000 in
set_option maxHeartbeats 2000000 in
theorem with_nil (A : Option Addr) (n c no B : Nat) (w : World) (ho : OwnS B w (.slice A n c) []) (hB : B ≤ w.heap.size) (_hno : no ≤ 600) :
    Calls Tryz.prog 89 #[.slice A n c, .int .i64 (no : Nat)] w fun e w' => ∃ v, e = .returned v ∧ OwnS B w' v [((no : Int), 1)] ∧ Below B w w' := by
  obtain ⟨i1, hi, hz0, hz1, hz2⟩ := info_parts info26
  obtain rfl : n = 0 := ho.sps.at_.1.symm
  have HO := Lib.hid ho
  clear ho
  go_enter Tryz.func89, Tryz.ntmps89
  go_wp2_with fail
  have hd : decide ((0 : Int) ≤ -1) = false := by decide
  go_quiet (fail)
  obtain ⟨w1, hw1⟩ : ∃ w1, w1 = w.drewN nq := ⟨_, rfl⟩
  rw [← hw1]
  have HO1 : Hid (OwnS B w1 (.slice A 0 c) []) := Lib.hid (HO.out.below (by rw [hw1]; exact below_drewN _ _))
  have HB1 : Hid (Below B w w1) := Lib.hid (by rw [hw1]; exact (below_drewN w nq).mono hB)
  have hB1 : B ≤ w1.heap.size := by rw [hw1]; exact hB
  clear hw1
  go_wp2_with (at_builtin; refine wpList_append_own_at _ (by rfl) (.tmp 35) (.tmp 38) 80 (by rfl) B 79 i1 _ 2 16 Tryz.underlying80 hi hz0 hz1 hz2 (by rfl) (by omega) _ 0 (spsC []) (by rfl) (by exact World.ownsRow.alloc HO1.out _) ⟨w1.heap.size, 0, none⟩ 1 1 [.int .i64 (no : Int), .int .i64 1] (by rfl) (by rfl) (by exact news2 ((no : Int), 1) rfl) (one2 ((no : Int), 1)) (by decide) (by omega) (by simp; omega) ?_; intro v' w' hown' hgrow' hnil' hat')
  obtain ⟨A', c', hA⟩ := (own_snoc (l := []) (x := ((no : Int), 1)) hown').sps.form
  have HO' : Hid (OwnS B w' v' [((no : Int), 1)]) := Lib.hid (own_snoc (l := []) (x := ((no : Int), 1)) hown')
  have HG : Hid (Below B w w') := Lib.hid (below_grown (HB1.out.alloc (by omega) _) hgrow' HO1.out.ge (by simp; omega))
  clear hown' hgrow' hnil' hat'
  subst hA
  go_wp2_with fail
  go_ret
  exact ⟨_, rfl, HO'.out, HG.out⟩

set_option maxRecDepth 100000 in
set_option maxHeartbeats 2000000 in
theorem with_on (A : Option Addr) (n c no B : Nat) (r : List (Int × Int)) (x : Int × Int) (w : World) (ho : OwnS B w (.slice A n c) (r ++ [x])) (hB : B ≤ w.heap.size) (hr : r.length ≤ 600) (h0 : 0 ≤ x.1) (h1 : 0 ≤ x.2) (hno : no ≤ 600) (he : x.1 + x.2 = no) :
    Calls Tryz.prog 89 #[.slice A n c, .int .i64 (no : Nat)] w fun e w' => ∃ v, e = .returned v ∧ OwnS B w' v (r ++ [(x.1, x.2 + 1)]) ∧ Below B w w' := by
  obtain ⟨rfl, hc, g, rfl, hg, hgl, c0, c1, hf, hset⟩ := ho.last
  have HS := Lib.hid hset
  clear hset ho
  have hd : (x.1 + x.2 == (no : Int)) = true := by rw [beq_iff_eq]; exact he
  have hd2 : x.1 + x.2 ≤ 600 := by omega
  have hd3 : decide ((0 : Int) ≤ (r.length : Int)) = true := by rw [decide_eq_true_iff]; omega
  have hw1 : (r.length : Int) + 1 - 1 = (r.length : Int) := by omega
  clear he
  go_enter Tryz.func89, Tryz.ntmps89
  go_wp2_with fail
  go_quiet (fail)
  go_wp2_with fail
  go_ret
  exact ⟨_, rfl, HS.out (x.2 + 1), ((below_drewN w nq).mono hB).setCell hg _⟩

set_option maxRecDepth 100000 in
set_option maxHeartbeats 2000000 in
theorem with_new (A : Option Addr) (n c no B : Nat) (r : List (Int × Int)) (x : Int × Int) (w : World) (ho : OwnS B w (.slice A n c) (r ++ [x])) (hB : B ≤ w.heap.size) (hr : r.length ≤ 600) (h0 : 0 ≤ x.1) (h1 : 0 ≤ x.2) (h2 : x.1 + x.2 ≤ 600) (_hno : no ≤ 600) (he : ¬ x.1 + x.2 = no) :
    Calls Tryz.prog 89 #[.slice A n c, .int .i64 (no : Nat)] w fun e w' => ∃ v, e = .returned v ∧ OwnS B w' v (r ++ [x] ++ [((no : Int), 1)]) ∧ Below B w w' := by
  obtain ⟨i1, hi, hz0, hz1, hz2⟩ := info_parts info26
  have HO := Lib.hid ho
  obtain ⟨rfl, hc, g, rfl, hg, hgl, c0, c1, hf, hset⟩ := ho.last
  clear hset ho
  have hd : (x.1 + x.2 == (no : Int)) = false := by rw [beq_eq_false_iff_ne]; exact he
  have hd3 : decide ((0 : Int) ≤ (r.length : Int)) = true := by rw [decide_eq_true_iff]; omega
  have hw1 : (r.length : Int) + 1 - 1 = (r.length : Int) := by omega
  have hlen : (r ++ [x]).length = r.length + 1 := by simp
  have HLen := Lib.hid hlen
  clear he hlen
  go_enter Tryz.func89, Tryz.ntmps89
  go_wp2_with fail
  go_quiet (fail)
  obtain ⟨w1, hw1⟩ : ∃ w1, w1 = w.drewN nq := ⟨_, rfl⟩
  rw [← hw1]
  have HO1 : Hid (OwnS B w1 (.slice (some ⟨g, 0, none⟩) (r.length + 1) c) (r ++ [x])) := Lib.hid (HO.out.below (by rw [hw1]; exact below_drewN _ _))
  have HB1 : Hid (Below B w w1) := Lib.hid (by rw [hw1]; exact (below_drewN w nq).mono hB)
  have hB1 : B ≤ w1.heap.size := by rw [hw1]; exact hB
  clear hw1 c0 c1 hf
  go_wp2_with (at_builtin; refine wpList_append_own_at _ (by rfl) (.tmp 35) (.tmp 38) 80 (by rfl) B 79 i1 _ 2 16 Tryz.underlying80 hi hz0 hz1 hz2 (by rfl) (by omega) _ (r ++ [x]).length (spsC (r ++ [x])) (by rfl) (by exact World.ownsRow.alloc HO1.out _) ⟨w1.heap.size, 0, none⟩ 1 1 [.int .i64 (no : Int), .int .i64 1] (by rfl) (by rfl) (by exact news2 ((no : Int), 1) rfl) (one2 ((no : Int), 1)) (Nat.le_trans (show (r ++ [x]).length + 1 ≤ 1000000 by rw [HLen.out]; omega) (by decide)) (by rw [HLen.out]; omega) (by simp; omega) ?_; intro v' w' hown' hgrow' hnil' hat')
  obtain ⟨A', c', hA⟩ := (own_snoc (l := r ++ [x]) (x := ((no : Int), 1)) hown').sps.form
  have HO' : Hid (OwnS B w' v' (r ++ [x] ++ [((no : Int), 1)])) := Lib.hid (own_snoc (l := r ++ [x]) (x := ((no : Int), 1)) hown')
  have HG : Hid (Below B w w') := Lib.hid (below_grown (HB1.out.alloc (by omega) _) hgrow' HO1.out.ge (by simp; omega))
  clear hown' hgrow' hnil' hat'
  subst hA
  go_wp2_with fail
  go_ret
  exact ⟨_, rfl, HO'.out, HG.out⟩

theorem with_calls (A : Option Addr) (n c no B : Nat) (r : List (Int × Int)) (w : World) (ho : OwnS B w (.slice A n c) r) (hB : B ≤ w.heap.size) (hr : r.length ≤ 600) (ha : ∀ x ∈ r, 0 ≤ x.1 ∧ 1 ≤ x.2 ∧ x.1 + x.2 ≤ 600) (hno : no ≤ 600) :
    Calls Tryz.prog 89 #[.slice A n c, .int .i64 (no : Nat)] w fun e w' => ∃ v, e = .returned v ∧ OwnS B w' v (addP r no) ∧ Below B w w' := by
  rcases snoc_cases r with rfl | ⟨r', x, rfl⟩
  · exact with_nil A n c no B w ho hB hno
  · have hx := ha x (by simp)
    have hl : r'.length ≤ 600 := by simp at hr; omega
    by_cases e : x.1 + x.2 = no
    · rw [addP_on _ _ _ e]
      exact with_on A n c no B r' x w ho hB hl hx.1 (by omega) hno e
    · rw [addP_new _ _ _ e]
      exact with_new A n c no B r' x w ho hB hl hx.1 (by omega) hx.2.2 hno e
end Go.Proofs.YtgeiemccjionpaaGreat.Bit

/- BSome -/
namespace Go.Proofs.YtgeiemccjionpaaGreat.Bit
open Go.RowKit Go.Sort

theorem addP_len (r : List (Int × Int)) (i : Int) : (addP r i).length ≤ r.length + 1 := by
  rcases snoc_cases r with rfl | ⟨r', x, rfl⟩
  · exact Nat.le_refl _
  · by_cases e : x.1 + x.2 = i
    · rw [addP_on _ _ _ e]; simp
    · rw [addP_new _ _ _ e]; simp
theorem runsN_len (l : List UInt8) (k i : Nat) : (runsN l k i).length ≤ i := by
  induction i with
  | zero => exact Nat.le_refl _
  | succ i ih =>
    show (if _ then _ else _ : List (Int × Int)).length ≤ _
    split
    · have := addP_len (runsN l k i) i
      omega
    · omega
section
variable {l : List UInt8} {pages n : Int} {N k i : Nat}
theorem some_yes (hN : N = capN pages) (hk : k = n.toNat) (h : k ≤ freeN l i) (hi : i ≤ N) : someB l pages n = true ∧ someV l pages n = runsN l k i := by
  have e : someB l pages n = true := by
    unfold someB
    rw [← hN, ← hk, decide_eq_true_iff]
    exact Nat.le_trans h (freeN_mono l hi)
  refine ⟨e, ?_⟩
  unfold someV
  rw [if_pos e, ← hN, ← hk]
  exact runsN_full l k h hi
theorem some_no (hN : N = capN pages) (hk : k = n.toNat) (h : freeN l N < k) : someB l pages n = false ∧ someV l pages n = [] := by
  have e : someB l pages n = false := by
    unfold someB
    rw [← hN, ← hk, decide_eq_false_iff_not]
    omega
  refine ⟨e, ?_⟩
  unfold someV
  rw [if_neg (by rw [e]; simp)]
end

set_option maxRecDepth 100000 in
set_option maxHeartbeats 2000000 in
theorem some_few (l : List UInt8) (pages : Int) (k : Nat) (w : World) (hl : l.length ≤ 300) (hk : k ≤ 1000) (hp : pages ≤ 512) :
    Calls Tryz.prog 63 #[.string (strB l), .int .i64 pages, .int .i64 (k : Nat)] w fun e w' => ∃ v, e = .returned (.tuple #[v, .bool (someB l pages (k : Int))]) ∧ OwnS w.heap.size w' v (someV l pages (k : Int)) ∧ Below w.heap.size w w' := by
  obtain ⟨N, hN⟩ : ∃ N, N = capN pages := ⟨_, rfl⟩
  have hN1 : (N : Int) = max (min pages 512) 0 := by rw [hN]; unfold capN; omega
  have HN := Lib.hid hN
  have hk0 : k = (k : Int).toNat := by omega
  have hk2 : ¬ (k : Int) < 0 := by omega
  have HK0 := Lib.hid hk0
  have HL := Lib.hid (freeN_le l)
  have HM := Lib.hid (runsN_len l k)
  have HR := Lib.hid (runs_is l k)
  clear hN hk0
  have hn1 : ¬ (512 : Int) < pages := by omega
  go_enter Tryz.func63, Tryz.ntmps63
  go_wp2_with fail
  go_loopw [8, 9, 15] (fun u8 u9 u15 wr => ∃ (i lf : Nat) (A : Option Addr) (m c : Nat), i ≤ N ∧ u15 = .int .i64 (i : Nat) ∧ u9 = .int .i64 (lf : Nat) ∧ u8 = .slice A m c ∧ Hid (lf = k - freeN l i) ∧ Hid (OwnS w.heap.size wr (.slice A m c) (runsN l k i)) ∧ Hid (Below w.heap.size w wr)) (fun _ _ u _ => N - (intOf u).toNat)
  case atStart => exact ⟨0, k, none, 0, 0, Nat.zero_le _, rfl, rfl, rfl, Lib.hid (by show k = k - 0; omega), Lib.hid (OwnS.nil _ _), Lib.hid (Below.refl _ _)⟩
  case round =>
    obtain ⟨i, lf, A, m, c, hi, rfl, rfl, rfl, HF, HO, HB⟩ := hrel
    have hfi := HL.out i
    by_cases hlt : i < N
    · have g1 : (i : Int) < pages := by omega
      have g2 : (i : Int) < 512 := by omega
      by_cases hz : lf = 0
      · have HV := Lib.hid (some_yes HN.out HK0.out (show k ≤ freeN l i by have := HF.out; omega) (Nat.le_of_lt hlt))
        subst hz
        go_wp2_with fail
        go_ret2
        exact ⟨.slice A m c, by rw [HV.out.1]; rfl, by rw [HV.out.2]; exact HO.out, HB.out⟩
      · have hz2 : ((lf : Int) == 0) = false := by rw [beq_eq_false_iff_ne]; omega
        have hlf : lf ≤ 1000 := by have := HF.out; omega
        go_wp2_with fail
        (with_reducible refine (taken_nat l i _ hl).mono ?_)
        rintro e w2 ⟨rfl, hB⟩
        replace HO := Lib.hid (HO.out.below hB)
        replace HB := Lib.hid (below_trans2 HB.out hB)
        clear hB
        have hfk : freeN l i < k := by have := HF.out; omega
        cases ht : tk l i with
        | true =>
          have HE : Hid (runsN l k (i + 1) = runsN l k i) := Lib.hid (by show (if _ then _ else _) = _; rw [if_neg (fun h => by rw [ht] at h; cases h.2)])
          have HE2 : Hid (freeN l (i + 1) = freeN l i) := Lib.hid (freeN_taken ht)
          go_wp2_with fail
          exact ⟨⟨i + 1, lf, A, m, c, by omega, by go_num, rfl, rfl, Lib.hid (by rw [HE2.out]; exact HF.out), Lib.hid (by rw [HE.out]; exact HO.out), HB⟩, by simp [intOf]; omega⟩
        | false =>
          have HE : Hid (runsN l k (i + 1) = addP (runsN l k i) i) := Lib.hid (by show (if _ then _ else _) = _; rw [if_pos ⟨hfk, ht⟩])
          have HE2 : Hid (freeN l (i + 1) = freeN l i + 1) := Lib.hid (freeN_free ht)
          go_wp2_with fail
          (with_reducible refine (with_calls A m c i w.heap.size (runsN l k i) _ HO.out HB.out.size (by have := HM.out i; omega) (fun x hx => by have := (HR.out i).all x hx; omega) (by omega)).mono ?_)
          rintro e w3 ⟨v, rfl, hO, hB⟩
          obtain ⟨A2, c2, hA⟩ := hO.sps.form
          subst hA
          replace HO := Lib.hid hO
          replace HB := Lib.hid (HB.out.trans hB)
          clear hO hB
          go_wp2_with fail
          exact ⟨⟨i + 1, lf - 1, A2, _, c2, by omega, by go_num, by go_num, rfl, Lib.hid (by rw [HE2.out]; have := HF.out; omega), Lib.hid (by rw [HE.out]; exact HO.out), HB⟩, by simp [intOf]; omega⟩
    · obtain rfl : i = N := by omega
      have g1 : ¬ (i : Int) < pages := by omega
      clear hN1 hlt
      by_cases hz : lf = 0
      · have HV := Lib.hid (some_yes HN.out HK0.out (show k ≤ freeN l i by have := HF.out; omega) (Nat.le_refl _))
        subst hz
        go_wp2_with fail
        go_ret2
        exact ⟨.slice A m c, by rw [HV.out.1]; rfl, by rw [HV.out.2]; exact HO.out, HB.out⟩
      · have hz2 : (0 : Int) < (lf : Int) := by omega
        have HV := Lib.hid (some_no HN.out HK0.out (show freeN l i < k by have := HF.out; omega))
        go_wp2_with fail
        go_ret2
        exact ⟨.slice none 0 0, by rw [HV.out.1]; rfl, by rw [HV.out.2]; exact OwnS.nil _ _, HB.out⟩

set_option maxRecDepth 100000 in
set_option maxHeartbeats 2000000 in
theorem some_big (l : List UInt8) (pages : Int) (k : Nat) (w : World) (hl : l.length ≤ 300) (hk : k ≤ 1000) (hp : 512 < pages) :
    Calls Tryz.prog 63 #[.string (strB l), .int .i64 pages, .int .i64 (k : Nat)] w fun e w' => ∃ v, e = .returned (.tuple #[v, .bool (someB l pages (k : Int))]) ∧ OwnS w.heap.size w' v (someV l pages (k : Int)) ∧ Below w.heap.size w w' := by
  obtain ⟨N, hN⟩ : ∃ N, N = capN pages := ⟨_, rfl⟩
  have hN1 : (N : Int) = max (min pages 512) 0 := by rw [hN]; unfold capN; omega
  have HN := Lib.hid hN
  have hk0 : k = (k : Int).toNat := by omega
  have hk2 : ¬ (k : Int) < 0 := by omega
  have HK0 := Lib.hid hk0
  have HL := Lib.hid (freeN_le l)
  have HM := Lib.hid (runsN_len l k)
  have HR := Lib.hid (runs_is l k)
  clear hN hk0
  have hn1 : (512 : Int) < pages := by omega
  go_enter Tryz.func63, Tryz.ntmps63
  go_wp2_with fail
  go_loopw [8, 9, 15] (fun u8 u9 u15 wr => ∃ (i lf : Nat) (A : Option Addr) (m c : Nat), i ≤ N ∧ u15 = .int .i64 (i : Nat) ∧ u9 = .int .i64 (lf : Nat) ∧ u8 = .slice A m c ∧ Hid (lf = k - freeN l i) ∧ Hid (OwnS w.heap.size wr (.slice A m c) (runsN l k i)) ∧ Hid (Below w.heap.size w wr)) (fun _ _ u _ => N - (intOf u).toNat)
  case atStart => exact ⟨0, k, none, 0, 0, Nat.zero_le _, rfl, rfl, rfl, Lib.hid (by show k = k - 0; omega), Lib.hid (OwnS.nil _ _), Lib.hid (Below.refl _ _)⟩
  case round =>
    obtain ⟨i, lf, A, m, c, hi, rfl, rfl, rfl, HF, HO, HB⟩ := hrel
    have hfi := HL.out i
    by_cases hlt : i < N
    · have g1 : (i : Int) < pages := by omega
      have g2 : (i : Int) < 512 := by omega
      by_cases hz : lf = 0
      · have HV := Lib.hid (some_yes HN.out HK0.out (show k ≤ freeN l i by have := HF.out; omega) (Nat.le_of_lt hlt))
        subst hz
        go_wp2_with fail
        go_ret2
        exact ⟨.slice A m c, by rw [HV.out.1]; rfl, by rw [HV.out.2]; exact HO.out, HB.out⟩
      · have hz2 : ((lf : Int) == 0) = false := by rw [beq_eq_false_iff_ne]; omega
        have hlf : lf ≤ 1000 := by have := HF.out; omega
        go_wp2_with fail
        (with_reducible refine (taken_nat l i _ hl).mono ?_)
        rintro e w2 ⟨rfl, hB⟩
        replace HO := Lib.hid (HO.out.below hB)
        replace HB := Lib.hid (below_trans2 HB.out hB)
        clear hB
        have hfk : freeN l i < k := by have := HF.out; omega
        cases ht : tk l i with
        | true =>
          have HE : Hid (runsN l k (i + 1) = runsN l k i) := Lib.hid (by show (if _ then _ else _) = _; rw [if_neg (fun h => by rw [ht] at h; cases h.2)])
          have HE2 : Hid (freeN l (i + 1) = freeN l i) := Lib.hid (freeN_taken ht)
          go_wp2_with fail
          exact ⟨⟨i + 1, lf, A, m, c, by omega, by go_num, rfl, rfl, Lib.hid (by rw [HE2.out]; exact HF.out), Lib.hid (by rw [HE.out]; exact HO.out), HB⟩, by simp [intOf]; omega⟩
        | false =>
          have HE : Hid (runsN l k (i + 1) = addP (runsN l k i) i) := Lib.hid (by show (if _ then _ else _) = _; rw [if_pos ⟨hfk, ht⟩])
          have HE2 : Hid (freeN l (i + 1) = freeN l i + 1) := Lib.hid (freeN_free ht)
          go_wp2_with fail
          (with_reducible refine (with_calls A m c i w.heap.size (runsN l k i) _ HO.out HB.out.size (by have := HM.out i; omega) (fun x hx => by have := (HR.out i).all x hx; omega) (by omega)).mono ?_)
          rintro e w3 ⟨v, rfl, hO, hB⟩
          obtain ⟨A2, c2, hA⟩ := hO.sps.form
          subst hA
          replace HO := Lib.hid hO
          replace HB := Lib.hid (HB.out.trans hB)
          clear hO hB
          go_wp2_with fail
          exact ⟨⟨i + 1, lf - 1, A2, _, c2, by omega, by go_num, by go_num, rfl, Lib.hid (by rw [HE2.out]; have := HF.out; omega), Lib.hid (by rw [HE.out]; exact HO.out), HB⟩, by simp [intOf]; omega⟩
    · obtain rfl : i = N := by omega
      have g1 : ¬ (i : Int) < 512 := by omega
      clear hN1 hlt
      by_cases hz : lf = 0
      · have HV := Lib.hid (some_yes HN.out HK0.out (show k ≤ freeN l i by have := HF.out; omega) (Nat.le_refl _))
        subst hz
        go_wp2_with fail
        go_ret2
        exact ⟨.slice A m c, by rw [HV.out.1]; rfl, by rw [HV.out.2]; exact HO.out, HB.out⟩
      · have hz2 : (0 : Int) < (lf : Int) := by omega
        have HV := Lib.hid (some_no HN.out HK0.out (show freeN l i < k by have := HF.out; omega))
        go_wp2_with fail
        go_ret2
        exact ⟨.slice none 0 0, by rw [HV.out.1]; rfl, by rw [HV.out.2]; exact OwnS.nil _ _, HB.out⟩

set_option maxRecDepth 100000 in
set_option maxHeartbeats 2000000 in
theorem some_few0 (l : List UInt8) (pages : Int) (n : Int) (w : World) (_hl : l.length ≤ 300) (hn : n < 0) (hp : pages ≤ 512) :
    Calls Tryz.prog 63 #[.string (strB l), .int .i64 pages, .int .i64 n] w fun e w' => ∃ v, e = .returned (.tuple #[v, .bool (someB l pages n)]) ∧ OwnS w.heap.size w' v (someV l pages n) ∧ Below w.heap.size w w' := by
  obtain ⟨N, hN⟩ : ∃ N, N = capN pages := ⟨_, rfl⟩
  have hN1 : (N : Int) = max (min pages 512) 0 := by rw [hN]; unfold capN; omega
  have HN := Lib.hid hN
  obtain ⟨k, hk0⟩ : ∃ k, k = n.toNat := ⟨_, rfl⟩
  have HK1 : Hid (k = 0) := Lib.hid (by omega)
  have HK0 := Lib.hid hk0
  have HL := Lib.hid (freeN_le l)
  clear hN hk0
  have hn1 : ¬ (512 : Int) < pages := by omega
  go_enter Tryz.func63, Tryz.ntmps63
  go_wp2_with fail
  go_loopw [8, 9, 15] (fun u8 u9 u15 wr => ∃ (i lf : Nat) (A : Option Addr) (m c : Nat), i ≤ N ∧ u15 = .int .i64 (i : Nat) ∧ u9 = .int .i64 (lf : Nat) ∧ u8 = .slice A m c ∧ Hid (lf = k - freeN l i) ∧ Hid (OwnS w.heap.size wr (.slice A m c) (runsN l k i)) ∧ Hid (Below w.heap.size w wr)) (fun _ _ u _ => N - (intOf u).toNat)
  case atStart => exact ⟨0, 0, none, 0, 0, Nat.zero_le _, rfl, rfl, rfl, Lib.hid (by have := HK1.out; omega), Lib.hid (OwnS.nil _ _), Lib.hid (Below.refl _ _)⟩
  case round =>
    obtain ⟨i, lf, A, m, c, hi, rfl, rfl, rfl, HF, HO, HB⟩ := hrel
    have hfi := HL.out i
    by_cases hlt : i < N
    · have g1 : (i : Int) < pages := by omega
      have g2 : (i : Int) < 512 := by omega
      by_cases hz : lf = 0
      · have HV := Lib.hid (some_yes HN.out HK0.out (show k ≤ freeN l i by have := HF.out; omega) (Nat.le_of_lt hlt))
        subst hz
        go_wp2_with fail
        go_ret2
        exact ⟨.slice A m c, by rw [HV.out.1]; rfl, by rw [HV.out.2]; exact HO.out, HB.out⟩
      · exact absurd (show lf = 0 by have := HF.out; have := HK1.out; omega) hz
    · obtain rfl : i = N := by omega
      have g1 : ¬ (i : Int) < pages := by omega
      clear hN1 hlt
      by_cases hz : lf = 0
      · have HV := Lib.hid (some_yes HN.out HK0.out (show k ≤ freeN l i by have := HF.out; omega) (Nat.le_refl _))
        subst hz
        go_wp2_with fail
        go_ret2
        exact ⟨.slice A m c, by rw [HV.out.1]; rfl, by rw [HV.out.2]; exact HO.out, HB.out⟩
      · exact absurd (show lf = 0 by have := HF.out; have := HK1.out; omega) hz

set_option maxRecDepth 100000 in
set_option maxHeartbeats 2000000 in
theorem some_big0 (l : List UInt8) (pages : Int) (n : Int) (w : World) (_hl : l.length ≤ 300) (hn : n < 0) (hp : 512 < pages) :
    Calls Tryz.prog 63 #[.string (strB l), .int .i64 pages, .int .i64 n] w fun e w' => ∃ v, e = .returned (.tuple #[v, .bool (someB l pages n)]) ∧ OwnS w.heap.size w' v (someV l pages n) ∧ Below w.heap.size w w' := by
  obtain ⟨N, hN⟩ : ∃ N, N = capN pages := ⟨_, rfl⟩
  have hN1 : (N : Int) = max (min pages 512) 0 := by rw [hN]; unfold capN; omega
  have HN := Lib.hid hN
  obtain ⟨k, hk0⟩ : ∃ k, k = n.toNat := ⟨_, rfl⟩
  have HK1 : Hid (k = 0) := Lib.hid (by omega)
  have HK0 := Lib.hid hk0
  have HL := Lib.hid (freeN_le l)
  clear hN hk0
  have hn1 : (512 : Int) < pages := by omega
  go_enter Tryz.func63, Tryz.ntmps63
  go_wp2_with fail
  go_loopw [8, 9, 15] (fun u8 u9 u15 wr => ∃ (i lf : Nat) (A : Option Addr) (m c : Nat), i ≤ N ∧ u15 = .int .i64 (i : Nat) ∧ u9 = .int .i64 (lf : Nat) ∧ u8 = .slice A m c ∧ Hid (lf = k - freeN l i) ∧ Hid (OwnS w.heap.size wr (.slice A m c) (runsN l k i)) ∧ Hid (Below w.heap.size w wr)) (fun _ _ u _ => N - (intOf u).toNat)
  case atStart => exact ⟨0, 0, none, 0, 0, Nat.zero_le _, rfl, rfl, rfl, Lib.hid (by have := HK1.out; omega), Lib.hid (OwnS.nil _ _), Lib.hid (Below.refl _ _)⟩
  case round =>
    obtain ⟨i, lf, A, m, c, hi, rfl, rfl, rfl, HF, HO, HB⟩ := hrel
    have hfi := HL.out i
    by_cases hlt : i < N
    · have g1 : (i : Int) < pages := by omega
      have g2 : (i : Int) < 512 := by omega
      by_cases hz : lf = 0
      · have HV := Lib.hid (some_yes HN.out HK0.out (show k ≤ freeN l i by have := HF.out; omega) (Nat.le_of_lt hlt))
        subst hz
        go_wp2_with fail
        go_ret2
        exact ⟨.slice A m c, by rw [HV.out.1]; rfl, by rw [HV.out.2]; exact HO.out, HB.out⟩
      · exact absurd (show lf = 0 by have := HF.out; have := HK1.out; omega) hz
    · obtain rfl : i = N := by omega
      have g1 : ¬ (i : Int) < 512 := by omega
      clear hN1 hlt
      by_cases hz : lf = 0
      · have HV := Lib.hid (some_yes HN.out HK0.out (show k ≤ freeN l i by have := HF.out; omega) (Nat.le_refl _))
        subst hz
        go_wp2_with fail
        go_ret2
        exact ⟨.slice A m c, by rw [HV.out.1]; rfl, by rw [HV.out.2]; exact HO.out, HB.out⟩
      · exact absurd (show lf = 0 by have := HF.out; have := HK1.out; omega) hz

theorem some_calls (l : List UInt8) (pages n : Int) (w : World) (hl : l.length ≤ 300) (hn : n ≤ 1000) :
    Calls Tryz.prog 63 #[.string (strB l), .int .i64 pages, .int .i64 n] w fun e w' => ∃ v, e = .returned (.tuple #[v, .bool (someB l pages n)]) ∧ OwnS w.heap.size w' v (someV l pages n) ∧ Below w.heap.size w w' := by
  by_cases h1 : n < 0
  · by_cases h : pages ≤ 512
    · exact some_few0 l pages n w hl h1 h
    · exact some_big0 l pages n w hl h1 (by omega)
  · obtain ⟨k, rfl⟩ := Int.eq_ofNat_of_zero_le (show 0 ≤ n by omega)
    by_cases h : pages ≤ 512
    · exact some_few l pages k w hl (by omega) h
    · exact some_big l pages k w hl (by omega) (by omega)

end Go.Proofs.YtgeiemccjionpaaGreat.Bit

/- BRSome -/
namespace Go.Proofs.YtgeiemccjionpaaGreat.Bit
open Go.RowKit Go.Sort

set_option maxRecDepth 100000 in
set_option maxHeartbeats 4000000 in
theorem rsome_few (l : List UInt8) (pages : Int) (k : Nat) (w : World) (hl : l.length ≤ 300) (hk : k ≤ 1000) (hp : pages ≤ 512) :
    Calls Tryz.prog 41 #[.string (strB l), .int .i64 pages, .int .i64 (k : Nat)] w fun e w' => ∃ v, e = .returned (.tuple #[v, .bool (someB l pages (k : Int))]) ∧ OwnS w.heap.size w' v (someV l pages (k : Int)) ∧ Below w.heap.size w w' := by
  obtain ⟨i1, hi0, hz0, hz1, hz2⟩ := info_parts info26
  obtain ⟨N, hN⟩ : ∃ N, N = capN pages := ⟨_, rfl⟩
  have hN1 : (N : Int) = max (min pages 512) 0 := by rw [hN]; unfold capN; omega
  have HN := Lib.hid hN
  have HK0 : Hid (k = (k : Int).toNat) := Lib.hid (by omega)
  have HL := Lib.hid (freeN_le l)
  have HM := Lib.hid (runsN_len l k)
  have HR := Lib.hid (runs_is l k)
  clear hN
  go_enter Tryz.func41, Tryz.ntmps41
  go_wp2_with fail
  go_loopw [2, 8, 9] (fun u2 u8 u9 wr => ∃ (i lf : Nat) (A : Option Addr) (m c : Nat), i ≤ N ∧ u9 = .int .i64 (i : Nat) ∧ u2 = .int .i64 (lf : Nat) ∧ u8 = .slice A m c ∧ Hid (lf = k - freeN l i) ∧ Hid (OwnS w.heap.size wr (.slice A m c) (runsN l k i)) ∧ Hid (Below w.heap.size w wr)) (fun _ _ u _ => N - (intOf u).toNat)
  case atStart => exact ⟨0, k, none, 0, 0, Nat.zero_le _, rfl, rfl, rfl, Lib.hid (by show k = k - 0; omega), Lib.hid (OwnS.nil _ _), Lib.hid (Below.refl _ _)⟩
  case round =>
    obtain ⟨i, lf, A, m, c, hi, rfl, rfl, rfl, HF, HO, HB⟩ := hrel
    obtain ⟨w2, rfl⟩ : ∃ w2, w2 = wr := ⟨_, rfl⟩
    have hfi := HL.out i
    by_cases hlt : i < N
    · have g1 : (i : Int) < pages := by omega
      have g2 : (i : Int) < 512 := by omega
      by_cases hz : lf = 0
      · have HV := Lib.hid (some_yes HN.out HK0.out (show k ≤ freeN l i by have := HF.out; omega) (Nat.le_of_lt hlt))
        subst hz
        go_wp2_with fail
        go_ret2
        exact ⟨.slice A m c, by rw [HV.out.1]; rfl, by rw [HV.out.2]; exact HO.out, HB.out⟩
      · have hlz : (0 : Int) < (lf : Int) := by omega
        have hlf : lf ≤ 1000 := by have := HF.out; omega
        have hfk : freeN l i < k := by have := HF.out; omega
        go_wp2_with fail
        (with_reducible refine (rtaken_nat l i _ hl).mono ?_)
        rintro e w' ⟨rfl, hB⟩
        obtain rfl := hB
        cases ht : tk l i with
        | true =>
          have HE : Hid (runsN l k (i + 1) = runsN l k i) := Lib.hid (by show (if _ then _ else _) = _; rw [if_neg (fun h => by rw [ht] at h; cases h.2)])
          have HE2 : Hid (freeN l (i + 1) = freeN l i) := Lib.hid (freeN_taken ht)
          go_wp2_with fail
          exact ⟨⟨i + 1, lf, A, m, c, by omega, by go_num, rfl, rfl, Lib.hid (by rw [HE2.out]; exact HF.out), Lib.hid (by rw [HE.out]; exact HO.out), HB⟩, by simp [intOf]; omega⟩
        | false =>
          have HE0 : runsN l k (i + 1) = addP (runsN l k i) i := by show (if _ then _ else _) = _; rw [if_pos ⟨hfk, ht⟩]
          have HE2 : Hid (freeN l (i + 1) = freeN l i + 1) := Lib.hid (freeN_free ht)
          have hml := HM.out i
          rcases snoc_cases (runsN l k i) with hr | ⟨r, x, hr⟩
          · rw [hr, addP_nil] at HE0
            have HE : Hid (runsN l k (i + 1) = [] ++ [((i : Int), 1)]) := Lib.hid HE0
            have HOL : Hid (OwnS w.heap.size w' (.slice A m c) []) := Lib.hid (by rw [← hr]; exact HO.out)
            have HLL : Hid (([] : List (Int × Int)).length ≤ 512) := Lib.hid (by simp)
            obtain rfl : m = 0 := HOL.out.sps.at_.1.symm
            clear HE0 hr HO
            go_wp2_with fail
            have hd : decide ((0 : Int) ≤ -1) = false := by decide
            go_quiet (fail)
            obtain ⟨w1, hw1⟩ : ∃ w1, w1 = w'.drewN nq := ⟨_, rfl⟩
            rw [← hw1]
            have HO1 : Hid (OwnS w.heap.size w1 (.slice A 0 c) ([] : List (Int × Int))) := Lib.hid (HOL.out.below (by rw [hw1]; exact below_drewN _ _))
            have HB1 : Hid (Below w.heap.size w w1) := Lib.hid (by rw [hw1]; exact below_trans2 HB.out (below_drewN w' nq))
            have hB1 : w.heap.size ≤ w1.heap.size := HB1.out.size
            clear hw1
            go_wp2_with (at_builtin; refine wpList_append_own_at _ (by rfl) (.tmp 55) (.tmp 58) 80 (by rfl) w.heap.size 79 i1 _ 2 16 Tryz.underlying80 hi0 hz0 hz1 hz2 (by rfl) (by omega) _ ([] : List (Int × Int)).length (spsC ([] : List (Int × Int))) (by rfl) (by exact World.ownsRow.alloc HO1.out _) ⟨w1.heap.size, 0, none⟩ 1 1 [.int .i64 (i : Int), .int .i64 1] (by rfl) (by rfl) (by exact news2 ((i : Int), 1) rfl) (one2 ((i : Int), 1)) (Nat.le_trans (show ([] : List (Int × Int)).length + 1 ≤ 1000000 by have := HLL.out; omega) (by decide)) (by have := HLL.out; omega) (by simp; omega) ?_; intro v' w9 hown' hgrow' hnil' hat')
            obtain ⟨A', c', hA⟩ := (own_snoc (l := ([] : List (Int × Int))) (x := ((i : Int), 1)) hown').sps.form
            have HO' : Hid (OwnS w.heap.size w9 v' (([] : List (Int × Int)) ++ [((i : Int), 1)])) := Lib.hid (own_snoc (l := ([] : List (Int × Int))) (x := ((i : Int), 1)) hown')
            have HG : Hid (Below w.heap.size w w9) := Lib.hid (below_grown (HB1.out.alloc (by omega) _) hgrow' HO1.out.ge (by simp; omega))
            clear hown' hgrow' hnil' hat'
            subst hA
            go_wp2_with fail
            exact ⟨⟨i + 1, lf - 1, A', _, c', by omega, by go_num, by go_num, rfl, Lib.hid (by rw [HE2.out]; have := HF.out; omega), Lib.hid (by rw [HE.out]; exact HO'.out), HG⟩, by simp [intOf]; omega⟩
          · have hHO := HO.out
            rw [hr] at hHO HE0
            obtain ⟨rfl, hc, g, rfl, hg, hgl, c0, c1, hf, hset⟩ := hHO.last
            have HLL : Hid ((r ++ [x]).length ≤ 512) := Lib.hid (by rw [← hr]; omega)
            have hrl : r.length ≤ 512 := by have := HLL.out; simp at this; omega
            obtain ⟨hx0, hx1, hx2⟩ := (HR.out i).all x (by rw [hr]; simp)
            have hd3 : decide ((0 : Int) ≤ (r.length : Int)) = true := by rw [decide_eq_true_iff]; omega
            have hw1 : (r.length : Int) + 1 - 1 = (r.length : Int) := by omega
            have HOL := Lib.hid hHO
            have HS := Lib.hid hset
            clear hHO hset HO hr
            by_cases he : x.1 + x.2 = i
            · rw [addP_on _ _ _ he] at HE0
              have HE := Lib.hid HE0
              have hd : (x.1 + x.2 == (i : Int)) = true := by rw [beq_iff_eq]; exact he
              clear HE0 he HOL
              go_wp2_with fail
              go_quiet (fail)
              go_wp2_with fail
              exact ⟨⟨i + 1, lf - 1, _, _, c, by omega, by go_num, by go_num, rfl, Lib.hid (by rw [HE2.out]; have := HF.out; omega), Lib.hid (by rw [HE.out]; exact HS.out (x.2 + 1)), Lib.hid ((below_trans2 HB.out (below_drewN _ nq)).setCell hg _)⟩, by simp [intOf]; omega⟩
            · rw [addP_new _ _ _ he] at HE0
              have HE := Lib.hid HE0
              have hd : (x.1 + x.2 == (i : Int)) = false := by rw [beq_eq_false_iff_ne]; exact he
              clear HE0 he HS
              go_wp2_with fail
              go_quiet (fail)
              clear c0 c1 hf
              obtain ⟨w1, hw1⟩ : ∃ w1, w1 = w'.drewN nq := ⟨_, rfl⟩
              rw [← hw1]
              have HO1 : Hid (OwnS w.heap.size w1 (.slice (some ⟨g, 0, none⟩) (r.length + 1) c) (r ++ [x])) := Lib.hid (HOL.out.below (by rw [hw1]; exact below_drewN _ _))
              have HB1 : Hid (Below w.heap.size w w1) := Lib.hid (by rw [hw1]; exact below_trans2 HB.out (below_drewN w' nq))
              have hB1 : w.heap.size ≤ w1.heap.size := HB1.out.size
              clear hw1
              go_wp2_with (at_builtin; refine wpList_append_own_at _ (by rfl) (.tmp 55) (.tmp 58) 80 (by rfl) w.heap.size 79 i1 _ 2 16 Tryz.underlying80 hi0 hz0 hz1 hz2 (by rfl) (by omega) _ (r ++ [x]).length (spsC (r ++ [x])) (by rfl) (by exact World.ownsRow.alloc HO1.out _) ⟨w1.heap.size, 0, none⟩ 1 1 [.int .i64 (i : Int), .int .i64 1] (by rfl) (by rfl) (by exact news2 ((i : Int), 1) rfl) (one2 ((i : Int), 1)) (Nat.le_trans (show (r ++ [x]).length + 1 ≤ 1000000 by have := HLL.out; omega) (by decide)) (by have := HLL.out; omega) (by simp; omega) ?_; intro v' w9 hown' hgrow' hnil' hat')
              obtain ⟨A', c', hA⟩ := (own_snoc (l := (r ++ [x])) (x := ((i : Int), 1)) hown').sps.form
              have HO' : Hid (OwnS w.heap.size w9 v' ((r ++ [x]) ++ [((i : Int), 1)])) := Lib.hid (own_snoc (l := (r ++ [x])) (x := ((i : Int), 1)) hown')
              have HG : Hid (Below w.heap.size w w9) := Lib.hid (below_grown (HB1.out.alloc (by omega) _) hgrow' HO1.out.ge (by simp; omega))
              clear hown' hgrow' hnil' hat'
              subst hA
              go_wp2_with fail
              exact ⟨⟨i + 1, lf - 1, A', _, c', by omega, by go_num, by go_num, rfl, Lib.hid (by rw [HE2.out]; have := HF.out; omega), Lib.hid (by rw [HE.out]; exact HO'.out), HG⟩, by simp [intOf]; omega⟩
    · obtain rfl : i = N := by omega
      have g1 : ¬ (i : Int) < pages := by omega
      clear hN1 hlt
      by_cases hz : lf = 0
      · have HV := Lib.hid (some_yes HN.out HK0.out (show k ≤ freeN l i by have := HF.out; omega) (Nat.le_refl _))
        subst hz
        go_wp2_with fail
        go_ret2
        exact ⟨.slice A m c, by rw [HV.out.1]; rfl, by rw [HV.out.2]; exact HO.out, HB.out⟩
      · have hlz : (0 : Int) < (lf : Int) := by omega
        have HV := Lib.hid (some_no HN.out HK0.out (show freeN l i < k by have := HF.out; omega))
        go_wp2_with fail
        go_ret2
        exact ⟨.slice none 0 0, by rw [HV.out.1]; rfl, by rw [HV.out.2]; exact OwnS.nil _ _, HB.out⟩

set_option maxRecDepth 100000 in
set_option maxHeartbeats 4000000 in
theorem rsome_big (l : List UInt8) (pages : Int) (k : Nat) (w : World) (hl : l.length ≤ 300) (hk : k ≤ 1000) (hp : 512 < pages) :
    Calls Tryz.prog 41 #[.string (strB l), .int .i64 pages, .int .i64 (k : Nat)] w fun e w' => ∃ v, e = .returned (.tuple #[v, .bool (someB l pages (k : Int))]) ∧ OwnS w.heap.size w' v (someV l pages (k : Int)) ∧ Below w.heap.size w w' := by
  obtain ⟨i1, hi0, hz0, hz1, hz2⟩ := info_parts info26
  obtain ⟨N, hN⟩ : ∃ N, N = capN pages := ⟨_, rfl⟩
  have hN1 : (N : Int) = max (min pages 512) 0 := by rw [hN]; unfold capN; omega
  have HN := Lib.hid hN
  have HK0 : Hid (k = (k : Int).toNat) := Lib.hid (by omega)
  have HL := Lib.hid (freeN_le l)
  have HM := Lib.hid (runsN_len l k)
  have HR := Lib.hid (runs_is l k)
  clear hN
  go_enter Tryz.func41, Tryz.ntmps41
  go_wp2_with fail
  go_loopw [2, 8, 9] (fun u2 u8 u9 wr => ∃ (i lf : Nat) (A : Option Addr) (m c : Nat), i ≤ N ∧ u9 = .int .i64 (i : Nat) ∧ u2 = .int .i64 (lf : Nat) ∧ u8 = .slice A m c ∧ Hid (lf = k - freeN l i) ∧ Hid (OwnS w.heap.size wr (.slice A m c) (runsN l k i)) ∧ Hid (Below w.heap.size w wr)) (fun _ _ u _ => N - (intOf u).toNat)
  case atStart => exact ⟨0, k, none, 0, 0, Nat.zero_le _, rfl, rfl, rfl, Lib.hid (by show k = k - 0; omega), Lib.hid (OwnS.nil _ _), Lib.hid (Below.refl _ _)⟩
  case round =>
    obtain ⟨i, lf, A, m, c, hi, rfl, rfl, rfl, HF, HO, HB⟩ := hrel
    obtain ⟨w2, rfl⟩ : ∃ w2, w2 = wr := ⟨_, rfl⟩
    have hfi := HL.out i
    by_cases hlt : i < N
    · have g1 : (i : Int) < pages := by omega
      have g2 : (i : Int) < 512 := by omega
      by_cases hz : lf = 0
      · have HV := Lib.hid (some_yes HN.out HK0.out (show k ≤ freeN l i by have := HF.out; omega) (Nat.le_of_lt hlt))
        subst hz
        go_wp2_with fail
        go_ret2
        exact ⟨.slice A m c, by rw [HV.out.1]; rfl, by rw [HV.out.2]; exact HO.out, HB.out⟩
      · have hlz : (0 : Int) < (lf : Int) := by omega
        have hlf : lf ≤ 1000 := by have := HF.out; omega
        have hfk : freeN l i < k := by have := HF.out; omega
        go_wp2_with fail
        (with_reducible refine (rtaken_nat l i _ hl).mono ?_)
        rintro e w' ⟨rfl, hB⟩
        obtain rfl := hB
        cases ht : tk l i with
        | true =>
          have HE : Hid (runsN l k (i + 1) = runsN l k i) := Lib.hid (by show (if _ then _ else _) = _; rw [if_neg (fun h => by rw [ht] at h; cases h.2)])
          have HE2 : Hid (freeN l (i + 1) = freeN l i) := Lib.hid (freeN_taken ht)
          go_wp2_with fail
          exact ⟨⟨i + 1, lf, A, m, c, by omega, by go_num, rfl, rfl, Lib.hid (by rw [HE2.out]; exact HF.out), Lib.hid (by rw [HE.out]; exact HO.out), HB⟩, by simp [intOf]; omega⟩
        | false =>
          have HE0 : runsN l k (i + 1) = addP (runsN l k i) i := by show (if _ then _ else _) = _; rw [if_pos ⟨hfk, ht⟩]
          have HE2 : Hid (freeN l (i + 1) = freeN l i + 1) := Lib.hid (freeN_free ht)
          have hml := HM.out i
          rcases snoc_cases (runsN l k i) with hr | ⟨r, x, hr⟩
          · rw [hr, addP_nil] at HE0
            have HE : Hid (runsN l k (i + 1) = [] ++ [((i : Int), 1)]) := Lib.hid HE0
            have HOL : Hid (OwnS w.heap.size w' (.slice A m c) []) := Lib.hid (by rw [← hr]; exact HO.out)
            have HLL : Hid (([] : List (Int × Int)).length ≤ 512) := Lib.hid (by simp)
            obtain rfl : m = 0 := HOL.out.sps.at_.1.symm
            clear HE0 hr HO
            go_wp2_with fail
            have hd : decide ((0 : Int) ≤ -1) = false := by decide
            go_quiet (fail)
            obtain ⟨w1, hw1⟩ : ∃ w1, w1 = w'.drewN nq := ⟨_, rfl⟩
            rw [← hw1]
            have HO1 : Hid (OwnS w.heap.size w1 (.slice A 0 c) ([] : List (Int × Int))) := Lib.hid (HOL.out.below (by rw [hw1]; exact below_drewN _ _))
            have HB1 : Hid (Below w.heap.size w w1) := Lib.hid (by rw [hw1]; exact below_trans2 HB.out (below_drewN w' nq))
            have hB1 : w.heap.size ≤ w1.heap.size := HB1.out.size
            clear hw1
            go_wp2_with (at_builtin; refine wpList_append_own_at _ (by rfl) (.tmp 55) (.tmp 58) 80 (by rfl) w.heap.size 79 i1 _ 2 16 Tryz.underlying80 hi0 hz0 hz1 hz2 (by rfl) (by omega) _ ([] : List (Int × Int)).length (spsC ([] : List (Int × Int))) (by rfl) (by exact World.ownsRow.alloc HO1.out _) ⟨w1.heap.size, 0, none⟩ 1 1 [.int .i64 (i : Int), .int .i64 1] (by rfl) (by rfl) (by exact news2 ((i : Int), 1) rfl) (one2 ((i : Int), 1)) (Nat.le_trans (show ([] : List (Int × Int)).length + 1 ≤ 1000000 by have := HLL.out; omega) (by decide)) (by have := HLL.out; omega) (by simp; omega) ?_; intro v' w9 hown' hgrow' hnil' hat')
            obtain ⟨A', c', hA⟩ := (own_snoc (l := ([] : List (Int × Int))) (x := ((i : Int), 1)) hown').sps.form
            have HO' : Hid (OwnS w.heap.size w9 v' (([] : List (Int × Int)) ++ [((i : Int), 1)])) := Lib.hid (own_snoc (l := ([] : List (Int × Int))) (x := ((i : Int), 1)) hown')
            have HG : Hid (Below w.heap.size w w9) := Lib.hid (below_grown (HB1.out.alloc (by omega) _) hgrow' HO1.out.ge (by simp; omega))
            clear hown' hgrow' hnil' hat'
            subst hA
            go_wp2_with fail
            exact ⟨⟨i + 1, lf - 1, A', _, c', by omega, by go_num, by go_num, rfl, Lib.hid (by rw [HE2.out]; have := HF.out; omega), Lib.hid (by rw [HE.out]; exact HO'.out), HG⟩, by simp [intOf]; omega⟩
          · have hHO := HO.out
            rw [hr] at hHO HE0
            obtain ⟨rfl, hc, g, rfl, hg, hgl, c0, c1, hf, hset⟩ := hHO.last
            have HLL : Hid ((r ++ [x]).length ≤ 512) := Lib.hid (by rw [← hr]; omega)
            have hrl : r.length ≤ 512 := by have := HLL.out; simp at this; omega
            obtain ⟨hx0, hx1, hx2⟩ := (HR.out i).all x (by rw [hr]; simp)
            have hd3 : decide ((0 : Int) ≤ (r.length : Int)) = true := by rw [decide_eq_true_iff]; omega
            have hw1 : (r.length : Int) + 1 - 1 = (r.length : Int) := by omega
            have HOL := Lib.hid hHO
            have HS := Lib.hid hset
            clear hHO hset HO hr
            by_cases he : x.1 + x.2 = i
            · rw [addP_on _ _ _ he] at HE0
              have HE := Lib.hid HE0
              have hd : (x.1 + x.2 == (i : Int)) = true := by rw [beq_iff_eq]; exact he
              clear HE0 he HOL
              go_wp2_with fail
              go_quiet (fail)
              go_wp2_with fail
              exact ⟨⟨i + 1, lf - 1, _, _, c, by omega, by go_num, by go_num, rfl, Lib.hid (by rw [HE2.out]; have := HF.out; omega), Lib.hid (by rw [HE.out]; exact HS.out (x.2 + 1)), Lib.hid ((below_trans2 HB.out (below_drewN _ nq)).setCell hg _)⟩, by simp [intOf]; omega⟩
            · rw [addP_new _ _ _ he] at HE0
              have HE := Lib.hid HE0
              have hd : (x.1 + x.2 == (i : Int)) = false := by rw [beq_eq_false_iff_ne]; exact he
              clear HE0 he HS
              go_wp2_with fail
              go_quiet (fail)
              clear c0 c1 hf
              obtain ⟨w1, hw1⟩ : ∃ w1, w1 = w'.drewN nq := ⟨_, rfl⟩
              rw [← hw1]
              have HO1 : Hid (OwnS w.heap.size w1 (.slice (some ⟨g, 0, none⟩) (r.length + 1) c) (r ++ [x])) := Lib.hid (HOL.out.below (by rw [hw1]; exact below_drewN _ _))
              have HB1 : Hid (Below w.heap.size w w1) := Lib.hid (by rw [hw1]; exact below_trans2 HB.out (below_drewN w' nq))
              have hB1 : w.heap.size ≤ w1.heap.size := HB1.out.size
              clear hw1
              go_wp2_with (at_builtin; refine wpList_append_own_at _ (by rfl) (.tmp 55) (.tmp 58) 80 (by rfl) w.heap.size 79 i1 _ 2 16 Tryz.underlying80 hi0 hz0 hz1 hz2 (by rfl) (by omega) _ (r ++ [x]).length (spsC (r ++ [x])) (by rfl) (by exact World.ownsRow.alloc HO1.out _) ⟨w1.heap.size, 0, none⟩ 1 1 [.int .i64 (i : Int), .int .i64 1] (by rfl) (by rfl) (by exact news2 ((i : Int), 1) rfl) (one2 ((i : Int), 1)) (Nat.le_trans (show (r ++ [x]).length + 1 ≤ 1000000 by have := HLL.out; omega) (by decide)) (by have := HLL.out; omega) (by simp; omega) ?_; intro v' w9 hown' hgrow' hnil' hat')
              obtain ⟨A', c', hA⟩ := (own_snoc (l := (r ++ [x])) (x := ((i : Int), 1)) hown').sps.form
              have HO' : Hid (OwnS w.heap.size w9 v' ((r ++ [x]) ++ [((i : Int), 1)])) := Lib.hid (own_snoc (l := (r ++ [x])) (x := ((i : Int), 1)) hown')
              have HG : Hid (Below w.heap.size w w9) := Lib.hid (below_grown (HB1.out.alloc (by omega) _) hgrow' HO1.out.ge (by simp; omega))
              clear hown' hgrow' hnil' hat'
              subst hA
              go_wp2_with fail
              exact ⟨⟨i + 1, lf - 1, A', _, c', by omega, by go_num, by go_num, rfl, Lib.hid (by rw [HE2.out]; have := HF.out; omega), Lib.hid (by rw [HE.out]; exact HO'.out), HG⟩, by simp [intOf]; omega⟩
    · obtain rfl : i = N := by omega
      have g0 : (i : Int) < pages := by omega
      have g1 : ¬ (i : Int) < 512 := by omega
      clear hN1 hlt
      by_cases hz : lf = 0
      · have HV := Lib.hid (some_yes HN.out HK0.out (show k ≤ freeN l i by have := HF.out; omega) (Nat.le_refl _))
        subst hz
        go_wp2_with fail
        go_ret2
        exact ⟨.slice A m c, by rw [HV.out.1]; rfl, by rw [HV.out.2]; exact HO.out, HB.out⟩
      · have hlz : (0 : Int) < (lf : Int) := by omega
        have HV := Lib.hid (some_no HN.out HK0.out (show freeN l i < k by have := HF.out; omega))
        go_wp2_with fail
        go_ret2
        exact ⟨.slice none 0 0, by rw [HV.out.1]; rfl, by rw [HV.out.2]; exact OwnS.nil _ _, HB.out⟩

set_option maxRecDepth 100000 in
set_option maxHeartbeats 4000000 in
theorem rsome_none (l : List UInt8) (pages n : Int) (w : World) (hn : n ≤ 0) :
    Calls Tryz.prog 41 #[.string (strB l), .int .i64 pages, .int .i64 n] w fun e w' => ∃ v, e = .returned (.tuple #[v, .bool (someB l pages n)]) ∧ OwnS w.heap.size w' v (someV l pages n) ∧ Below w.heap.size w w' := by
  have HV := Lib.hid (some_yes (l := l) (pages := pages) (n := n) (N := capN pages) (k := 0) (i := 0) rfl (by omega) (Nat.zero_le _) (Nat.zero_le _))
  have g1 : ¬ (0 : Int) < n := by omega
  go_enter Tryz.func41, Tryz.ntmps41
  go_wp2_with fail
  refine wp_loop_rounds 1 ?_
  rw [rounds_succ]
  by_cases h : (0 : Int) < pages
  · go_wp2_with fail
    go_ret2
    exact ⟨.slice none 0 0, by rw [HV.out.1]; rfl, by rw [HV.out.2]; exact OwnS.nil _ _, Below.refl _ _⟩
  · go_wp2_with fail
    go_ret2
    exact ⟨.slice none 0 0, by rw [HV.out.1]; rfl, by rw [HV.out.2]; exact OwnS.nil _ _, Below.refl _ _⟩

theorem rsome_calls (l : List UInt8) (pages n : Int) (w : World) (hl : l.length ≤ 300) (hn : n ≤ 1000) :
    Calls Tryz.prog 41 #[.string (strB l), .int .i64 pages, .int .i64 n] w fun e w' => ∃ v, e = .returned (.tuple #[v, .bool (someB l pages n)]) ∧ OwnS w.heap.size w' v (someV l pages n) ∧ Below w.heap.size w w' := by
  by_cases h1 : n ≤ 0
  · exact rsome_none l pages n w h1
  · obtain ⟨k, rfl⟩ := Int.eq_ofNat_of_zero_le (show 0 ≤ n by omega)
    by_cases h : pages ≤ 512
    · exact rsome_few l pages k w hl (by omega) h
    · exact rsome_big l pages k w hl (by omega) (by omega)

end Go.Proofs.YtgeiemccjionpaaGreat.Bit
