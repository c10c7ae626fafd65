/- disk.with: the list of what is to be, with one more. No statement is proved here. -/
import Derived.Test.YtnnbbkfdijionaaNew
namespace Go.Proofs.Ytnnbbkfdijionaa
open Go.RowKit

theorem Try.info52 : (Try.prog.info? 52).map (fun i => (i.zero, i.size, i.bytes)) = some (some (.agg #[.int .i64 0, .string ⟨#[]⟩]), 2, 24) := by kernel_rfl

abbrev Wt := Int × ByteArray

/-- One round: what is gathered, and whether the new one is placed. -/
def stepW (p : Wt) (st : List Wt × Bool) (o : Wt) : List Wt × Bool :=
  let st1 := if st.2 = false ∧ p.1 < o.1 then (st.1 ++ [p], true) else st
  if o.1 = p.1 then st1 else (st1.1 ++ [o], st1.2)
def withSt (p : Wt) (l : List Wt) : List Wt × Bool := l.foldl (stepW p) ([], false)
def withF (p : Wt) (l : List Wt) : List Wt := if (withSt p l).2 = true then (withSt p l).1 else (withSt p l).1 ++ [p]

theorem withSt_snoc (p : Wt) (l : List Wt) (o : Wt) : withSt p (l ++ [o]) = stepW p (withSt p l) o := by simp [withSt]

theorem wetCells_append (a b : List Wt) : wetCells (a ++ b) = wetCells a ++ wetCells b := by simp [wetCells]
theorem wetCells_one (o : Wt) : wetCells [o] = [.int .i64 o.1, .string o.2] := by simp [wetCells]
theorem wetCells_length (l : List Wt) : (wetCells l).length = l.length * 2 := by
  induction l with
  | nil => rfl
  | cons a l ih => simp [wetCells] at ih ⊢; omega
theorem wetCells_at (l : List Wt) : ∀ (k : Nat) (o : Wt), l[k]? = some o → (wetCells l)[k * 2]? = some (.int .i64 o.1) ∧ (wetCells l)[k * 2 + 1]? = some (.string o.2) := by
  induction l with
  | nil => intro k o h; cases h
  | cons a l ih =>
    intro k o h
    have e : wetCells (a :: l) = .int .i64 a.1 :: .string a.2 :: wetCells l := by simp [wetCells]
    rw [e]
    match k, h with
    | 0, h => simp at h; subst h; exact ⟨rfl, rfl⟩
    | k + 1, h =>
      have := ih k o (by simpa using h)
      rw [show (k + 1) * 2 = k * 2 + 1 + 1 by omega]
      exact ⟨by simpa using this.1, by simpa using this.2⟩

theorem box2 {W : World} {g : Nat} {t : TypeId} {v0 v1 : Value} (h : W.heap[g]? = some (.cells #[v0, v1] t (0, 0))) :
    (W.cell? ⟨g, 0, none⟩ = some v0 ∧ W.cell? ⟨g, 1, none⟩ = some v1) ∧ (W.frozen? ⟨g, 0, none⟩ = false ∧ W.frozen? ⟨g, 1, none⟩ = false) := by
  refine ⟨⟨?_, ?_⟩, ?_, ?_⟩ <;> simp [World.cell?, World.frozen?, h]

/-- What holds at each round's head. -/
structure WithRel (w : World) (n : Nat) (p : Wt) (acc : List Wt) (wr : World) : Prop where
  own : wr.ownsRow (w.heap.size + 1) 52 2 (.slice (some ⟨w.heap.size + 1, 0, none⟩) acc.length (n + 1)) acc.length (wetCells acc)
  box : wr.heap[w.heap.size]? = some (.cells #[.int .i64 p.1, .string p.2] 52 (0, 0))
  below : Below w.heap.size w wr
  size : w.heap.size + 1 < wr.heap.size

theorem WithRel.alloc {w : World} {n : Nat} {p : Wt} {acc : List Wt} {wr : World} (h : WithRel w n p acc wr) (o : Obj) : WithRel w n p acc (wr.alloc o) :=
  ⟨h.own.alloc o, box_alloc h.box o, h.below.alloc (by have := h.below.size; omega) o, by have := h.size; simp; omega⟩

theorem WithRel.app {w : World} {n : Nat} {p : Wt} {acc : List Wt} {wr w1 : World} (h : WithRel w n p acc wr) (q : Wt)
    (hown : w1.ownsRow (w.heap.size + 1) 52 2 (.slice (some ⟨w.heap.size + 1, 0, none⟩) (acc.length + 1) (n + 1)) (acc.length + 1) (wetCells acc ++ [.int .i64 q.1, .string q.2])) (hg : wr.grownBy w1 (some (w.heap.size + 1))) : WithRel w n p (acc ++ [q]) w1 := by
  refine ⟨?_, ?_, ?_, ?_⟩
  · rw [List.length_append, List.length_singleton, wetCells_append, wetCells_one]; exact hown
  · rw [hg.block _ (by have := h.size; omega) (by simp)]; exact h.box
  · exact h.below.grown hg (by have := h.below.size; omega) (by intro k e; injection e with e; omega)
  · have := h.size; have := hg.size; omega

theorem box_grown {W w1 : World} {g : Nat} {o : Obj} {row : Option Nat} (h : W.heap[g]? = some o) (hg : W.grownBy w1 row) (hne : some g ≠ row) : w1.heap[g]? = some o :=
  (hg.block g (Array.getElem?_eq_some_iff.1 h).1 hne).trans h

theorem own_len {w : World} {n : Nat} {p q : Wt} {acc : List Wt} {wr : World} (h : WithRel w n p (acc ++ [q]) wr) :
    wr.ownsRow (w.heap.size + 1) 52 2 (.slice (some ⟨w.heap.size + 1, 0, none⟩) (acc.length + 1) (n + 1)) (acc.length + 1) (wetCells (acc ++ [q])) := by
  have := h.own
  rwa [List.length_append, List.length_singleton] at this

theorem news2 {W : World} {B : Nat} (hB : W.heap.size = B) (v0 v1 : Value) (t : TypeId) : ∀ (j : Nat) (u : Value), [v0, v1][j]? = some u → (W.alloc (.cells #[v0, v1] t)).cell? ((⟨B, 0, none⟩ : Addr).add j) = some u := by
  subst hB
  exact World.news_of_block (heap_alloc_new W _)

theorem stepW_two (p o : Wt) (acc : List Wt) (h : p.1 < o.1) : stepW p (acc, false) o = (acc ++ [p] ++ [o], true) := by
  have h2 : ¬ o.1 = p.1 := by omega
  simp [stepW, h, h2]
theorem stepW_one (p o : Wt) (acc : List Wt) (h : ¬ p.1 < o.1) (h2 : ¬ o.1 = p.1) : stepW p (acc, false) o = (acc ++ [o], false) := by
  simp [stepW, h, h2]

def slack : Bool → Nat | true => 0 | false => 1

theorem stepW_le (p o : Wt) (st : List Wt × Bool) : (stepW p st o).1.length + slack (stepW p st o).2 ≤ st.1.length + slack st.2 + 1 := by
  unfold stepW
  obtain ⟨l, b⟩ := st
  by_cases h1 : b = false ∧ p.1 < o.1
  · by_cases h2 : o.1 = p.1
    · omega
    · simp [h1.1, h1.2, h2, slack]
  · by_cases h2 : o.1 = p.1
    · simp [h2]
    · cases b with
      | true => simp [h2, slack]
      | false => simp at h1; simp [h2]; rw [if_neg (by omega)]; simp [slack]

theorem fold_le (p : Wt) : ∀ (l : List Wt) (st : List Wt × Bool), (l.foldl (stepW p) st).1.length + slack (l.foldl (stepW p) st).2 ≤ st.1.length + slack st.2 + l.length
  | [], st => by simp
  | o :: l, st => by
    have h1 := fold_le p l (stepW p st o)
    have h2 := stepW_le p o st
    simp only [List.foldl_cons, List.length_cons]
    omega

theorem withSt_le (p : Wt) (l : List Wt) : (withSt p l).1.length + slack (withSt p l).2 ≤ l.length + 1 := by
  have := fold_le p l ([], false)
  have e : slack false = 1 := rfl
  simp only [List.length_nil, e] at this
  unfold withSt
  omega

set_option maxHeartbeats 2000000 in
theorem with_walk (A : Option Addr) (c : Nat) (l : List Wt) (p : Wt) (w : World) (hr : Reads w 52 2 A l.length (wetCells l)) (hn : l.length ≤ 1000000) :
    Calls Try.prog 33 #[.slice A l.length c, .agg #[.int .i64 p.1, .string p.2]] w fun e w' => ∃ v', e = .returned v' ∧ SL w' 52 2 v' (withF p l).length (wetCells (withF p l)) ∧ Below w.heap.size w w' := by
  obtain ⟨pa, pd⟩ := p
  obtain ⟨i0, hi, hz0, hz1, hz2⟩ := info_parts Try.info52
  obtain ⟨n, hnl⟩ : ∃ n, n = l.length := ⟨_, rfl⟩
  rw [← hnl] at hr hn ⊢
  have hmk : ∀ W : World, (Instr.makeSlice 26 (.int .i64 0) (.int .i64 ((n : Int) + 1))).run Try.prog W = .ok (.slice (some ⟨W.heap.size, 0, none⟩) 0 (n + 1)) (W.alloc (.cells (madeCells (Value.cells (.agg #[.int .i64 0, .string ⟨#[]⟩])) ((n + 1) * 2)) 52)) := by
    intro W
    have := run_make (P := Try.prog) W 26 52 i0 _ Try.underlying26 hi hz0 .i64 .i64 0 ((n : Int) + 1) (by omega) (by omega) (by rw [hz2]; omega) (by omega)
    rw [this, hz1]
    have e1 : ((n : Int) + 1).toNat = n + 1 := by omega
    rw [e1]
    rfl
  obtain ⟨Z, hZ⟩ : ∃ Z : Array Value, Z = madeCells (Value.cells (.agg #[.int .i64 0, .string ⟨#[]⟩])) ((n + 1) * 2) := ⟨_, rfl⟩
  have hZs : Z.size = (n + 1) * 2 := by rw [hZ, size_madeCells]
  rw [← hZ] at hmk
  have HNL := Lib.hid hnl
  have HR := Lib.hid hr
  have HZS := Lib.hid hZs
  clear hnl hr hZs hZ
  go_enter Try.func33, Try.ntmps33
  go_wp2_with fail
  clear hmk
  go_loopw [5, 6, 15] (fun u5 u6 u15 wr => ∃ k : Nat, k ≤ n ∧ u15 = .int .i64 k ∧ u6 = .bool (withSt (pa, pd) (l.take k)).2 ∧ u5 = .slice (some ⟨w.heap.size + 1, 0, none⟩) (withSt (pa, pd) (l.take k)).1.length (n + 1) ∧ WithRel w n (pa, pd) (withSt (pa, pd) (l.take k)).1 wr) (fun _ _ u _ => n - (intOf u).toNat)
  case atStart =>
    refine ⟨0, Nat.zero_le _, rfl, rfl, rfl, ?_, ?_, ?_, ?_⟩
    · have := World.ownsRow_made (base := w.heap.size + 1) (e := 52) (size := 2) (w.alloc (.cells #[.int .i64 pa, .string pd] 52)) Z (n + 1) (by simp) (by unfold maxLen; omega) HZS.out
      simpa [withSt, wetCells] using this
    · exact box_alloc (heap_alloc_new w _) _
    · exact ((Below.refl _ _).alloc (Nat.le_refl _) _).alloc (by simp) _
    · simp
  case round =>
    obtain ⟨k, hk, rfl, rfl, rfl, hrel⟩ := hrel
    have hle := withSt_le (pa, pd) (l.take k)
    have hst0 : ∀ o, l[k]? = some o → withSt (pa, pd) (l.take (k + 1)) = stepW (pa, pd) (withSt (pa, pd) (l.take k)) o := fun o ho => by
      rw [List.take_add_one, ho, Option.toList_some, withSt_snoc]
    have hfin : k = n → withF (pa, pd) l = if (withSt (pa, pd) (l.take k)).2 = true then (withSt (pa, pd) (l.take k)).1 else (withSt (pa, pd) (l.take k)).1 ++ [(pa, pd)] := fun e => by
      rw [List.take_of_length_le (by rw [e, HNL.out]; exact Nat.le_refl _)]; rfl
    have HLE := Lib.hid hle
    have HST := Lib.hid hst0
    have HFIN := Lib.hid hfin
    clear hle hst0 hfin
    generalize withSt (pa, pd) (l.take k) = st at *
    obtain ⟨acc, placed⟩ := st
    dsimp only at *
    by_cases hlt : k < n
    · obtain ⟨o, ho⟩ : ∃ o, l[k]? = some o := ⟨_, List.getElem?_eq_getElem (by have := HNL.out; omega)⟩
      obtain ⟨b, off, rfl, hbl, hcell⟩ := HR.out.at_ (by omega)
      have hw := wetCells_at l k o ho
      have hst := HST.out o ho
      obtain ⟨oa, od⟩ := o
      have hc0 : wr.cell? ⟨b, off + k * 2, none⟩ = some (.int .i64 oa) := (hrel.below.cell (p := ⟨b, off + k * 2, none⟩) hbl).trans (hcell _ _ hw.1)
      have hc1 : wr.cell? ⟨b, off + k * 2 + 1, none⟩ = some (.string od) := (hrel.below.cell (p := ⟨b, off + k * 2 + 1, none⟩) hbl).trans (hcell _ _ hw.2)
      obtain ⟨⟨hp0, hp1⟩, _⟩ := box2 hrel.box
      dsimp only at hp0 hp1
      have hz := hrel.size
      have hz' : w.heap.size < wr.heap.size := by omega
      have hbz : b < wr.heap.size := by omega
      have HS := Lib.hid hst
      have hk1 : k + 1 ≤ n := hlt
      clear hcell hw ho hst HST HFIN
      have hkl : (List.take k l).length = k := by rw [List.length_take]; have := HNL.out; omega
      cases placed with
      | true =>
        have hal : acc.length ≤ k + 1 := by have := HLE.out; rw [hkl] at this; simpa [slack] using this
        clear hkl
        by_cases he : oa = pa
        · have he1 : (oa != pa) = false := by simp [he]
          have hs' : withSt (pa, pd) (List.take (k + 1) l) = (acc, true) := by rw [HS.out]; simp [stepW, he]
          have HS' := Lib.hid hs'
          clear he hs'
          go_wp2_with fail
          exact ⟨⟨k + 1, hk1, by go_num, by rw [HS'.out], by rw [HS'.out], by rw [HS'.out]; exact hrel.alloc _⟩, by simp [intOf]; omega⟩
        · have he1 : (oa != pa) = true := by simpa using he
          have hs' : withSt (pa, pd) (List.take (k + 1) l) = (acc ++ [(oa, od)], true) := by rw [HS.out]; simp [stepW, he]
          have HS' := Lib.hid hs'
          have HE := Lib.hid he
          clear he hs'
          go_wp2_with (at_builtin; refine wpList_append_fits _ rfl _ _ 26 (by rfl) (w.heap.size + 1) 52 i0 2 Try.underlying26 hi hz1 (w.heap.size + 1) acc.length (n + 1) (wetCells acc) (by rfl) (by exact ((hrel.alloc _).alloc _).own) ⟨wr.heap.size + 1, 0, none⟩ 1 1 [.int .i64 oa, .string od] (by rfl) (by rfl) (by exact news2 (by simp) _ _ _) (by simp [Value.oneCell']) (by omega) ?_; intro w1 hown1 hgrow1)
          have hr1 := ((hrel.alloc _).alloc _).app (oa, od) hown1 hgrow1
          exact ⟨⟨k + 1, hk1, by go_num, by rw [HS'.out], by rw [HS'.out]; simp, by rw [HS'.out]; exact hr1⟩, by simp [intOf]; omega⟩
      | false =>
        have hal : acc.length ≤ k := by have := HLE.out; rw [hkl] at this; simpa [slack] using this
        clear hkl
        by_cases hgt : pa < oa
        · have he1 : (oa != pa) = true := by simp; omega
          have hs' : withSt (pa, pd) (List.take (k + 1) l) = (acc ++ [(pa, pd)] ++ [(oa, od)], true) := by
            rw [HS.out]; exact stepW_two _ _ _ hgt
          have HS' := Lib.hid hs'
          clear hs'
          go_wp2_with (at_builtin; first | (refine wpList_append_fits (o := ⟨some 31, _, _, _, _, _⟩) _ rfl _ _ 26 (by rfl) (w.heap.size + 1) 52 i0 2 Try.underlying26 hi hz1 (w.heap.size + 1) acc.length (n + 1) (wetCells acc) (by rfl) (by exact ((hrel.alloc _).alloc _).own) ⟨wr.heap.size + 1, 0, none⟩ 1 1 [.int .i64 pa, .string pd] (by rfl) (by rfl) (by exact news2 (by simp) _ _ _) (by simp [Value.oneCell']) (by omega) ?_; intro w1 hown1 hgrow1; have hr1 := ((hrel.alloc _).alloc _).app (pa, pd) hown1 hgrow1; obtain ⟨⟨hq0, hq1⟩, _⟩ := box2 (box_grown (box_alloc (heap_alloc_new wr _) _) hgrow1 (by intro e; injection e with e; omega)); obtain ⟨⟨hs0, hs1⟩, _⟩ := box2 hr1.box; dsimp only at hs0 hs1; clear hown1 hgrow1) | (refine wpList_append_fits (o := ⟨some 40, _, _, _, _, _⟩) _ rfl _ _ 26 (by rfl) (w.heap.size + 1) 52 i0 2 Try.underlying26 hi hz1 (w.heap.size + 1) (acc.length + 1) (n + 1) (wetCells (acc ++ [(pa, pd)])) (by rfl) (by exact own_len (hr1.alloc _)) ⟨w1.heap.size, 0, none⟩ 1 1 [.int .i64 oa, .string od] (by rfl) (by rfl) (by exact news2 rfl _ _ _) (by simp [Value.oneCell']) (by omega) ?_; intro w2 hown2 hgrow2))
          have hr2 := (hr1.alloc _).app (oa, od) (by rw [List.length_append, List.length_singleton]; exact hown2) hgrow2
          exact ⟨⟨k + 1, hk1, by go_num, by rw [HS'.out], by rw [HS'.out]; simp, by rw [HS'.out]; exact hr2⟩, by simp [intOf]; omega⟩
        · by_cases he : oa = pa
          · have he1 : (oa != pa) = false := by simp [he]
            have hs' : withSt (pa, pd) (List.take (k + 1) l) = (acc, false) := by rw [HS.out]; simp [stepW, he]
            have HS' := Lib.hid hs'
            clear he hs'
            go_wp2_with fail
            exact ⟨⟨k + 1, hk1, by go_num, by rw [HS'.out], by rw [HS'.out], by rw [HS'.out]; exact hrel.alloc _⟩, by simp [intOf]; omega⟩
          · have he1 : (oa != pa) = true := by simpa using he
            have hs' : withSt (pa, pd) (List.take (k + 1) l) = (acc ++ [(oa, od)], false) := by
              rw [HS.out]; exact stepW_one _ _ _ hgt he
            have HS' := Lib.hid hs'
            have HE := Lib.hid he
            clear he hs'
            go_wp2_with (at_builtin; refine wpList_append_fits _ rfl _ _ 26 (by rfl) (w.heap.size + 1) 52 i0 2 Try.underlying26 hi hz1 (w.heap.size + 1) acc.length (n + 1) (wetCells acc) (by rfl) (by exact ((hrel.alloc _).alloc _).own) ⟨wr.heap.size + 1, 0, none⟩ 1 1 [.int .i64 oa, .string od] (by rfl) (by rfl) (by exact news2 (by simp) _ _ _) (by simp [Value.oneCell']) (by omega) ?_; intro w1 hown1 hgrow1)
            have hr1 := ((hrel.alloc _).alloc _).app (oa, od) hown1 hgrow1
            exact ⟨⟨k + 1, hk1, by go_num, by rw [HS'.out], by rw [HS'.out]; simp, by rw [HS'.out]; exact hr1⟩, by simp [intOf]; omega⟩
    · have hkn : k = n := by omega
      have hfin := HFIN.out hkn
      cases placed with
      | true =>
        rw [if_pos rfl] at hfin
        have HF := Lib.hid hfin
        clear hfin HFIN HST hkn
        go_wp2_with fail
        go_ret
        exact ⟨_, rfl, by rw [HF.out]; exact SL.of_own hrel.own, hrel.below⟩
      | false =>
        rw [if_neg (by simp)] at hfin
        have hkl : (List.take k l).length = k := by rw [List.length_take]; have := HNL.out; omega
        have hal : acc.length ≤ n := by have := HLE.out; rw [hkl] at this; simp [slack] at this; omega
        have HF := Lib.hid hfin
        have hz := hrel.size
        have hz' : w.heap.size < wr.heap.size := by omega
        obtain ⟨⟨hp0, hp1⟩, _⟩ := box2 hrel.box
        dsimp only at hp0 hp1
        clear hfin HFIN HST hkn hkl
        go_wp2_with (at_builtin; refine wpList_append_fits _ rfl _ _ 26 (by rfl) (w.heap.size + 1) 52 i0 2 Try.underlying26 hi hz1 (w.heap.size + 1) acc.length (n + 1) (wetCells acc) (by rfl) (by exact (hrel.alloc _).own) ⟨wr.heap.size, 0, none⟩ 1 1 [.int .i64 pa, .string pd] (by rfl) (by rfl) (by exact news2 rfl _ _ _) (by simp [Value.oneCell']) (by omega) ?_; intro w1 hown1 hgrow1)
        go_ret
        have hr1 := (hrel.alloc _).app (pa, pd) hown1 hgrow1
        exact ⟨_, rfl, by rw [HF.out, List.length_append, List.length_singleton]; exact SL.of_own (own_len hr1), hr1.below⟩

/-- disk.with: what is to be, with one more, in a list of its own. -/
theorem with_calls (v : Value) (l : List Wt) (p : Wt) (w : World) (h : SL w 52 2 v l.length (wetCells l)) (hn : l.length ≤ 1000000) :
    Calls Try.prog 33 #[v, .agg #[.int .i64 p.1, .string p.2]] w fun e w' => ∃ v', e = .returned v' ∧ SL w' 52 2 v' (withF p l).length (wetCells (withF p l)) ∧ Below w.heap.size w w' := by
  obtain ⟨A, c, rfl, _, hr⟩ := h
  exact with_walk A c l p w hr hn
end Go.Proofs.Ytnnbbkfdijionaa
