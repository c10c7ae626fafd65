/- Contracts and plain mathematics that the statement's proof wants: no statement is proved here, nothing is assumed. -/
import Derived.Deep.Cut
import Derived.Deep.RegionHeld3
import Derived.Deep.DrawnRows
import Derived.Test.YtnbbijpmkhdgpaaGreatMg07
import Derived.Test.YtnbbijpmkhdgpaaGreatMg13
import Derived.Test.YtnbbijpmkhdgpaaGreatMg15
/- DNew -/
namespace Go.Proofs.YtnbbijpmkhdgpaaGreat.Dsk
open Go.RowKit

set_option maxRecDepth 100000 in
set_option maxHeartbeats 1000000 in
theorem new_calls (n : Nat) (h1 : 1 ≤ n) (h2 : n ≤ 2000) (w : World) :
    Calls Tryz.prog 29 #[.int .i64 n] w fun e w' => ∃ v, e = .returned (.tuple #[v, .int .i64 0]) ∧ IsDisk w' v (newD n) ∧ Below w.heap.size w w' := by
  have hd1 : decide ((n : Int) < 1) = false := by simp; omega
  have hd2 : decide ((2000 : Int) < n) = false := by simp; omega
  obtain ⟨P, hP⟩ : ∃ P, P = padB ⟨#[]⟩ := ⟨_, rfl⟩
  have hpad : ∀ W : World, Calls Tryz.prog 62 #[.string ⟨#[]⟩] W fun e w' => e = .returned (.string P) ∧ Below W.heap.size W w' := fun W => by
    rw [hP]; exact padded_calls ⟨#[]⟩ W (by simp [ByteArray.size])
  have HPad := Lib.hid hpad
  have HP := Lib.hid hP
  clear hpad hP
  go_enter Tryz.func29, Tryz.ntmps29
  go_wp2_with (first | (go_at_call 62; refine (HPad.out _).mono ?_; rintro e w1 ⟨rfl, hb1⟩))
  have hg1 : w1.heap[w.heap.size]? = some (.cells #[.slice none 0 0, .slice none 0 0, .bool false, .int .i64 0] 28 (0, 0)) := box_kept _ (heap_alloc_new w _) hb1
  refine (repeat_calls w1.heap.size P n h1 h2 (w1.alloc (.cells #[.string P] 9)) (by simp) (cell_new1 w1 _ _)).mono ?_
  rintro e w2 ⟨v2, rfl, hsl, hb2⟩
  have hg2 := box_kept _ (box_alloc hg1 _) hb2
  obtain ⟨⟨c0, c1, c2, c3⟩, f0, f1, f2, f3⟩ := box4 hg2
  have hbw : Below w.heap.size w w2 := below_trans' (below_trans' ((Below.refl _ _).alloc (Nat.le_refl _) _) hb1) (below_trans' ((Below.refl _ _).alloc (Nat.le_refl _) _) hb2)
  obtain ⟨A, c, rfl, hc, hr⟩ := id hsl
  have HSL := Lib.hid hsl
  have HB := Lib.hid hbw
  have HG := Lib.hid hg2
  clear hb1 hb2 hg1 hg2 hsl hbw hr hc
  go_wp2_with fail
  refine bodyPost_ret (v := .tuple #[.agg #[.slice A n c, .slice none 0 0, .bool false, .int .i64 (-1)], .int .i64 0]) (by simp [results, Tryz.results29, go_sem, c0, c1, c2, c3]) rfl ⟨_, rfl, ⟨_, _, rfl, ?_, SL.nil _ _ _⟩, ?_⟩
  · have h := HSL.out.other HG.out (by decide) (store4_other w2 w.heap.size (.slice A n c) (.slice none 0 0) (.bool false) (.int .i64 (-1)))
    simpa [newD, HP.out] using h
  · exact below_store4 HB.out _ (Nat.le_refl _) _ _ _ _

set_option maxRecDepth 100000 in
set_option maxHeartbeats 1000000 in
theorem new_bad_lo (n : Int) (h1 : n < 1) (w : World) :
    Calls Tryz.prog 29 #[.int .i64 n] w fun e w' => e = .returned (.tuple #[.agg #[.slice none 0 0, .slice none 0 0, .bool false, .int .i64 0], .int .i64 1]) ∧ Below w.heap.size w w' := by
  have hd1 : decide (n < 1) = true := by simpa using h1
  go_enter Tryz.func29, Tryz.ntmps29
  go_wp2
  exact bodyPost_ret (v := .tuple #[.agg #[.slice none 0 0, .slice none 0 0, .bool false, .int .i64 0], .int .i64 1]) (by simp [results, Tryz.results29, go_sem]) rfl ⟨rfl, (Below.refl _ _).alloc (Nat.le_refl _) _⟩

set_option maxRecDepth 100000 in
set_option maxHeartbeats 1000000 in
theorem new_bad_hi (n : Int) (h1 : 2000 < n) (w : World) :
    Calls Tryz.prog 29 #[.int .i64 n] w fun e w' => e = .returned (.tuple #[.agg #[.slice none 0 0, .slice none 0 0, .bool false, .int .i64 0], .int .i64 1]) ∧ Below w.heap.size w w' := by
  have hd1 : decide (n < 1) = false := by simp; omega
  have hd2 : decide (2000 < n) = true := by simpa using h1
  go_enter Tryz.func29, Tryz.ntmps29
  go_wp2
  exact bodyPost_ret (v := .tuple #[.agg #[.slice none 0 0, .slice none 0 0, .bool false, .int .i64 0], .int .i64 1]) (by simp [results, Tryz.results29, go_sem]) rfl ⟨rfl, (Below.refl _ _).alloc (Nat.le_refl _) _⟩

end Go.Proofs.YtnbbijpmkhdgpaaGreat.Dsk

/- DWith -/
namespace Go.Proofs.YtnbbijpmkhdgpaaGreat.Dsk
open Go.RowKit

theorem Tryz.info52 : (Tryz.prog.info? 72).map (fun i => (i.zero, i.size, i.bytes)) = some (some (.agg #[.int .i64 0, .string ⟨#[]⟩]), 2, 24) := by kernel_rfl

theorem wetCells_append (a b : List Wt) : wetCells (a ++ b) = wetCells a ++ wetCells b := by simp [wetCells]
theorem wetCells_one (o : Wt) : wetCells [o] = [.int .i64 o.1, .string o.2] := by simp [wetCells]
theorem wetCells_length (l : List Wt) : (wetCells l).length = l.length * 2 := by
  induction l with
  | nil => rfl
  | cons a l ih => simp [wetCells] at ih ⊢; omega
theorem wetCells_at (l : List Wt) : ∀ (k : Nat) (o : Wt), l[k]? = some o → (wetCells l)[k * 2]? = some (.int .i64 o.1) ∧ (wetCells l)[k * 2 + 1]? = some (.string o.2) := by
  induction l with
  | nil => intro k o h; cases h
  | cons a l ih =>
    intro k o h
    have e : wetCells (a :: l) = .int .i64 a.1 :: .string a.2 :: wetCells l := by simp [wetCells]
    rw [e]
    match k, h with
    | 0, h => simp at h; subst h; exact ⟨rfl, rfl⟩
    | k + 1, h =>
      have := ih k o (by simpa using h)
      rw [show (k + 1) * 2 = k * 2 + 1 + 1 by omega]
      exact ⟨by simpa using this.1, by simpa using this.2⟩

theorem box2 {W : World} {g : Nat} {t : TypeId} {v0 v1 : Value} (h : W.heap[g]? = some (.cells #[v0, v1] t (0, 0))) :
    (W.cell? ⟨g, 0, none⟩ = some v0 ∧ W.cell? ⟨g, 1, none⟩ = some v1) ∧ (W.frozen? ⟨g, 0, none⟩ = false ∧ W.frozen? ⟨g, 1, none⟩ = false) := by
  refine ⟨⟨?_, ?_⟩, ?_, ?_⟩ <;> simp [World.cell?, World.frozen?, h]

/-- What holds at each round's head. -/
structure WithRel (w : World) (n : Nat) (p : Wt) (acc : List Wt) (wr : World) : Prop where
  own : wr.ownsRow (w.heap.size + 1) 72 2 (.slice (some ⟨w.heap.size + 1, 0, none⟩) acc.length (n + 1)) acc.length (wetCells acc)
  box : wr.heap[w.heap.size]? = some (.cells #[.int .i64 p.1, .string p.2] 72 (0, 0))
  below : Below w.heap.size w wr
  size : w.heap.size + 1 < wr.heap.size

theorem WithRel.alloc {w : World} {n : Nat} {p : Wt} {acc : List Wt} {wr : World} (h : WithRel w n p acc wr) (o : Obj) : WithRel w n p acc (wr.alloc o) :=
  ⟨h.own.alloc o, box_alloc h.box o, h.below.alloc (by have := h.below.size; omega) o, by have := h.size; simp; omega⟩

theorem WithRel.app {w : World} {n : Nat} {p : Wt} {acc : List Wt} {wr w1 : World} (h : WithRel w n p acc wr) (q : Wt)
    (hown : w1.ownsRow (w.heap.size + 1) 72 2 (.slice (some ⟨w.heap.size + 1, 0, none⟩) (acc.length + 1) (n + 1)) (acc.length + 1) (wetCells acc ++ [.int .i64 q.1, .string q.2])) (hg : wr.grownBy w1 (some (w.heap.size + 1))) : WithRel w n p (acc ++ [q]) w1 := by
  refine ⟨?_, ?_, ?_, ?_⟩
  · rw [List.length_append, List.length_singleton, wetCells_append, wetCells_one]; exact hown
  · rw [hg.block _ (by have := h.size; omega) (by simp)]; exact h.box
  · exact h.below.grown hg (by have := h.below.size; omega) (by intro k e; injection e with e; omega)
  · have := h.size; have := hg.size; omega

theorem box_grown {W w1 : World} {g : Nat} {o : Obj} {row : Option Nat} (h : W.heap[g]? = some o) (hg : W.grownBy w1 row) (hne : some g ≠ row) : w1.heap[g]? = some o :=
  (hg.block g (Array.getElem?_eq_some_iff.1 h).1 hne).trans h

theorem own_len {w : World} {n : Nat} {p q : Wt} {acc : List Wt} {wr : World} (h : WithRel w n p (acc ++ [q]) wr) :
    wr.ownsRow (w.heap.size + 1) 72 2 (.slice (some ⟨w.heap.size + 1, 0, none⟩) (acc.length + 1) (n + 1)) (acc.length + 1) (wetCells (acc ++ [q])) := by
  have := h.own
  rwa [List.length_append, List.length_singleton] at this

theorem news2 {W : World} {B : Nat} (hB : W.heap.size = B) (v0 v1 : Value) (t : TypeId) : ∀ (j : Nat) (u : Value), [v0, v1][j]? = some u → (W.alloc (.cells #[v0, v1] t)).cell? ((⟨B, 0, none⟩ : Addr).add j) = some u := by
  subst hB
  exact World.news_of_block (heap_alloc_new W _)

set_option maxRecDepth 100000 in
set_option maxHeartbeats 2000000 in
theorem with_walk (A : Option Addr) (c : Nat) (l : List Wt) (p : Wt) (w : World) (hr : Reads w 72 2 A l.length (wetCells l)) (hn : l.length ≤ 1000000) :
    Calls Tryz.prog 95 #[.slice A l.length c, .agg #[.int .i64 p.1, .string p.2]] w fun e w' => ∃ v', e = .returned v' ∧ SL w' 72 2 v' (withF p l).length (wetCells (withF p l)) ∧ Below w.heap.size w w' := by
  obtain ⟨pa, pd⟩ := p
  obtain ⟨i0, hi, hz0, hz1, hz2⟩ := info_parts Tryz.info52
  obtain ⟨n, hnl⟩ : ∃ n, n = l.length := ⟨_, rfl⟩
  rw [← hnl] at hr hn ⊢
  have hmk : ∀ W : World, (Instr.makeSlice 26 (.int .i64 0) (.int .i64 ((n : Int) + 1))).run Tryz.prog W = .ok (.slice (some ⟨W.heap.size, 0, none⟩) 0 (n + 1)) (W.alloc (.cells (madeCells (Value.cells (.agg #[.int .i64 0, .string ⟨#[]⟩])) ((n + 1) * 2)) 72)) := by
    intro W
    have := run_make (P := Tryz.prog) W 26 72 i0 _ Tryz.underlying26 hi hz0 .i64 .i64 0 ((n : Int) + 1) (by omega) (by omega) (by rw [hz2]; omega) (by omega)
    rw [this, hz1]
    have e1 : ((n : Int) + 1).toNat = n + 1 := by omega
    rw [e1]
    rfl
  obtain ⟨Z, hZ⟩ : ∃ Z : Array Value, Z = madeCells (Value.cells (.agg #[.int .i64 0, .string ⟨#[]⟩])) ((n + 1) * 2) := ⟨_, rfl⟩
  have hZs : Z.size = (n + 1) * 2 := by rw [hZ, size_madeCells]
  rw [← hZ] at hmk
  have HNL := Lib.hid hnl
  have HR := Lib.hid hr
  have HZS := Lib.hid hZs
  clear hnl hr hZs hZ
  go_enter Tryz.func95, Tryz.ntmps95
  go_wp2_with fail
  clear hmk
  go_loopw [5, 6, 15] (fun u5 u6 u15 wr => ∃ k : Nat, k ≤ n ∧ u15 = .int .i64 k ∧ u6 = .bool (withSt (pa, pd) (l.take k)).2 ∧ u5 = .slice (some ⟨w.heap.size + 1, 0, none⟩) (withSt (pa, pd) (l.take k)).1.length (n + 1) ∧ WithRel w n (pa, pd) (withSt (pa, pd) (l.take k)).1 wr) (fun _ _ u _ => n - (intOf u).toNat)
  case atStart =>
    refine ⟨0, Nat.zero_le _, rfl, rfl, rfl, ?_, ?_, ?_, ?_⟩
    · have := World.ownsRow_made (base := w.heap.size + 1) (e := 72) (size := 2) (w.alloc (.cells #[.int .i64 pa, .string pd] 72)) Z (n + 1) (by simp) (by unfold maxLen; omega) HZS.out
      simpa [withSt, wetCells] using this
    · exact box_alloc (heap_alloc_new w _) _
    · exact ((Below.refl _ _).alloc (Nat.le_refl _) _).alloc (by simp) _
    · simp
  case round =>
    obtain ⟨k, hk, rfl, rfl, rfl, hrel⟩ := hrel
    have hle := withSt_le (pa, pd) (l.take k)
    have hst0 : ∀ o, l[k]? = some o → withSt (pa, pd) (l.take (k + 1)) = stepW (pa, pd) (withSt (pa, pd) (l.take k)) o := fun o ho => by
      rw [List.take_add_one, ho, Option.toList_some, withSt_snoc]
    have hfin : k = n → withF (pa, pd) l = if (withSt (pa, pd) (l.take k)).2 = true then (withSt (pa, pd) (l.take k)).1 else (withSt (pa, pd) (l.take k)).1 ++ [(pa, pd)] := fun e => by
      rw [List.take_of_length_le (by rw [e, HNL.out]; exact Nat.le_refl _)]; rfl
    have HLE := Lib.hid hle
    have HST := Lib.hid hst0
    have HFIN := Lib.hid hfin
    clear hle hst0 hfin
    generalize withSt (pa, pd) (l.take k) = st at *
    obtain ⟨acc, placed⟩ := st
    dsimp only at *
    by_cases hlt : k < n
    · obtain ⟨o, ho⟩ : ∃ o, l[k]? = some o := ⟨_, List.getElem?_eq_getElem (by have := HNL.out; omega)⟩
      obtain ⟨b, off, rfl, hbl, hcell⟩ := HR.out.at_ (by omega)
      have hw := wetCells_at l k o ho
      have hst := HST.out o ho
      obtain ⟨oa, od⟩ := o
      have hc0 : wr.cell? ⟨b, off + k * 2, none⟩ = some (.int .i64 oa) := (hrel.below.cell (p := ⟨b, off + k * 2, none⟩) hbl).trans (hcell _ _ hw.1)
      have hc1 : wr.cell? ⟨b, off + k * 2 + 1, none⟩ = some (.string od) := (hrel.below.cell (p := ⟨b, off + k * 2 + 1, none⟩) hbl).trans (hcell _ _ hw.2)
      obtain ⟨⟨hp0, hp1⟩, _⟩ := box2 hrel.box
      dsimp only at hp0 hp1
      have hz := hrel.size
      have hz' : w.heap.size < wr.heap.size := by omega
      have hbz : b < wr.heap.size := by omega
      have HS := Lib.hid hst
      have hk1 : k + 1 ≤ n := hlt
      clear hcell hw ho hst HST HFIN
      have hkl : (List.take k l).length = k := by rw [List.length_take]; have := HNL.out; omega
      cases placed with
      | true =>
        have hal : acc.length ≤ k + 1 := by have := HLE.out; rw [hkl] at this; simpa [slack] using this
        clear hkl
        by_cases he : oa = pa
        · have he1 : (oa != pa) = false := by simp [he]
          have hs' : withSt (pa, pd) (List.take (k + 1) l) = (acc, true) := by rw [HS.out]; simp [stepW, he]
          have HS' := Lib.hid hs'
          clear he hs'
          go_wp2_with fail
          exact ⟨⟨k + 1, hk1, by go_num, by rw [HS'.out], by rw [HS'.out], by rw [HS'.out]; exact hrel.alloc _⟩, by simp [intOf]; omega⟩
        · have he1 : (oa != pa) = true := by simpa using he
          have hs' : withSt (pa, pd) (List.take (k + 1) l) = (acc ++ [(oa, od)], true) := by rw [HS.out]; simp [stepW, he]
          have HS' := Lib.hid hs'
          have HE := Lib.hid he
          clear he hs'
          go_wp2_with (at_builtin; refine wpList_append_fits _ rfl _ _ 26 (by rfl) (w.heap.size + 1) 72 i0 2 Tryz.underlying26 hi hz1 (w.heap.size + 1) acc.length (n + 1) (wetCells acc) (by rfl) (by exact ((hrel.alloc _).alloc _).own) ⟨wr.heap.size + 1, 0, none⟩ 1 1 [.int .i64 oa, .string od] (by rfl) (by rfl) (by exact news2 (by simp) _ _ _) (by simp [Value.oneCell']) (by omega) ?_; intro w1 hown1 hgrow1)
          have hr1 := ((hrel.alloc _).alloc _).app (oa, od) hown1 hgrow1
          exact ⟨⟨k + 1, hk1, by go_num, by rw [HS'.out], by rw [HS'.out]; simp, by rw [HS'.out]; exact hr1⟩, by simp [intOf]; omega⟩
      | false =>
        have hal : acc.length ≤ k := by have := HLE.out; rw [hkl] at this; simpa [slack] using this
        clear hkl
        by_cases hgt : pa < oa
        · have he1 : (oa != pa) = true := by simp; omega
          have hs' : withSt (pa, pd) (List.take (k + 1) l) = (acc ++ [(pa, pd)] ++ [(oa, od)], true) := by
            rw [HS.out]; exact stepW_two _ _ _ hgt
          have HS' := Lib.hid hs'
          clear hs'
          go_wp2_with (at_builtin; first | (refine wpList_append_fits (o := ⟨some 31, _, _, _, _, _⟩) _ rfl _ _ 26 (by rfl) (w.heap.size + 1) 72 i0 2 Tryz.underlying26 hi hz1 (w.heap.size + 1) acc.length (n + 1) (wetCells acc) (by rfl) (by exact ((hrel.alloc _).alloc _).own) ⟨wr.heap.size + 1, 0, none⟩ 1 1 [.int .i64 pa, .string pd] (by rfl) (by rfl) (by exact news2 (by simp) _ _ _) (by simp [Value.oneCell']) (by omega) ?_; intro w1 hown1 hgrow1; have hr1 := ((hrel.alloc _).alloc _).app (pa, pd) hown1 hgrow1; obtain ⟨⟨hq0, hq1⟩, _⟩ := box2 (box_grown (box_alloc (heap_alloc_new wr _) _) hgrow1 (by intro e; injection e with e; omega)); obtain ⟨⟨hs0, hs1⟩, _⟩ := box2 hr1.box; dsimp only at hs0 hs1; clear hown1 hgrow1) | (refine wpList_append_fits (o := ⟨some 40, _, _, _, _, _⟩) _ rfl _ _ 26 (by rfl) (w.heap.size + 1) 72 i0 2 Tryz.underlying26 hi hz1 (w.heap.size + 1) (acc.length + 1) (n + 1) (wetCells (acc ++ [(pa, pd)])) (by rfl) (by exact own_len (hr1.alloc _)) ⟨w1.heap.size, 0, none⟩ 1 1 [.int .i64 oa, .string od] (by rfl) (by rfl) (by exact news2 rfl _ _ _) (by simp [Value.oneCell']) (by omega) ?_; intro w2 hown2 hgrow2))
          have hr2 := (hr1.alloc _).app (oa, od) (by rw [List.length_append, List.length_singleton]; exact hown2) hgrow2
          exact ⟨⟨k + 1, hk1, by go_num, by rw [HS'.out], by rw [HS'.out]; simp, by rw [HS'.out]; exact hr2⟩, by simp [intOf]; omega⟩
        · by_cases he : oa = pa
          · have he1 : (oa != pa) = false := by simp [he]
            have hs' : withSt (pa, pd) (List.take (k + 1) l) = (acc, false) := by rw [HS.out]; simp [stepW, he]
            have HS' := Lib.hid hs'
            clear he hs'
            go_wp2_with fail
            exact ⟨⟨k + 1, hk1, by go_num, by rw [HS'.out], by rw [HS'.out], by rw [HS'.out]; exact hrel.alloc _⟩, by simp [intOf]; omega⟩
          · have he1 : (oa != pa) = true := by simpa using he
            have hs' : withSt (pa, pd) (List.take (k + 1) l) = (acc ++ [(oa, od)], false) := by
              rw [HS.out]; exact stepW_one _ _ _ hgt he
            have HS' := Lib.hid hs'
            have HE := Lib.hid he
            clear he hs'
            go_wp2_with (at_builtin; refine wpList_append_fits _ rfl _ _ 26 (by rfl) (w.heap.size + 1) 72 i0 2 Tryz.underlying26 hi hz1 (w.heap.size + 1) acc.length (n + 1) (wetCells acc) (by rfl) (by exact ((hrel.alloc _).alloc _).own) ⟨wr.heap.size + 1, 0, none⟩ 1 1 [.int .i64 oa, .string od] (by rfl) (by rfl) (by exact news2 (by simp) _ _ _) (by simp [Value.oneCell']) (by omega) ?_; intro w1 hown1 hgrow1)
            have hr1 := ((hrel.alloc _).alloc _).app (oa, od) hown1 hgrow1
            exact ⟨⟨k + 1, hk1, by go_num, by rw [HS'.out], by rw [HS'.out]; simp, by rw [HS'.out]; exact hr1⟩, by simp [intOf]; omega⟩
    · have hkn : k = n := by omega
      have hfin := HFIN.out hkn
      cases placed with
      | true =>
        rw [if_pos rfl] at hfin
        have HF := Lib.hid hfin
        clear hfin HFIN HST hkn
        go_wp2_with fail
        go_ret
        exact ⟨_, rfl, by rw [HF.out]; exact SL.of_own hrel.own, hrel.below⟩
      | false =>
        rw [if_neg (by simp)] at hfin
        have hkl : (List.take k l).length = k := by rw [List.length_take]; have := HNL.out; omega
        have hal : acc.length ≤ n := by have := HLE.out; rw [hkl] at this; simp [slack] at this; omega
        have HF := Lib.hid hfin
        have hz := hrel.size
        have hz' : w.heap.size < wr.heap.size := by omega
        obtain ⟨⟨hp0, hp1⟩, _⟩ := box2 hrel.box
        dsimp only at hp0 hp1
        clear hfin HFIN HST hkn hkl
        go_wp2_with (at_builtin; refine wpList_append_fits _ rfl _ _ 26 (by rfl) (w.heap.size + 1) 72 i0 2 Tryz.underlying26 hi hz1 (w.heap.size + 1) acc.length (n + 1) (wetCells acc) (by rfl) (by exact (hrel.alloc _).own) ⟨wr.heap.size, 0, none⟩ 1 1 [.int .i64 pa, .string pd] (by rfl) (by rfl) (by exact news2 rfl _ _ _) (by simp [Value.oneCell']) (by omega) ?_; intro w1 hown1 hgrow1)
        go_ret
        have hr1 := (hrel.alloc _).app (pa, pd) hown1 hgrow1
        exact ⟨_, rfl, by rw [HF.out, List.length_append, List.length_singleton]; exact SL.of_own (own_len hr1), hr1.below⟩

/-- disk.with: what is to be, with one more, in a list of its own. -/
theorem with_calls (v : Value) (l : List Wt) (p : Wt) (w : World) (h : SL w 72 2 v l.length (wetCells l)) (hn : l.length ≤ 1000000) :
    Calls Tryz.prog 95 #[v, .agg #[.int .i64 p.1, .string p.2]] w fun e w' => ∃ v', e = .returned v' ∧ SL w' 72 2 v' (withF p l).length (wetCells (withF p l)) ∧ Below w.heap.size w w' := by
  obtain ⟨A, c, rfl, _, hr⟩ := h
  exact with_walk A c l p w hr hn
end Go.Proofs.YtnbbijpmkhdgpaaGreat.Dsk

/- DSettle -/
namespace Go.Proofs.YtnbbijpmkhdgpaaGreat.Dsk
open Go.RowKit

set_option maxRecDepth 100000 in
set_option maxHeartbeats 1000000 in
theorem settled_none (A : Option Addr) (n c : Nat) (A' : Option Addr) (c' : Nat) (dead : Bool) (left : Int) (stay : Nat) (w : World) :
    Calls Tryz.prog 96 #[.agg #[.slice A n c, .slice A' 0 c', .bool dead, .int .i64 left], .int .u64 stay] w fun e w' =>
      e = .returned (.agg #[.slice A n c, .slice none 0 0, .bool dead, .int .i64 left]) ∧ Below w.heap.size w w' := by
  go_enter Tryz.func96, Tryz.ntmps96
  go_wp2_with fail
  refine wp_loop_rounds 1 ?_
  rw [rounds_succ]
  go_wp2_with fail
  exact bodyPost_ret (v := .agg #[.slice A n c, .slice none 0 0, .bool dead, .int .i64 left]) (by simp [results, Tryz.results96, go_sem]) rfl ⟨rfl, ((Below.refl _ _).alloc (Nat.le_refl _) _).alloc (by simp) _⟩

theorem heap_setCell_at {w : World} {g i : Nat} {u : Value} {cur : Array Value} {t : TypeId} {fr : Nat × Nat} (h : w.heap[g]? = some (.cells cur t fr)) : (w.setCell ⟨g, i, none⟩ u).heap[g]? = some (.cells (cur.setIfInBounds i u) t fr) := by
  simp [World.setCell, Array.getElem?_modify, h]

/-- What holds at each round's head. -/
structure SetRel (w : World) (v vw : Value) (dead : Bool) (left : Int) (ss : List ByteArray) (wr : World) : Prop where
  own : wr.ownsRow (w.heap.size + 2) 9 1 v ss.length (ss.map Value.string)
  box : wr.heap[w.heap.size]? = some (.cells #[v, vw, .bool dead, .int .i64 left] 28 (0, 0))
  res : wr.heap[w.heap.size + 1]? = some (.cells #[.slice none 0 0, .slice none 0 0, .bool false, .int .i64 0] 28 (0, 0))
  below : Below w.heap.size w wr

theorem SetRel.kept {w : World} {v vw : Value} {dead : Bool} {left : Int} {ss : List ByteArray} {wr w2 : World} (h : SetRel w v vw dead left ss wr) (hb : Below wr.heap.size wr w2) : SetRel w v vw dead left ss w2 := by
  have hle := h.below.size
  refine ⟨?_, box_kept _ h.box hb, box_kept _ h.res hb, below_trans' h.below hb⟩
  exact h.own.kept (row := none) ⟨hb.os, hb.tape, hb.output, hb.size, fun k hk _ => hb.block k hk⟩ (by cases hv : v.ownBlock <;> simp)

theorem SetRel.set {w : World} {g n cc : Nat} {vw : Value} {dead : Bool} {left : Int} {ss : List ByteArray} {wr : World} (h : SetRel w (.slice (some ⟨g, 0, none⟩) n cc) vw dead left ss wr) (j : Nat) (_hj : j < ss.length) (u : ByteArray) :
    SetRel w (.slice (some ⟨g, 0, none⟩) n cc) vw dead left (ss.set j u) (wr.setCell ⟨g, j, none⟩ (.string u)) := by
  obtain ⟨hl, hor⟩ := h.own
  rcases hor with ⟨hv, _⟩ | ⟨g', cap, cur, hv, hbg, hg, hnc, hcm, hcs, ht⟩
  · cases hv
  · injection hv with e1 e2 e3
    injection e1 with e1
    injection e1 with e1
    subst e1
    subst e3
    refine ⟨⟨by simp, .inr ⟨g, cc, cur.setIfInBounds j (.string u), ?_, hbg, heap_setCell_at hg, by simpa using hnc, hcm, by simpa using hcs, ?_⟩⟩, ?_, ?_, ?_⟩
    · rw [e2]; simp
    · simp only [List.length_set, Nat.mul_one, Array.toList_setIfInBounds, List.take_set]
      rw [Nat.mul_one] at ht
      rw [ht, List.map_set]
    · rw [Below.heap_setCell _ _ _ _ (by simp; omega)]; exact h.box
    · rw [Below.heap_setCell _ _ _ _ (by simp; omega)]; exact h.res
    · exact h.below.setCell (p := ⟨g, j, none⟩) (by simp; omega) _

theorem SetRel.at_ {w : World} {g n cc : Nat} {vw : Value} {dead : Bool} {left : Int} {ss : List ByteArray} {wr : World} (h : SetRel w (.slice (some ⟨g, 0, none⟩) n cc) vw dead left ss wr) (j : Nat) (hj : j < ss.length) :
    (∃ u, wr.cell? ⟨g, j, none⟩ = some (.string u)) ∧ wr.frozen? ⟨g, j, none⟩ = false ∧ w.heap.size + 1 < g := by
  obtain ⟨hl, hor⟩ := h.own
  rcases hor with ⟨hv, _⟩ | ⟨g', cap, cur, hv, hbg, hg, hnc, hcm, hcs, ht⟩
  · cases hv
  · injection hv with e1 e2 e3
    injection e1 with e1
    injection e1 with e1
    subst e1
    refine ⟨⟨ss[j], ?_⟩, ?_, by omega⟩
    · have := h.own.cells (g := g) rfl j (.string ss[j]) (by simp [hj])
      rw [Addr.add_lit, Nat.zero_add] at this
      exact this
    · simp [World.frozen?, hg]

set_option maxRecDepth 100000 in
set_option maxHeartbeats 2000000 in
theorem settled_some (A : Option Addr) (sure : List ByteArray) (c : Nat) (A' : Option Addr) (c' : Nat) (wet : List Wt) (dead : Bool) (left : Int) (stay : Nat) (w : World) (hst64 : stay < 18446744073709551616) (h0 : 0 < wet.length) (hn : sure.length ≤ 1000000) (hm : wet.length ≤ 1000000)
    (h1 : SL w 9 1 (.slice A sure.length c) sure.length (sure.map Value.string)) (h2 : SL w 72 2 (.slice A' wet.length c') wet.length (wetCells wet)) :
    Calls Tryz.prog 96 #[.agg #[.slice A sure.length c, .slice A' wet.length c', .bool dead, .int .i64 left], .int .u64 stay] w fun e w' =>
      ∃ v, e = .returned (.agg #[v, .slice none 0 0, .bool dead, .int .i64 left]) ∧ SL w' 9 1 v sure.length ((settleF stay wet sure).map Value.string) ∧ Below w.heap.size w w' := by
  obtain ⟨n, hnl⟩ : ∃ n, n = sure.length := ⟨_, rfl⟩
  obtain ⟨m, hml⟩ : ∃ m, m = wet.length := ⟨_, rfl⟩
  rw [← hnl] at h1 hn ⊢
  rw [← hml] at h2 hm h0 ⊢
  have hm0 : decide ((0 : Int) < m) = true := by simpa using h0
  have H64 := Lib.hid hst64
  have HN := Lib.hid hnl
  have HM := Lib.hid hml
  have H1 := Lib.hid h1
  have H2 := Lib.hid h2
  clear hnl hml h1 h2 hst64
  go_enter Tryz.func96, Tryz.ntmps96
  go_wp2_with fail
  have hb0 : Below w.heap.size w ((w.alloc (.cells #[.slice A n c, .slice A' m c', .bool dead, .int .i64 left] 28)).alloc (.cells #[.slice none 0 0, .slice none 0 0, .bool false, .int .i64 0] 28)) := ((Below.refl _ _).alloc (Nat.le_refl _) _).alloc (by simp) _
  have hcl := clone_calls (.slice A n c) sure _ (by rw [← HN.out]; exact H1.out.below hb0) (by rw [← HN.out]; exact hn)
  refine hcl.mono ?_
  rintro e w1 ⟨v, rfl, hown, hb1⟩
  have hg1 := box_kept w.heap.size (box_alloc (heap_alloc_new w _) _) hb1
  have hg2 : w1.heap[w.heap.size + 1]? = some (.cells #[.slice none 0 0, .slice none 0 0, .bool false, .int .i64 0] 28 (0, 0)) := box_kept (w.heap.size + 1) (by have := heap_alloc_new (w.alloc (.cells #[.slice A n c, .slice A' m c', .bool dead, .int .i64 left] 28)) (.cells #[.slice none 0 0, .slice none 0 0, .bool false, .int .i64 0] 28); simpa using this) hb1
  have hbw := below_trans' hb0 hb1
  obtain ⟨⟨c0, c1, c2, c3⟩, f0, f1, f2, f3⟩ := box4 hg1
  have hrel0 : SetRel w v (.slice A' m c') dead left sure (w1.setCell ⟨w.heap.size, 0, none⟩ v) := by
    refine ⟨?_, ?_, ?_, ?_⟩
    · exact ownsRow_setCell_below (by simpa using hown) (by simp) v
    · rw [heap_setCell_at hg1]; rfl
    · rw [Below.heap_setCell _ _ _ _ (by simp)]; exact hg2
    · exact hbw.setCell (p := ⟨w.heap.size, 0, none⟩) (Nat.le_refl _) _
  obtain ⟨A2, cc2, ev⟩ : ∃ A2 cc2, v = .slice A2 n cc2 := by
    obtain ⟨A2, cc2, ev, _⟩ := SL.of_own hown
    exact ⟨A2, cc2, by rw [ev, HN.out]⟩
  subst ev
  have HR0 := Lib.hid hrel0
  clear hcl hown hb1 hb0 hg1 hg2 hbw hrel0
  go_wp2_with fail
  go_loopw [18] (fun u wr => ∃ k : Nat, k ≤ m ∧ u = .int .i64 k ∧ SetRel w (.slice A2 n cc2) (.slice A' m c') dead left (settleK stay wet sure k) wr) (fun u _ => m - (intOf u).toNat)
  case atStart => exact ⟨0, Nat.zero_le _, rfl, HR0.out⟩
  case round =>
    obtain ⟨k, hk, rfl, hrel⟩ := hrel
    clear HR0 c0 c1 c2 c3 f0 f1 f2 f3
    by_cases hlt : k < m
    · obtain ⟨o, ho⟩ : ∃ o, wet[k]? = some o := ⟨_, List.getElem?_eq_getElem (by have := HM.out; omega)⟩
      obtain ⟨A3, c3, e3, _, hr2⟩ := H2.out
      cases e3
      obtain ⟨b, off, rfl, hbl, hcell⟩ := hr2.at_ (by omega)
      have hw := wetCells_at wet k o ho
      have hst : settleK stay wet sure (k + 1) = setStep stay k o (settleK stay wet sure k) := by
        show (match wet[k]? with | some o => setStep stay k o (settleK stay wet sure k) | none => settleK stay wet sure k) = _
        rw [ho]
      have hlen : (settleK stay wet sure k).length = n := by rw [settleK_length, HN.out]
      obtain ⟨oa, od⟩ := o
      have hc0 : wr.cell? ⟨b, off + k * 2, none⟩ = some (.int .i64 oa) := (hrel.below.cell (p := ⟨b, off + k * 2, none⟩) hbl).trans (hcell _ _ hw.1)
      have hc1 : wr.cell? ⟨b, off + k * 2 + 1, none⟩ = some (.string od) := (hrel.below.cell (p := ⟨b, off + k * 2 + 1, none⟩) hbl).trans (hcell _ _ hw.2)
      obtain ⟨⟨hp0, hp1, hp2, hp3⟩, _⟩ := box4 hrel.box
      have hz : w.heap.size + 1 < wr.heap.size := (Array.getElem?_eq_some_iff.1 hrel.res).1
      have hz' : w.heap.size < wr.heap.size := by omega
      have hbz : b < wr.heap.size := by omega
      have HS := Lib.hid hst
      have HL := Lib.hid hlen
      have hk1 : k + 1 ≤ m := hlt
      clear hcell hw ho hst hlen hr2
      have hbt := bit_test stay (k % 64) H64.out
      have hrelA := hrel.kept ((Below.refl _ _).alloc (Nat.le_refl _) (.cells #[.int .i64 oa, .string od] 72))
      by_cases hb : stay.testBit (k % 64) = true
      · rw [if_pos hb] at hbt
        have HBT := Lib.hid hb
        clear hb
        go_wp2_with fail
        refine (has_any A2 n cc2 _ m c' dead left oa _).mono ?_
        rintro e w2 ⟨rfl, hb2⟩
        have hrel2 := hrelA.kept hb2
        have hbox2 := box_kept _ (heap_alloc_new wr (.cells #[.int .i64 oa, .string od] 72)) hb2
        obtain ⟨⟨q0, q1⟩, _⟩ := box2 hbox2
        obtain ⟨⟨r0, r1, r2, r3⟩, _⟩ := box4 hrel2.box
        by_cases hin : 0 ≤ oa ∧ oa < n
        · have hh : (decide (0 ≤ oa) && decide (oa < (n : Int))) = true := by simpa using hin
          rw [hh]
          obtain ⟨j, rfl⟩ := Int.eq_ofNat_of_zero_le hin.1
          have hj : j < n := by omega
          obtain ⟨g, cap, hv, _, hgl⟩ := hrel2.own.form (by rw [HL.out]; omega)
          injection hv with e1 e2 e3
          subst e1
          obtain ⟨⟨u, s0⟩, s1, s2⟩ := hrel2.at_ j (by rw [HL.out]; exact hj)
          have hne1 : g ≠ w.heap.size := by omega
          have hs' : settleK stay wet sure (k + 1) = (settleK stay wet sure k).set j od := by
            rw [HS.out]; unfold setStep; rw [if_pos]
            · rfl
            · exact ⟨HBT.out, by simp, by rw [HL.out]; simpa using hj⟩
          have HS' := Lib.hid hs'
          clear hbox2 hb2 hrelA hh hin e2 e3 hs'
          go_wp2_with fail
          exact ⟨⟨k + 1, hk1, by go_num, by rw [HS'.out]; exact hrel2.set j (by rw [HL.out]; exact hj) od⟩, by simp [intOf]; omega⟩
        · have hh : (decide (0 ≤ oa) && decide (oa < (n : Int))) = false := by
            rw [Bool.eq_false_iff]; intro h; simp at h; exact hin h
          rw [hh]
          have hs' : settleK stay wet sure (k + 1) = settleK stay wet sure k := by
            rw [HS.out]; unfold setStep; rw [if_neg]; rw [HL.out]; exact fun h => hin h.2
          have HS' := Lib.hid hs'
          clear hbox2 hb2 hrelA hh hin hs'
          go_wp2_with fail
          exact ⟨⟨k + 1, hk1, by go_num, by rw [HS'.out]; exact hrel2⟩, by simp [intOf]; omega⟩
      · rw [if_neg hb] at hbt
        have hs' : settleK stay wet sure (k + 1) = settleK stay wet sure k := by
          rw [HS.out]; unfold setStep; rw [if_neg]; exact fun h => hb h.1
        have HS' := Lib.hid hs'
        clear hb hs'
        go_wp2_with fail
        exact ⟨⟨k + 1, hk1, by go_num, by rw [HS'.out]; exact hrelA⟩, by simp [intOf]; omega⟩
    · have hkm : k = m := by omega
      have hfin : settleF stay wet sure = settleK stay wet sure k := by rw [hkm, HM.out]; rfl
      have HF := Lib.hid hfin
      have hlen : (settleK stay wet sure k).length = n := by rw [settleK_length, HN.out]
      have HL := Lib.hid hlen
      obtain ⟨⟨hp0, hp1, hp2, hp3⟩, hf0, hf1, hf2, hf3⟩ := box4 hrel.box
      obtain ⟨⟨hq0, hq1, hq2, hq3⟩, hg0, hg1, hg2, hg3⟩ := box4 hrel.res
      clear hkm hfin hlen
      go_wp2_with fail
      refine bodyPost_ret (v := .agg #[.slice A2 n cc2, .slice none 0 0, .bool dead, .int .i64 left]) (by simp [results, Tryz.results96, go_sem, hq0, hq1, hq2, hq3]) rfl ⟨_, rfl, ?_, ?_⟩
      · have h0' := SL.of_own hrel.own
        rw [HL.out, ← HF.out] at h0'
        have h1' := h0'.other (w' := wr.setCell ⟨w.heap.size, 1, none⟩ (.slice none 0 0)) hrel.box (by decide) (fun b hb => Below.heap_setCell _ _ _ _ hb)
        exact h1'.other (by rw [Below.heap_setCell _ _ _ _ (by simp)]; exact hrel.res) (by decide) (store4_other _ _ _ _ _ _)
      · exact below_store4 (hrel.below.setCell (p := ⟨w.heap.size, 1, none⟩) (Nat.le_refl _) _) _ (by omega) _ _ _ _

/-- disk.settled. -/
theorem settled_calls (v : Value) (d : DK) (stay : Nat) (w : World) (hv : IsDisk w v d) (hst : stay < 18446744073709551616) (hn : d.sure.length ≤ 1000000) (hm : d.wet.length ≤ 1000000) :
    Calls Tryz.prog 96 #[v, .int .u64 stay] w fun e w' => ∃ v', e = .returned v' ∧ IsDisk w' v' { d with sure := settleF stay d.wet d.sure, wet := [] } ∧ Below w.heap.size w w' := by
  obtain ⟨sure, wet, dead, left⟩ := d
  obtain ⟨_, _, rfl, h3, h4⟩ := hv
  obtain ⟨A, c, rfl, hc, hr⟩ := id h3
  obtain ⟨A', c', rfl, hc', hr'⟩ := id h4
  dsimp only at *
  rcases Nat.eq_zero_or_pos wet.length with h0 | h0
  · have e0 : wet = [] := List.eq_nil_of_length_eq_zero h0
    subst e0
    refine (settled_none A sure.length c A' c' dead left stay w).mono ?_
    rintro e w' ⟨rfl, hb⟩
    exact ⟨_, rfl, ⟨_, _, rfl, h3.below hb, SL.nil _ _ _⟩, hb⟩
  · refine (settled_some A sure c A' c' wet dead left stay w hst h0 hn hm h3 h4).mono ?_
    rintro e w' ⟨v', rfl, hs, hb⟩
    refine ⟨_, rfl, ⟨_, _, rfl, ?_, SL.nil _ _ _⟩, hb⟩
    have e1 : (settleF stay wet sure).length = sure.length := settleK_length _ _ _ _
    dsimp only
    rw [e1]
    exact hs
end Go.Proofs.YtnbbijpmkhdgpaaGreat.Dsk

/- DFlush -/
namespace Go.Proofs.YtnbbijpmkhdgpaaGreat.Dsk
open Go.RowKit

theorem settled_all (v : Value) (d : DK) (w : World) (hv : IsDisk w v d) (hd : d.ok) :
    Calls Tryz.prog 96 #[v, .int .u64 18446744073709551615] w fun e w' => ∃ v', e = .returned v' ∧ IsDisk w' v' { d with sure := settleF allBits d.wet d.sure, wet := [] } ∧ Below w.heap.size w w' :=
  settled_calls v d allBits w hv (by decide) (by have := hd.sure; omega) (by have := hd.wet; omega)

/-- The parts of a disk's value. -/
theorem IsDisk.parts {w : World} {v : Value} {d : DK} (h : IsDisk w v d) : ∃ A n c A' m c', v = .agg #[.slice A n c, .slice A' m c', .bool d.dead, .int .i64 d.left] := by
  obtain ⟨vs, vw, rfl, h3, h4⟩ := h
  obtain ⟨A, c, rfl, _⟩ := h3
  obtain ⟨A', c', rfl, _⟩ := h4
  exact ⟨A, _, c, A', _, c', rfl⟩

/-- Stores into a box of another type leave a disk. -/
theorem IsDisk.other {w w' : World} {v : Value} {d : DK} (h : IsDisk w v d) {g : Nat} {t : TypeId} {cur : Array Value} {fr : Nat × Nat} (hg : w.heap[g]? = some (.cells cur t fr)) (h9 : t ≠ 9) (h52 : t ≠ 72) (hk : ∀ b : Nat, b ≠ g → w'.heap[b]? = w.heap[b]?) : IsDisk w' v d := by
  obtain ⟨vs, vw, e, h3, h4⟩ := h
  exact ⟨vs, vw, e, h3.other hg h9 hk, h4.other hg h52 hk⟩

theorem IsDisk.redo {w : World} {A A' : Option Addr} {n c m c' : Nat} {b : Bool} {l : Int} {d : DK} (h : IsDisk w (.agg #[.slice A n c, .slice A' m c', .bool b, .int .i64 l]) d) (x : Bool) (y : Int) :
    IsDisk w (.agg #[.slice A n c, .slice A' m c', .bool x, .int .i64 y]) { d with dead := x, left := y } := by
  obtain ⟨vs, vw, e, h3, h4⟩ := h
  simp only [Value.agg.injEq, Array.mk.injEq, List.cons.injEq] at e
  obtain ⟨rfl, rfl, _⟩ := e
  exact ⟨_, _, rfl, h3, h4⟩

theorem heap_store4 {w : World} {g : Nat} {v0 v1 v2 v3 u0 u1 u2 u3 : Value} {t : TypeId} {fr : Nat × Nat} (h : w.heap[g]? = some (.cells #[v0, v1, v2, v3] t fr)) :
    ((((w.setCell ⟨g, 0, none⟩ u0).setCell ⟨g, 1, none⟩ u1).setCell ⟨g, 2, none⟩ u2).setCell ⟨g, 3, none⟩ u3).heap[g]? = some (.cells #[u0, u1, u2, u3] t fr) := by
  rw [heap_setCell_at (heap_setCell_at (heap_setCell_at (heap_setCell_at h)))]; rfl

/-- The world behind the store of a whole box, under a name of its own. -/
theorem box_store4 {w : World} {g : Nat} {v0 v1 v2 v3 : Value} {t : TypeId} (h : w.heap[g]? = some (.cells #[v0, v1, v2, v3] t (0, 0))) (u0 u1 u2 u3 : Value) :
    ∃ w2, (((w.setCell ⟨g, 0, none⟩ u0).setCell ⟨g, 1, none⟩ u1).setCell ⟨g, 2, none⟩ u2).setCell ⟨g, 3, none⟩ u3 = w2 ∧ w2.heap[g]? = some (.cells #[u0, u1, u2, u3] t (0, 0)) ∧
      (∀ k : Nat, k ≠ g → w2.heap[k]? = w.heap[k]?) ∧ (∀ (B : Nat) (a : World), Below B a w → B ≤ g → Below B a w2) :=
  ⟨_, rfl, heap_store4 h, fun k hk => store4_other _ _ _ _ _ _ k hk, fun _ _ hb hg => below_store4 hb _ hg _ _ _ _⟩

set_option maxRecDepth 100000 in
set_option maxHeartbeats 1000000 in
theorem flush_calls (v : Value) (d : DK) (w : World) (hv : IsDisk w v d) (hd : d.ok) :
    Calls Tryz.prog 64 #[v] w fun e w' => ∃ v', e = .returned (.tuple #[v', .int .i64 (if deedB d = true then 0 else 12)]) ∧ IsDisk w' v' (if deedB d = true then { deedD d with sure := settleF allBits d.wet d.sure, wet := [] } else deedD d) ∧ Below w.heap.size w w' := by
  obtain ⟨A, n, c, A', m, c', rfl⟩ := hv.parts
  have hwt : (deedD d).wet = d.wet := by unfold deedD; split <;> (try split) <;> rfl
  have hsr : (deedD d).sure = d.sure := by unfold deedD; split <;> (try split) <;> rfl
  have hdo := deedD_ok hd
  obtain ⟨d1, hd1⟩ : ∃ d1, d1 = deedD d := ⟨_, rfl⟩
  obtain ⟨b1, hb1⟩ : ∃ b1, b1 = deedB d := ⟨_, rfl⟩
  have hde : ∀ W : World, Below w.heap.size w W → Calls Tryz.prog 94 #[.agg #[.slice A n c, .slice A' m c', .bool d.dead, .int .i64 d.left]] W fun e w' => ∃ v', e = .returned (.tuple #[v', .bool b1]) ∧ IsDisk w' v' d1 ∧ Below W.heap.size W w' := fun W hb => by
    rw [hd1, hb1]; exact deed_calls _ d W (hv.below hb) hd.hi
  rw [← hd1] at hwt hsr hdo ⊢
  rw [← hb1, ← hwt, ← hsr]
  clear hd1 hb1 hwt hsr hv hd
  obtain ⟨sure, wet, dead, left⟩ := d
  dsimp only at hde
  have HDE := Lib.hid hde
  have HDO := Lib.hid hdo
  clear hde hdo
  go_enter Tryz.func64, Tryz.ntmps64
  go_wp2_with fail
  have hb0 : Below w.heap.size w ((w.alloc (.cells #[.slice A n c, .slice A' m c', .bool dead, .int .i64 left] 28)).alloc (.cells #[.slice none 0 0, .slice none 0 0, .bool false, .int .i64 0] 28)) := ((Below.refl _ _).alloc (Nat.le_refl _) _).alloc (by simp) _
  with_reducible refine (HDE.out _ hb0).mono ?_
  clear HDE
  rintro e w1 ⟨v1, rfl, hv1, hb1⟩
  obtain ⟨A1, n1, c1, A1', m1, c1', rfl⟩ := hv1.parts
  obtain ⟨sure1, wet1, dead1, left1⟩ := d1
  dsimp only at hv1 ⊢
  have hg1 := box_kept w.heap.size (box_alloc (heap_alloc_new w _) _) hb1
  have hg2 : w1.heap[w.heap.size + 1]? = some (.cells #[.slice none 0 0, .slice none 0 0, .bool false, .int .i64 0] 28 (0, 0)) := box_kept (w.heap.size + 1) (by have := heap_alloc_new (w.alloc (.cells #[.slice A n c, .slice A' m c', .bool dead, .int .i64 left] 28)) (.cells #[.slice none 0 0, .slice none 0 0, .bool false, .int .i64 0] 28); simpa using this) hb1
  have hbw := below_trans' hb0 hb1
  obtain ⟨w2, e2, hG2, hK2, hB2⟩ := box_store4 hg1 (.slice A1 n1 c1) (.slice A1' m1 c1') (.bool dead1) (.int .i64 left1)
  have HV2 := Lib.hid (hv1.other hg1 (by decide) (by decide) hK2)
  have HB := Lib.hid (hB2 _ _ hbw (Nat.le_refl _))
  have hr2 : w2.heap[w.heap.size + 1]? = _ := (hK2 _ (by omega)).trans hg2
  obtain ⟨⟨hp0, hp1, hp2, hp3⟩, hf0, hf1, hf2, hf3⟩ := box4 hg1
  have HG2 := Lib.hid hG2
  have HR2 := Lib.hid hr2
  have E2 := Lib.hid e2
  clear hb0 hb1 hv1 hg1 hg2 hbw e2 hG2 hK2 hB2 hr2
  go_upto_region 2 with (fail)
  rw [E2.out]
  clear hp0 hp1 hp2 hp3 hf0 hf1 hf2 hf3 E2
  obtain ⟨⟨hp0, hp1, hp2, hp3⟩, hf0, hf1, hf2, hf3⟩ := box4 HG2.out
  obtain ⟨⟨hq0, hq1, hq2, hq3⟩, hr0, hr1, hr2, hr3⟩ := box4 HR2.out
  cases b1 with
  | false =>
    go_wp2_with fail
    refine bodyPost_ret (v := .tuple #[.agg #[.slice A1 n1 c1, .slice A1' m1 c1', .bool dead1, .int .i64 left1], .int .i64 12]) (by simp [results, Tryz.results64, go_sem, hq0, hq1, hq2, hq3]) rfl ⟨_, rfl, ?_, ?_⟩
    · exact HV2.out.other HR2.out (by decide) (by decide) (store4_other _ _ _ _ _ _)
    · exact below_store4 HB.out _ (by omega) _ _ _ _
  | true =>
    go_wp2_with fail
    with_reducible refine (settled_all _ _ _ HV2.out HDO.out).mono ?_
    rintro e w3 ⟨v3, rfl, hv3, hb3⟩
    obtain ⟨A3, n3, c3, A3', m3, c3', rfl⟩ := hv3.parts
    dsimp only at hv3 ⊢
    have hg3 := box_kept _ HR2.out hb3
    have HV3 := Lib.hid hv3
    have HB3 := Lib.hid (below_trans' HB.out (hb3.mono (by have := HB.out.size; omega)))
    have HG3 := Lib.hid hg3
    clear hq0 hq1 hq2 hq3 hr0 hr1 hr2 hr3 hp0 hp1 hp2 hp3 hf0 hf1 hf2 hf3
    obtain ⟨⟨hq0, hq1, hq2, hq3⟩, hr0, hr1, hr2, hr3⟩ := box4 hg3
    clear hv3 hb3 hg3
    go_wp2_with fail
    refine bodyPost_ret (v := .tuple #[.agg #[.slice A3 n3 c3, .slice A3' m3 c3', .bool dead1, .int .i64 left1], .int .i64 0]) (by simp [results, Tryz.results64, go_sem, hq0, hq1, hq2, hq3]) rfl ⟨_, rfl, ?_, ?_⟩
    · exact HV3.out.other HG3.out (by decide) (by decide) (store4_other _ _ _ _ _ _)
    · exact below_store4 HB3.out _ (by omega) _ _ _ _
end Go.Proofs.YtnbbijpmkhdgpaaGreat.Dsk

/- DRWrite -/
namespace Go.Proofs.YtnbbijpmkhdgpaaGreat.Dsk
open Go.RowKit

set_option maxRecDepth 100000 in
set_option maxHeartbeats 1000000 in
theorem rwrite_arg (v : Value) (d : DK) (at_ : Int) (data : ByteArray) (w : World) (hv : IsDisk w v d) (hbad : ¬ (0 ≤ at_ ∧ at_ < d.sure.length ∧ data.size ≤ 256)) :
    Calls Tryz.prog 21 #[v, .int .i64 at_, .string data] w fun e w' => ∃ v', e = .returned (.tuple #[v', .int .i64 1]) ∧ IsDisk w' v' d ∧ Below w.heap.size w w' := by
  obtain ⟨sure, wet, dead, left⟩ := d
  obtain ⟨_, _, rfl, h3, h4⟩ := hv
  obtain ⟨A, c, rfl, _⟩ := id h3
  obtain ⟨A', c', rfl, _⟩ := id h4
  dsimp only at *
  have hb2 : Below w.heap.size w ((w.alloc (.cells #[.slice A sure.length c, .slice A' wet.length c', .bool dead, .int .i64 left] 28)).alloc (.cells #[.slice A sure.length c, .slice A' wet.length c', .bool dead, .int .i64 left] 28)) := ((Below.refl _ _).alloc (Nat.le_refl _) _).alloc (by simp) _
  have hfin : ∃ v', Ending.returned (.tuple #[.agg #[.slice A sure.length c, .slice A' wet.length c', .bool dead, .int .i64 left], .int .i64 1]) = .returned (.tuple #[v', .int .i64 1]) ∧ IsDisk ((w.alloc (.cells #[.slice A sure.length c, .slice A' wet.length c', .bool dead, .int .i64 left] 28)).alloc (.cells #[.slice A sure.length c, .slice A' wet.length c', .bool dead, .int .i64 left] 28)) v' ⟨sure, wet, dead, left⟩ ∧ Below w.heap.size w ((w.alloc (.cells #[.slice A sure.length c, .slice A' wet.length c', .bool dead, .int .i64 left] 28)).alloc (.cells #[.slice A sure.length c, .slice A' wet.length c', .bool dead, .int .i64 left] 28)) :=
    ⟨_, rfl, ⟨_, _, rfl, h3.below hb2, h4.below hb2⟩, hb2⟩
  have HF := Lib.hid hfin
  clear h3 h4 hb2 hfin
  by_cases h0 : at_ < 0
  · have hd0 : decide (at_ < 0) = true := decide_eq_true h0
    go_enter Tryz.func21, Tryz.ntmps21
    go_wp2_with fail
    exact bodyPost_ret (v := .tuple #[.agg #[.slice A sure.length c, .slice A' wet.length c', .bool dead, .int .i64 left], .int .i64 1]) (by simp [results, Tryz.results21, go_sem]) rfl HF.out
  · have hd0 : decide (at_ < 0) = false := decide_eq_false h0
    by_cases h1 : (sure.length : Int) ≤ at_
    · have hd1 : decide ((sure.length : Int) ≤ at_) = true := decide_eq_true h1
      go_enter Tryz.func21, Tryz.ntmps21
      go_wp2_with fail
      exact bodyPost_ret (v := .tuple #[.agg #[.slice A sure.length c, .slice A' wet.length c', .bool dead, .int .i64 left], .int .i64 1]) (by simp [results, Tryz.results21, go_sem]) rfl HF.out
    · have hd1 : decide ((sure.length : Int) ≤ at_) = false := decide_eq_false h1
      have hd2 : decide ((256 : Int) < (data.size : Int)) = true := by simp; omega
      go_enter Tryz.func21, Tryz.ntmps21
      go_wp2_with fail
      exact bodyPost_ret (v := .tuple #[.agg #[.slice A sure.length c, .slice A' wet.length c', .bool dead, .int .i64 left], .int .i64 1]) (by simp [results, Tryz.results21, go_sem]) rfl HF.out

set_option maxRecDepth 100000 in
set_option maxHeartbeats 1000000 in
theorem rwrite_down (v : Value) (d : DK) (at_ : Int) (data : ByteArray) (w : World) (hv : IsDisk w v d) (hd : d.ok) (h1 : 0 ≤ at_) (h2 : at_ < d.sure.length) (h3 : data.size ≤ 256) (hdown : deedB d = false) :
    Calls Tryz.prog 21 #[v, .int .i64 at_, .string data] w fun e w' => ∃ v', e = .returned (.tuple #[v', .int .i64 12]) ∧ IsDisk w' v' (deedD d) ∧ Below w.heap.size w w' := by
  obtain ⟨A, n, c, A', m, c', rfl⟩ := hv.parts
  have hnl : d.sure.length = n := by
    obtain ⟨vs, vw, e, ⟨A1, c1, e1, _⟩, _⟩ := hv
    simp only [Value.agg.injEq, Array.mk.injEq, List.cons.injEq] at e
    rw [e1] at e
    injection e.1 with _ e2
    exact e2.symm
  rw [hnl] at h2
  have hd0 : decide (at_ < 0) = false := decide_eq_false (by omega)
  have hd1' : decide ((n : Int) ≤ at_) = false := decide_eq_false (by omega)
  have hd2 : decide ((256 : Int) < (data.size : Int)) = false := by simp; omega
  have hwt : (deedD d).wet = d.wet := by unfold deedD; split <;> (try split) <;> rfl
  have hsr : (deedD d).sure = d.sure := by unfold deedD; split <;> (try split) <;> rfl
  have hdo := deedD_ok hd
  obtain ⟨d1, hd1⟩ : ∃ d1, d1 = deedD d := ⟨_, rfl⟩
  obtain ⟨b1, hb1⟩ : ∃ b1, b1 = deedB d := ⟨_, rfl⟩
  have hde : ∀ W : World, Below w.heap.size w W → Calls Tryz.prog 50 #[.agg #[.slice A n c, .slice A' m c', .bool d.dead, .int .i64 d.left]] W fun e w' => ∃ v', e = .returned (.tuple #[v', .bool b1]) ∧ IsDisk w' v' d1 ∧ Below W.heap.size W w' := fun W hb => by
    rw [hd1, hb1]; exact rdeed_calls _ d W (hv.below hb) hd.lo hd.hi
  rw [← hd1] at hwt hsr hdo ⊢
  rw [hdown] at hb1
  subst hb1
  clear hd1 hwt hsr hv hd hnl
  obtain ⟨sure, wet, dead, left⟩ := d
  dsimp only at hde
  have HDE := Lib.hid hde
  have HDO := Lib.hid hdo
  clear hde hdo
  go_enter Tryz.func21, Tryz.ntmps21
  go_wp2_with fail
  have hb0 : Below w.heap.size w ((w.alloc (.cells #[.slice A n c, .slice A' m c', .bool dead, .int .i64 left] 28)).alloc (.cells #[.slice none 0 0, .slice none 0 0, .bool false, .int .i64 0] 28)) := ((Below.refl _ _).alloc (Nat.le_refl _) _).alloc (by simp) _
  with_reducible refine (HDE.out _ hb0).mono ?_
  clear HDE
  rintro e w1 ⟨v1, rfl, hv1, hb1⟩
  obtain ⟨A1, n1, c1, A1', m1, c1', rfl⟩ := hv1.parts
  obtain ⟨sure1, wet1, dead1, left1⟩ := d1
  dsimp only at hv1 ⊢
  have hg1 := box_kept w.heap.size (box_alloc (heap_alloc_new w _) _) hb1
  have hg2 : w1.heap[w.heap.size + 1]? = some (.cells #[.slice none 0 0, .slice none 0 0, .bool false, .int .i64 0] 28 (0, 0)) := box_kept (w.heap.size + 1) (by have := heap_alloc_new (w.alloc (.cells #[.slice A n c, .slice A' m c', .bool dead, .int .i64 left] 28)) (.cells #[.slice none 0 0, .slice none 0 0, .bool false, .int .i64 0] 28); simpa using this) hb1
  have hbw := below_trans' hb0 hb1
  obtain ⟨w2, e2, hG2, hK2, hB2⟩ := box_store4 hg1 (.slice A1 n1 c1) (.slice A1' m1 c1') (.bool dead1) (.int .i64 left1)
  have HV2 := Lib.hid (hv1.other hg1 (by decide) (by decide) hK2)
  have HB := Lib.hid (hB2 _ _ hbw (Nat.le_refl _))
  have hr2 : w2.heap[w.heap.size + 1]? = _ := (hK2 _ (by omega)).trans hg2
  obtain ⟨⟨hp0, hp1, hp2, hp3⟩, hf0, hf1, hf2, hf3⟩ := box4 hg1
  have HG2 := Lib.hid hG2
  have HR2 := Lib.hid hr2
  have E2 := Lib.hid e2
  clear hb0 hb1 hv1 hg1 hg2 hbw e2 hG2 hK2 hB2 hr2
  go_upto_region 4 with (fail)
  rw [E2.out]
  clear hp0 hp1 hp2 hp3 hf0 hf1 hf2 hf3 E2
  obtain ⟨⟨hp0, hp1, hp2, hp3⟩, hf0, hf1, hf2, hf3⟩ := box4 HG2.out
  obtain ⟨⟨hq0, hq1, hq2, hq3⟩, hr0, hr1, hr2, hr3⟩ := box4 HR2.out
  go_wp2_with fail
  refine bodyPost_ret (v := .tuple #[.agg #[.slice A1 n1 c1, .slice A1' m1 c1', .bool dead1, .int .i64 left1], .int .i64 12]) (by simp [results, Tryz.results21, go_sem, hq0, hq1, hq2, hq3]) rfl ⟨_, rfl, ?_, ?_⟩
  · exact HV2.out.other HR2.out (by decide) (by decide) (store4_other _ _ _ _ _ _)
  · exact below_store4 HB.out _ (by omega) _ _ _ _

end Go.Proofs.YtnbbijpmkhdgpaaGreat.Dsk

/- DWrite -/
namespace Go.Proofs.YtnbbijpmkhdgpaaGreat.Dsk
open Go.RowKit
attribute [local go_sem ↓] Go.wp_at_zero Go.wp_at_succ

/-- Two boxes laid ahead of a call are there behind it. -/
theorem two_boxes {w w1 : World} {o1 o2 : Obj} (hb : Below ((w.alloc o1).alloc o2).heap.size ((w.alloc o1).alloc o2) w1) : w1.heap[w.heap.size]? = some o1 ∧ w1.heap[w.heap.size + 1]? = some o2 ∧ Below w.heap.size w w1 := by
  refine ⟨box_kept w.heap.size (box_alloc (heap_alloc_new w o1) o2) hb, ?_, below_trans' (((Below.refl _ _).alloc (Nat.le_refl _) _).alloc (by simp) _) hb⟩
  exact box_kept (w.heap.size + 1) (by have := heap_alloc_new (w.alloc o1) o2; simpa using this) hb

theorem below_of_drew {w w' : World} (h : Below w.drew.heap.size w.drew w') : Below w.heap.size w w' := ⟨h.os, h.tape, h.output, h.size, h.block⟩

theorem IsDisk.rewet {w : World} {A A' A5 : Option Addr} {n c m c' n5 c5 : Nat} {b : Bool} {l : Int} {d : DK} {wet5 : List (Int × ByteArray)} (h : IsDisk w (.agg #[.slice A n c, .slice A' m c', .bool b, .int .i64 l]) d) (h5 : SL w 72 2 (.slice A5 n5 c5) wet5.length (wetCells wet5)) :
    IsDisk w (.agg #[.slice A n c, .slice A5 n5 c5, .bool b, .int .i64 l]) { d with wet := wet5 } := by
  obtain ⟨vs, vw, e, h3, h4⟩ := h
  simp only [Value.agg.injEq, Array.mk.injEq, List.cons.injEq] at e
  obtain ⟨rfl, rfl, e3, e4, _⟩ := e
  exact ⟨_, _, by rw [e3, e4], h3, h5⟩

/-- The parts of a disk's value, with the lengths that they say. -/
theorem IsDisk.open_ {w : World} {v : Value} {d : DK} (h : IsDisk w v d) : ∃ A n c A' m c', v = .agg #[.slice A n c, .slice A' m c', .bool d.dead, .int .i64 d.left] ∧ n = d.sure.length ∧ m = d.wet.length ∧ SL w 72 2 (.slice A' m c') m (wetCells d.wet) := by
  obtain ⟨vs, vw, rfl, h3, h4⟩ := h
  obtain ⟨A, c, rfl, _⟩ := h3
  obtain ⟨A', c', rfl, _⟩ := id h4
  exact ⟨A, _, c, A', _, c', rfl, rfl, rfl, h4⟩

set_option maxRecDepth 100000 in
set_option maxHeartbeats 1000000 in
/-- Refused for its argument: the disk is as it was. -/
theorem write_arg (v : Value) (d : DK) (at_ : Int) (data : ByteArray) (w : World) (hv : IsDisk w v d) (hbad : ¬ (0 ≤ at_ ∧ at_ < d.sure.length ∧ data.size ≤ 256)) :
    Calls Tryz.prog 63 #[v, .int .i64 at_, .string data] w fun e w' => ∃ v', e = .returned (.tuple #[v', .int .i64 1]) ∧ IsDisk w' v' d ∧ Below w.heap.size w w' := by
  obtain ⟨sure, wet, dead, left⟩ := d
  obtain ⟨A, n, c, A', m, c', rfl, hn, hm, -⟩ := hv.open_
  dsimp only at *
  have HV := Lib.hid hv
  have HN := Lib.hid hn
  rw [← hn] at hbad
  clear hv hn hm
  by_cases hin : 0 ≤ at_ ∧ at_ < n
  · have hds : decide ((256 : Int) < data.size) = true := by simp; omega
    have hh : (decide (0 ≤ at_) && decide (at_ < (n : Int))) = true := by simpa using hin
    have HH := Lib.hid hh
    clear hbad hin hh
    go_enter Tryz.func63, Tryz.ntmps63
    go_wp2_with (go_at_call 78; refine (has_any A n c A' m c' dead left at_ _).mono ?_; rintro e w1 ⟨rfl, hb1⟩; rw [HH.out]; obtain ⟨hg1, hg2, hbw⟩ := two_boxes hb1; obtain ⟨⟨hp0, hp1, hp2, hp3⟩, hf0, hf1, hf2, hf3⟩ := box4 hg1; obtain ⟨⟨hq0, hq1, hq2, hq3⟩, hr0, hr1, hr2, hr3⟩ := box4 hg2; have HB := Lib.hid hbw; have HG2 := Lib.hid hg2; clear hb1 hg1 hg2 hbw)
    refine bodyPost_ret (v := .tuple #[.agg #[.slice A n c, .slice A' m c', .bool dead, .int .i64 left], .int .i64 1]) (by simp [results, Tryz.results63, go_sem, hq0, hq1, hq2, hq3]) rfl ⟨_, rfl, ?_, ?_⟩
    · exact (HV.out.below HB.out).other HG2.out (by decide) (by decide) (store4_other _ _ _ _ _ _)
    · exact below_store4 HB.out _ (by omega) _ _ _ _
  · have hh : (decide (0 ≤ at_) && decide (at_ < (n : Int))) = false := by
      rw [Bool.eq_false_iff]; intro h; simp at h; exact hin h
    have HH := Lib.hid hh
    clear hbad hin hh
    go_enter Tryz.func63, Tryz.ntmps63
    go_wp2_with (go_at_call 78; refine (has_any A n c A' m c' dead left at_ _).mono ?_; rintro e w1 ⟨rfl, hb1⟩; rw [HH.out]; obtain ⟨hg1, hg2, hbw⟩ := two_boxes hb1; obtain ⟨⟨hp0, hp1, hp2, hp3⟩, hf0, hf1, hf2, hf3⟩ := box4 hg1; obtain ⟨⟨hq0, hq1, hq2, hq3⟩, hr0, hr1, hr2, hr3⟩ := box4 hg2; have HB := Lib.hid hbw; have HG2 := Lib.hid hg2; clear hb1 hg1 hg2 hbw)
    refine bodyPost_ret (v := .tuple #[.agg #[.slice A n c, .slice A' m c', .bool dead, .int .i64 left], .int .i64 1]) (by simp [results, Tryz.results63, go_sem, hq0, hq1, hq2, hq3]) rfl ⟨_, rfl, ?_, ?_⟩
    · exact (HV.out.below HB.out).other HG2.out (by decide) (by decide) (store4_other _ _ _ _ _ _)
    · exact below_store4 HB.out _ (by omega) _ _ _ _

set_option maxRecDepth 100000 in
set_option maxHeartbeats 1000000 in
theorem write_may (v : Value) (d : DK) (at_ : Int) (data : ByteArray) (w : World) (hv : IsDisk w v d) (hd : d.ok) (h1 : 0 ≤ at_) (h2 : at_ < d.sure.length) (h3 : data.size ≤ 256) :
    Calls Tryz.prog 63 #[v, .int .i64 at_, .string data] w fun e w' => ∃ v', e = .returned (.tuple #[v', .int .i64 (if deedB d = true then 0 else 12)]) ∧ IsDisk w' v' (writeD d at_ data) ∧ Below w.heap.size w w' := by
  obtain ⟨A, n, c, A', m, c', rfl, hn, hm, -⟩ := hv.open_
  have hwt : (deedD d).wet = d.wet := by unfold deedD; split <;> (try split) <;> rfl
  unfold writeD
  obtain ⟨P, hP⟩ : ∃ P, P = padB data := ⟨_, rfl⟩
  have hpad : ∀ W : World, Calls Tryz.prog 62 #[.string data] W fun e w' => e = .returned (.string P) ∧ Below W.heap.size W w' := fun W => by rw [hP]; exact padded_calls data W h3
  rw [← hP]
  have HPad := Lib.hid hpad
  clear hpad hP
  have hdo := deedD_ok hd
  obtain ⟨d1, hd1⟩ : ∃ d1, d1 = deedD d := ⟨_, rfl⟩
  obtain ⟨b1, hb1⟩ : ∃ b1, b1 = deedB d := ⟨_, rfl⟩
  have hde : ∀ W : World, Below w.heap.size w W → Calls Tryz.prog 94 #[.agg #[.slice A n c, .slice A' m c', .bool d.dead, .int .i64 d.left]] W fun e w' => ∃ v', e = .returned (.tuple #[v', .bool b1]) ∧ IsDisk w' v' d1 ∧ Below W.heap.size W w' := fun W hb => by
    rw [hd1, hb1]; exact deed_calls _ d W (hv.below hb) hd.hi
  rw [← hd1] at hwt hdo ⊢
  rw [← hb1, ← hwt]
  have hh : (decide (0 ≤ at_) && decide (at_ < (n : Int))) = true := by rw [hn]; simp [h1, h2]
  clear hd1 hb1 hwt hv hd hn hm h1 h2
  obtain ⟨sure, wet, dead, left⟩ := d
  dsimp only at hde ⊢
  have HDE := Lib.hid hde
  have HDO := Lib.hid hdo
  have HH := Lib.hid hh
  have hds : decide ((256 : Int) < data.size) = false := by simp; omega
  clear hde hdo hh
  go_enter Tryz.func63, Tryz.ntmps63
  go_wp2_with (go_at_call 78; refine (has_any A n c A' m c' dead left at_ _).mono ?_; rintro e w1 ⟨rfl, hb1⟩; rw [HH.out]; obtain ⟨hg1, hg2, hbw⟩ := two_boxes hb1; obtain ⟨⟨hp0, hp1, hp2, hp3⟩, hf0, hf1, hf2, hf3⟩ := box4 hg1; have HB := Lib.hid hbw; have HG1 := Lib.hid hg1; have HG2 := Lib.hid hg2; clear hb1 hg1 hg2 hbw)
  with_reducible refine (HDE.out _ HB.out).mono ?_
  clear HDE
  rintro e w2 ⟨v2, rfl, hv2, hb2⟩
  obtain ⟨A1, n1, c1, A1', m1, c1', rfl, -, hm1, hsl⟩ := hv2.open_
  obtain ⟨sure1, wet1, dead1, left1⟩ := d1
  dsimp only at hv2 hm1 hsl ⊢
  have hg1 := box_kept w.heap.size HG1.out hb2
  have hg2 := box_kept (w.heap.size + 1) HG2.out hb2
  have hbw := below_trans' HB.out hb2
  obtain ⟨w3, e3, hG3, hK3, hB3⟩ := box_store4 hg1 (.slice A1 n1 c1) (.slice A1' m1 c1') (.bool dead1) (.int .i64 left1)
  have HV3 := Lib.hid (hv2.other hg1 (by decide) (by decide) hK3)
  have HSL := Lib.hid (hsl.other hg1 (by decide) hK3)
  have HB3 := Lib.hid (hB3 _ _ hbw (Nat.le_refl _))
  have hr3 : w3.heap[w.heap.size + 1]? = _ := (hK3 _ (by omega)).trans hg2
  have HG3 := Lib.hid hG3
  have HR3 := Lib.hid hr3
  have E3 := Lib.hid e3
  have HM1 := Lib.hid hm1
  clear hp0 hp1 hp2 hp3 hf0 hf1 hf2 hf3
  obtain ⟨⟨hp0, hp1, hp2, hp3⟩, hf0, hf1, hf2, hf3⟩ := box4 hg1
  clear hb2 hv2 hg1 hg2 hbw e3 hG3 hK3 hB3 hr3 hsl HB HG1 HG2 hm1
  go_upto_region 4 with (fail)
  rw [E3.out]
  clear hp0 hp1 hp2 hp3 hf0 hf1 hf2 hf3 E3
  obtain ⟨⟨hp0, hp1, hp2, hp3⟩, hf0, hf1, hf2, hf3⟩ := box4 HG3.out
  cases b1 with
  | false =>
    obtain ⟨⟨hq0, hq1, hq2, hq3⟩, hr0, hr1, hr2, hr3⟩ := box4 HR3.out
    go_wp2_with fail
    refine bodyPost_ret (v := .tuple #[.agg #[.slice A1 n1 c1, .slice A1' m1 c1', .bool dead1, .int .i64 left1], .int .i64 12]) (by simp [results, Tryz.results63, go_sem, hq0, hq1, hq2, hq3]) rfl ⟨_, rfl, ?_, ?_⟩
    · exact HV3.out.other HR3.out (by decide) (by decide) (store4_other _ _ _ _ _ _)
    · exact below_store4 HB3.out _ (by omega) _ _ _ _
  | true =>
    have hwith : ∀ W : World, Below w3.heap.size w3 W → Calls Tryz.prog 95 #[.slice A1' m1 c1', .agg #[.int .i64 at_, .string P]] W fun e w' => ∃ A5 n5 c5, e = .returned (.slice A5 n5 c5) ∧ SL w' 72 2 (.slice A5 n5 c5) (withF (at_, P) wet1).length (wetCells (withF (at_, P) wet1)) ∧ Below W.heap.size W w' := fun W hb => by
      refine (with_calls (.slice A1' m1 c1') wet1 (at_, P) W ?_ ?_).mono ?_
      · rw [← HM1.out]; exact HSL.out.below hb
      · have := HDO.out.wet; dsimp only at this; omega
      · rintro e w' ⟨v', rfl, hs, hb'⟩
        obtain ⟨A5, c5, e5, _⟩ := id hs
        subst e5
        exact ⟨_, _, _, rfl, hs, hb'⟩
    have HWith := Lib.hid hwith
    have hz : w.heap.size < w3.heap.size := (Array.getElem?_eq_some_iff.1 HG3.out).1
    clear hwith
    go_wp2_with fail
    go_region_with (first | (go_at_call 62; refine (HPad.out _).mono ?_; rintro e w4 ⟨rfl, hb4⟩; have hb4' := below_of_drew hb4; clear hb4; have hp4 := (hb4'.cell (p := ⟨w.heap.size, 1, none⟩) hz).trans hp1) | (go_at_call 95; refine (HWith.out _ hb4').mono ?_; rintro e w5 ⟨A5, n5, c5, rfl, hs5, hb5⟩; obtain ⟨⟨s0, s1, s2, s3⟩, g0, g1, g2, g3⟩ := box4 (box_kept _ (box_kept _ HG3.out hb4') hb5)))
    all_goals
      have hbw5 := below_trans' HB3.out (below_trans' hb4' hb5)
      have hgB := box_kept _ (box_kept _ HG3.out hb4') hb5
      have hgR := box_kept _ (box_kept _ HR3.out hb4') hb5
      have hv5 := (HV3.out.below hb4').below hb5
      obtain ⟨⟨hq0, hq1, hq2, hq3⟩, hr0, hr1, hr2, hr3⟩ := box4 hgR
      have HS5 := Lib.hid hs5
      have HV5 := Lib.hid hv5
      have HGB := Lib.hid hgB
      have HGR := Lib.hid hgR
      have HB5 := Lib.hid hbw5
      clear hs5 hb5 hb4' hp4 hbw5 hgB hgR hv5 hp0 hp1 hp2 hp3 hf0 hf1 hf2 hf3
      go_wp2_with fail
      refine bodyPost_ret (v := .tuple #[.agg #[.slice A1 n1 c1, .slice A5 n5 c5, .bool dead1, .int .i64 left1], .int .i64 0]) (by simp [results, Tryz.results63, go_sem, hq0, hq1, hq2, hq3]) rfl ⟨_, rfl, ?_, ?_⟩
      · have h5 := HV5.out.rewet HS5.out
        have h6 := h5.other (w' := w5.setCell ⟨w.heap.size, 1, none⟩ (.slice A5 n5 c5)) HGB.out (by decide) (by decide) (fun b hb => Below.heap_setCell _ _ _ _ hb)
        exact h6.other (by rw [Below.heap_setCell _ _ _ _ (by simp)]; exact HGR.out) (by decide) (by decide) (store4_other _ _ _ _ _ _)
      · exact below_store4 (HB5.out.setCell (p := ⟨w.heap.size, 1, none⟩) (Nat.le_refl _) _) _ (by omega) _ _ _ _
end Go.Proofs.YtnbbijpmkhdgpaaGreat.Dsk
