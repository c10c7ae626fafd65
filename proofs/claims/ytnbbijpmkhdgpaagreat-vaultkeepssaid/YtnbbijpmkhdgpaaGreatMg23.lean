/- Contracts and plain mathematics that the statement's proof wants: no statement is proved here, nothing is assumed. -/
import Derived.Test.YtnbbijpmkhdgpaaGreatMg22
/- VRWrite -/
namespace Go.Proofs.YtnbbijpmkhdgpaaGreat.Vlt
open Go.RowKit Go.Sort
open Dsk

theorem tw_takeL {p : Lf} : ∀ (l : List Lf) (i : Nat), (∀ q x, q < i → l[q]? = some x → x.no < p.no) → (∀ x, l[i]? = some x → ¬ x.no < p.no) → i ≤ l.length →
    l.takeWhile (fun o => decide (o.no < p.no)) = l.take i ∧ l.dropWhile (fun o => decide (o.no < p.no)) = l.drop i
  | [], i, _, _, hi => by simp
  | y :: l, i, h1, h2, hi => by
    cases i with
    | zero =>
      have := h2 y rfl
      rw [List.takeWhile_cons_of_neg (by simpa using this), List.dropWhile_cons_of_neg (by simpa using this)]
      exact ⟨rfl, rfl⟩
    | succ i =>
      have h0 := h1 0 y (by omega) rfl
      obtain ⟨a, b⟩ := tw_takeL l i (fun q x hq hx => h1 (q + 1) x (by omega) (by simpa using hx)) (fun x hx => h2 x (by simpa using hx)) (by simpa using hi)
      rw [List.takeWhile_cons_of_pos (by simpa using h0), List.dropWhile_cons_of_pos (by simpa using h0), a, b]
      exact ⟨rfl, rfl⟩
theorem acc_nextL {l : List Lf} {i j : Nat} {o p : Lf} (h : i ≤ j) (ho : l[j]? = some o) :
    ((l.drop i).take (j + 1 - i)).filter (fun o => decide (o.no ≠ p.no)) = ((l.drop i).take (j - i)).filter (fun o => decide (o.no ≠ p.no)) ++ (if o.no = p.no then [] else [o]) := by
  have e : (l.drop i).take (j + 1 - i) = (l.drop i).take (j - i) ++ [o] := by
    rw [show j + 1 - i = j - i + 1 by omega, List.take_add_one, List.getElem?_drop, show i + (j - i) = j by omega, ho]
    rfl
  rw [e, List.filter_append]
  by_cases hn : o.no = p.no
  · simp [hn]
  · simp [hn]

/-- The world behind the store of a whole vault, under a name of its own. -/
theorem box_store8 {w : World} {g : Nat} {a0 a1 a2 a3 a4 a5 a6 a7 : Value} (h : w.heap[g]? = some (.cells #[a0, a1, a2, a3, a4, a5, a6, a7] 33 (0, 0))) (b0 b1 b2 b3 b4 b5 b6 b7 : Value) :
    ∃ X, (((((((w.setCell ⟨g, 0, none⟩ b0).setCell ⟨g, 1, none⟩ b1).setCell ⟨g, 2, none⟩ b2).setCell ⟨g, 3, none⟩ b3).setCell ⟨g, 4, none⟩ b4).setCell ⟨g, 5, none⟩ b5).setCell ⟨g, 6, none⟩ b6).setCell ⟨g, 7, none⟩ b7 = X ∧
      X.heap[g]? = some (.cells #[b0, b1, b2, b3, b4, b5, b6, b7] 33 (0, 0)) ∧ (∀ k : Nat, k ≠ g → X.heap[k]? = w.heap[k]?) ∧ (∀ (B : Nat) (a : World), Below B a w → B ≤ g → Below B a X) := by
  refine ⟨_, rfl, ?_, fun k hk => ?_, fun B a hb hg => ?_⟩
  · have h0 : (w.setCell ⟨g, 0, none⟩ b0).heap[g]? = some (.cells #[b0, a1, a2, a3, a4, a5, a6, a7] 33 (0, 0)) := heap_setCell_same w g 0 _ 33 _ h
    have h1 : ((w.setCell ⟨g, 0, none⟩ b0).setCell ⟨g, 1, none⟩ b1).heap[g]? = some (.cells #[b0, b1, a2, a3, a4, a5, a6, a7] 33 (0, 0)) := heap_setCell_same (w.setCell ⟨g, 0, none⟩ b0) g 1 _ 33 _ h0
    have h2 : (((w.setCell ⟨g, 0, none⟩ b0).setCell ⟨g, 1, none⟩ b1).setCell ⟨g, 2, none⟩ b2).heap[g]? = some (.cells #[b0, b1, b2, a3, a4, a5, a6, a7] 33 (0, 0)) := heap_setCell_same ((w.setCell ⟨g, 0, none⟩ b0).setCell ⟨g, 1, none⟩ b1) g 2 _ 33 _ h1
    have h3 : ((((w.setCell ⟨g, 0, none⟩ b0).setCell ⟨g, 1, none⟩ b1).setCell ⟨g, 2, none⟩ b2).setCell ⟨g, 3, none⟩ b3).heap[g]? = some (.cells #[b0, b1, b2, b3, a4, a5, a6, a7] 33 (0, 0)) := heap_setCell_same (((w.setCell ⟨g, 0, none⟩ b0).setCell ⟨g, 1, none⟩ b1).setCell ⟨g, 2, none⟩ b2) g 3 _ 33 _ h2
    have h4 : (((((w.setCell ⟨g, 0, none⟩ b0).setCell ⟨g, 1, none⟩ b1).setCell ⟨g, 2, none⟩ b2).setCell ⟨g, 3, none⟩ b3).setCell ⟨g, 4, none⟩ b4).heap[g]? = some (.cells #[b0, b1, b2, b3, b4, a5, a6, a7] 33 (0, 0)) := heap_setCell_same ((((w.setCell ⟨g, 0, none⟩ b0).setCell ⟨g, 1, none⟩ b1).setCell ⟨g, 2, none⟩ b2).setCell ⟨g, 3, none⟩ b3) g 4 _ 33 _ h3
    have h5 : ((((((w.setCell ⟨g, 0, none⟩ b0).setCell ⟨g, 1, none⟩ b1).setCell ⟨g, 2, none⟩ b2).setCell ⟨g, 3, none⟩ b3).setCell ⟨g, 4, none⟩ b4).setCell ⟨g, 5, none⟩ b5).heap[g]? = some (.cells #[b0, b1, b2, b3, b4, b5, a6, a7] 33 (0, 0)) := heap_setCell_same (((((w.setCell ⟨g, 0, none⟩ b0).setCell ⟨g, 1, none⟩ b1).setCell ⟨g, 2, none⟩ b2).setCell ⟨g, 3, none⟩ b3).setCell ⟨g, 4, none⟩ b4) g 5 _ 33 _ h4
    have h6 : (((((((w.setCell ⟨g, 0, none⟩ b0).setCell ⟨g, 1, none⟩ b1).setCell ⟨g, 2, none⟩ b2).setCell ⟨g, 3, none⟩ b3).setCell ⟨g, 4, none⟩ b4).setCell ⟨g, 5, none⟩ b5).setCell ⟨g, 6, none⟩ b6).heap[g]? = some (.cells #[b0, b1, b2, b3, b4, b5, b6, a7] 33 (0, 0)) := heap_setCell_same ((((((w.setCell ⟨g, 0, none⟩ b0).setCell ⟨g, 1, none⟩ b1).setCell ⟨g, 2, none⟩ b2).setCell ⟨g, 3, none⟩ b3).setCell ⟨g, 4, none⟩ b4).setCell ⟨g, 5, none⟩ b5) g 6 _ 33 _ h5
    have h7 : ((((((((w.setCell ⟨g, 0, none⟩ b0).setCell ⟨g, 1, none⟩ b1).setCell ⟨g, 2, none⟩ b2).setCell ⟨g, 3, none⟩ b3).setCell ⟨g, 4, none⟩ b4).setCell ⟨g, 5, none⟩ b5).setCell ⟨g, 6, none⟩ b6).setCell ⟨g, 7, none⟩ b7).heap[g]? = some (.cells #[b0, b1, b2, b3, b4, b5, b6, b7] 33 (0, 0)) := heap_setCell_same (((((((w.setCell ⟨g, 0, none⟩ b0).setCell ⟨g, 1, none⟩ b1).setCell ⟨g, 2, none⟩ b2).setCell ⟨g, 3, none⟩ b3).setCell ⟨g, 4, none⟩ b4).setCell ⟨g, 5, none⟩ b5).setCell ⟨g, 6, none⟩ b6) g 7 _ 33 _ h6
    exact h7
  · rw [Below.heap_setCell _ _ _ _ hk, Below.heap_setCell _ _ _ _ hk, Below.heap_setCell _ _ _ _ hk, Below.heap_setCell _ _ _ _ hk, Below.heap_setCell _ _ _ _ hk, Below.heap_setCell _ _ _ _ hk, Below.heap_setCell _ _ _ _ hk, Below.heap_setCell _ _ _ _ hk]
  · exact (((((((hb.setCell (p := ⟨g, 0, none⟩) hg _).setCell (p := ⟨g, 1, none⟩) hg _).setCell (p := ⟨g, 2, none⟩) hg _).setCell (p := ⟨g, 3, none⟩) hg _).setCell (p := ⟨g, 4, none⟩) hg _).setCell (p := ⟨g, 5, none⟩) hg _).setCell (p := ⟨g, 6, none⟩) hg _).setCell (p := ⟨g, 7, none⟩) hg _
theorem box8 {W : World} {g : Nat} {v0 v1 v2 v3 v4 v5 v6 v7 : Value} {t : TypeId} (h : W.heap[g]? = some (.cells #[v0, v1, v2, v3, v4, v5, v6, v7] t (0, 0))) :
    (W.cell? ⟨g, 0, none⟩ = some v0 ∧ W.cell? ⟨g, 1, none⟩ = some v1 ∧ W.cell? ⟨g, 2, none⟩ = some v2 ∧ W.cell? ⟨g, 3, none⟩ = some v3 ∧ W.cell? ⟨g, 4, none⟩ = some v4 ∧ W.cell? ⟨g, 5, none⟩ = some v5 ∧ W.cell? ⟨g, 6, none⟩ = some v6 ∧ W.cell? ⟨g, 7, none⟩ = some v7) ∧
    ∀ i : Nat, W.frozen? ⟨g, i, none⟩ = false := by
  refine ⟨⟨?_, ?_, ?_, ?_, ?_, ?_, ?_, ?_⟩, fun i => ?_⟩ <;> simp [World.cell?, World.frozen?, h]

theorem IsVault.other {w w' : World} {v : Value} {k : VK} (h : IsVault w v k) {g : Nat} {cur : Array Value} {fr : Nat × Nat} (hg : w.heap[g]? = some (.cells cur 33 fr)) (hk : ∀ b : Nat, b ≠ g → w'.heap[b]? = w.heap[b]?) : IsVault w' v k := by
  obtain ⟨vs, vw, vd, e, h1, h2⟩ := h
  exact ⟨vs, vw, vd, e, h1.other hg (by decide) (by decide) hk, SL.other h2 hg (by decide) hk⟩

/-- The boxes of Write: the vault's, the answer's. -/
structure WB (w W : World) (v0 v1 v7 : Value) (k : VK) : Prop where
  a : VBox W w.heap.size v0 v1 v7 k
  z : W.heap[w.heap.size + 1]? = some (.cells #[.slice none 0 0, .slice none 0 0, .bool false, .int .i64 0, .int .i64 0, .int .i64 0, .int .i64 0, .slice none 0 0] 33 (0, 0))
  below : Below w.heap.size w W
theorem WB.more {w W W' : World} {v0 v1 v7 : Value} {k : VK} (h : WB w W v0 v1 v7 k) (hb : Below W.heap.size W W') : WB w W' v0 v1 v7 k := ⟨h.a.below hb, box_kept _ h.z hb, Dsk.below_trans' h.below hb⟩
theorem WB.new (w : World) (v0 v1 v7 : Value) (k : VK) : ∃ Y, Y = (w.alloc (.cells #[v0, v1, .bool k.disk.dead, .int .i64 k.disk.left, .int .i64 k.shape.pages, .int .i64 k.shape.journal, .int .i64 k.seq, v7] 33)).alloc (.cells #[.slice none 0 0, .slice none 0 0, .bool false, .int .i64 0, .int .i64 0, .int .i64 0, .int .i64 0, .slice none 0 0] 33) ∧ WB w Y v0 v1 v7 k := by
  refine ⟨_, rfl, (VBox.new w v0 v1 v7 k).below (below_one _ _), ?_, Dsk.below_trans' (below_one _ _) (below_one _ _)⟩
  have := heap_alloc_new (w.alloc (.cells #[v0, v1, .bool k.disk.dead, .int .i64 k.disk.left, .int .i64 k.shape.pages, .int .i64 k.shape.journal, .int .i64 k.seq, v7] 33)) (.cells #[.slice none 0 0, .slice none 0 0, .bool false, .int .i64 0, .int .i64 0, .int .i64 0, .int .i64 0, .slice none 0 0] 33)
  simpa using this

set_option maxRecDepth 100000 in
set_option maxHeartbeats 8000000 in
/-- Refused. -/
theorem rwrite_no (v : Value) (k : VK) (no : Int) (data : List UInt8) (w : World) (hv : IsVault w v k) (E : Int) (hE : (¬ (hasP k no ∧ data.length ≤ 208) ∧ E = 1) ∨ ((hasP k no ∧ data.length ≤ 208) ∧ k.disk.dead = true ∧ E = 12)) :
    Calls Tryz.prog 38 #[v, .int .i64 no, .string (strB data)] w fun e w' => ∃ v', e = .returned (.tuple #[v', .int .i64 E]) ∧ IsVault w' v' k ∧ Below w.heap.size w w' := by
  obtain ⟨vs, vw, vd, rfl, h1, h2⟩ := id hv
  obtain ⟨A1, n1, c1, A2, n2, c2, e1⟩ := h1.parts
  obtain ⟨rfl, rfl⟩ : vs = .slice A1 n1 c1 ∧ vw = .slice A2 n2 c2 := by
    simp only [Value.agg.injEq, Array.mk.injEq, List.cons.injEq] at e1
    exact ⟨e1.1, e1.2.1⟩
  obtain ⟨A, n, c, rfl, hn, _, hr⟩ := h2.open_
  have HB : Hid (∀ o1 o2, Below w.heap.size w ((w.alloc o1).alloc o2)) := Lib.hid (fun o1 o2 => Dsk.below_trans' (below_one w o1) (below_one _ o2))
  have HF : Hid (∀ o1 o2, IsVault ((w.alloc o1).alloc o2) (.agg #[.slice A1 n1 c1, .slice A2 n2 c2, .bool k.disk.dead, .int .i64 k.disk.left, .int .i64 k.shape.pages, .int .i64 k.shape.journal, .int .i64 k.seq, .slice A n c]) k) := Lib.hid (fun o1 o2 => hv.below (HB.out o1 o2))
  have hsz := strB_size data
  clear h1 h2 hn hr hv e1
  rcases hE with ⟨hE, rfl⟩ | ⟨hE, hd, rfl⟩
  · by_cases hlo : no < 0
    · clear hE
      go_enter Tryz.func38, Tryz.ntmps38
      go_wp2_with fail
      exact bodyPost_ret (v := .tuple #[.agg #[.slice A1 n1 c1, .slice A2 n2 c2, .bool k.disk.dead, .int .i64 k.disk.left, .int .i64 k.shape.pages, .int .i64 k.shape.journal, .int .i64 k.seq, .slice A n c], .int .i64 1]) (by simp [results, Tryz.results38, go_sem]) rfl ⟨_, rfl, HF.out _ _, HB.out _ _⟩
    · have hlo' : 0 ≤ no := by omega
      by_cases hhi : k.shape.pages ≤ no
      · clear hE
        go_enter Tryz.func38, Tryz.ntmps38
        go_wp2_with fail
        exact bodyPost_ret (v := .tuple #[.agg #[.slice A1 n1 c1, .slice A2 n2 c2, .bool k.disk.dead, .int .i64 k.disk.left, .int .i64 k.shape.pages, .int .i64 k.shape.journal, .int .i64 k.seq, .slice A n c], .int .i64 1]) (by simp [results, Tryz.results38, go_sem]) rfl ⟨_, rfl, HF.out _ _, HB.out _ _⟩
      · have hl : 208 < data.length := by
          apply Classical.byContradiction
          intro h
          exact hE ⟨⟨hlo', by omega⟩, by omega⟩
        have hl2 : (208 : Int) < ((strB data).size : Int) := by omega
        have hl3 : 208 < (strB data).size := by omega
        have hhi' : no < k.shape.pages := by omega
        clear hE
        go_enter Tryz.func38, Tryz.ntmps38
        go_wp2_with fail
        exact bodyPost_ret (v := .tuple #[.agg #[.slice A1 n1 c1, .slice A2 n2 c2, .bool k.disk.dead, .int .i64 k.disk.left, .int .i64 k.shape.pages, .int .i64 k.shape.journal, .int .i64 k.seq, .slice A n c], .int .i64 1]) (by simp [results, Tryz.results38, go_sem]) rfl ⟨_, rfl, HF.out _ _, HB.out _ _⟩
  · obtain ⟨⟨h1, h2⟩, h3⟩ := hE
    have hl2 : ¬ (208 : Int) < ((strB data).size : Int) := by omega
    have hl3 : ¬ 208 < (strB data).size := by omega
    rw [hd] at HF ⊢
    go_enter Tryz.func38, Tryz.ntmps38
    go_wp2_with fail
    exact bodyPost_ret (v := .tuple #[.agg #[.slice A1 n1 c1, .slice A2 n2 c2, .bool true, .int .i64 k.disk.left, .int .i64 k.shape.pages, .int .i64 k.shape.journal, .int .i64 k.seq, .slice A n c], .int .i64 12]) (by simp [results, Tryz.results38, go_sem]) rfl ⟨_, rfl, HF.out _ _, HB.out _ _⟩


set_option maxRecDepth 100000 in
set_option maxHeartbeats 16000000 in
/-- Written. -/
theorem rwrite_ok (v : Value) (k : VK) (no : Int) (data : List UInt8) (w : World) (hv : IsVault w v k) (hg : VGood k) (hR : RiseL k.dirty) (hE : hasP k no ∧ data.length ≤ 208) (hd : k.disk.dead = false) :
    Calls Tryz.prog 38 #[v, .int .i64 no, .string (strB data)] w fun e w' => ∃ v', e = .returned (.tuple #[v', .int .i64 0]) ∧ IsVault w' v' { k with dirty := insL ⟨no, padP data⟩ k.dirty } ∧ Below w.heap.size w w' := by
  obtain ⟨vs, vw, vd, rfl, h1, h2⟩ := id hv
  obtain ⟨i1, hi0, hz0, hz1, hz2⟩ := info_parts info48
  obtain ⟨A1, n1, c1, A2, n2, c2, e1⟩ := h1.parts
  obtain ⟨rfl, rfl⟩ : vs = .slice A1 n1 c1 ∧ vw = .slice A2 n2 c2 := by
    simp only [Value.agg.injEq, Array.mk.injEq, List.cons.injEq] at e1
    exact ⟨e1.1, e1.2.1⟩
  obtain ⟨A, n, c, rfl, hn, _, hr⟩ := h2.open_
  obtain ⟨⟨hlo, hhi⟩, hlen⟩ := hE
  have hnm : n ≤ 1000 := by have := hg.dirty; omega
  obtain ⟨Y, hY, hB⟩ := WB.new w (.slice A1 n1 c1) (.slice A2 n2 c2) (.slice A n c) k
  obtain ⟨b, hb⟩ : ∃ b, b = 208 - data.length := ⟨_, rfl⟩
  obtain ⟨P, hP⟩ : ∃ P, P = padP data := ⟨_, rfl⟩
  have hsz := strB_size data
  have hm : (208 : Int) - ((strB data).size : Int) = (b : Nat) := by omega
  have hm1 : (0 : Int) ≤ 208 - ((strB data).size : Int) := by omega
  have hm2 : ((strB data).size : Int) ≤ 208 := by omega
  have hm3 : ¬ (208 : Int) < ((strB data).size : Int) := by omega
  have hm4 : ¬ 208 < (strB data).size := by omega
  have hz3 : (strB data).size + (strB (Ent.zer b)).size ≤ 5000 := by rw [strB_size, strB_size, Ent.zer_len]; omega
  have hz4 : ¬ 9223372036854775807 < (strB data).size + (strB (Ent.zer b)).size := fun h => absurd (Nat.lt_of_lt_of_le h hz3) (by decide)
  have hmk := Wire.make_zeros b (by omega)
  have hc : ∀ W : World, (convert 76 9 (.slice (some ⟨W.heap.size, 0, none⟩) b b)).run Tryz.prog (W.alloc (.cells (madeCells #[.int .u8 0] b) 5)) = .ok (.string (strB (Ent.zer b))) (W.alloc (.cells (madeCells #[.int .u8 0] b) 5)) := Wire.conv_zeros b
  have hf := Lib.hid (show strB data ++ strB (Ent.zer b) = strB P by rw [hP]; unfold padP; rw [strB_append, hb])
  have HP := Lib.hid hP
  have HY := Lib.hid hY
  have HWB := Lib.hid hB
  have HN := Lib.hid hn
  have HR := Lib.hid hr
  have HV := Lib.hid hv
  have HRI := Lib.hid hR
  have HI := Lib.hid (h1)
  have hhi' : ¬ k.shape.pages ≤ no := by omega
  have hlo' : ¬ no < 0 := by omega
  obtain ⟨Y2, hY2⟩ : ∃ Y2, Y2 = (Y.alloc (.cells (madeCells #[.int .u8 0] b) 5)).alloc (.cells #[.int .i64 no, .string (strB P)] 52) := ⟨_, rfl⟩
  have hB2 : Below Y.heap.size Y Y2 := by rw [hY2]; exact Dsk.below_trans' (below_one _ _) (below_one _ _)
  have hs2 : Y2.heap.size = Y.heap.size + 2 := by rw [hY2]; simp
  have hs1 : Y.heap.size = w.heap.size + 2 := by rw [hY]; simp
  have hleaf : Y2.heap[Y.heap.size + 1]? = some (.cells #[.int .i64 no, .string (strB P)] 52 (0, 0)) := by
    have := heap_alloc_new (Y.alloc (.cells (madeCells #[.int .u8 0] b) 5)) (.cells #[.int .i64 no, .string (strB P)] 52)
    rw [← hY2, show (Y.alloc (.cells (madeCells #[.int .u8 0] b) 5)).heap.size = Y.heap.size + 1 by simp] at this
    exact this
  have HY2 := Lib.hid hY2
  have HW2 := Lib.hid (hB.more hB2)
  have HLF := Lib.hid hleaf
  have HS2 := Lib.hid (show Y2.heap.size = w.heap.size + 4 by omega)
  rw [hd] at hv ⊢
  rw [hd] at HY
  clear hY hB hn hr hR h1 h2 hg hb hP hY2 hB2 hs2 hs1 hleaf e1 hz3 hlen hhi hv hsz
  go_enter Tryz.func38, Tryz.ntmps38
  go_upto_region 5 with (fail)
  rw [← HY.out]
  go_wp2_with fail
  rw [hf.out, ← HY2.out]
  clear HY2 hmk hc hf hm hm1 hm2 hm3 hm4 hz4
  obtain ⟨B, hB⟩ : ∃ B, B = Y2.heap.size := ⟨_, rfl⟩
  have HBB := Lib.hid hB
  clear hB
  go_loopw [9, 10] (fun s9 s10 wr => ∃ (i : Nat) (Z : Option Addr) (z : Nat), i ≤ n ∧ s10 = .int .i64 i ∧ s9 = .slice Z (k.dirty.take i).length z ∧ OwnL B wr (.slice Z (k.dirty.take i).length z) (k.dirty.take i) ∧ (∀ q x, q < i → k.dirty[q]? = some x → x.no < no) ∧ Below Y2.heap.size Y2 wr) (fun _ s10 _ => n - (intOf s10).toNat)
  case atStart => exact ⟨0, none, 0, Nat.zero_le _, rfl, rfl, OwnL.nil _ _, fun q x hq => absurd hq (by omega), Below.refl _ _⟩
  case round =>
    obtain ⟨i, Z, z, hi, rfl, rfl, how, hno, hbr⟩ := hrel
    have HOW := Lib.hid how
    have HNO := Lib.hid hno
    have HBR := Lib.hid hbr
    have htl : (k.dirty.take i).length ≤ 1000 := by rw [List.length_take]; omega
    have hBwr : B ≤ wr.heap.size := by rw [HBB.out]; exact hbr.size
    clear how hno hbr
    obtain ⟨i0, i1', i2, i3, i4, i5, i6, i7⟩ := (HW2.out.more HBR.out).a.at_
    rw [hd] at i2
    by_cases hgo : ∃ o, k.dirty[i]? = some o ∧ o.no < no
    · obtain ⟨o, ho, hlt⟩ := hgo
      have hin : i < n := by have := (List.getElem?_eq_some_iff.1 ho).1; have := HN.out; omega
      obtain ⟨bb, off, rfl, x0, x1⟩ := lf_at HR.out (Dsk.below_trans' HW2.out.below HBR.out) ho (by omega)
      have hi1 : (0 : Int) ≤ (i : Int) := by omega
      have hi2 : (i : Int) < (n : Int) := by omega
      have htk : k.dirty.take (i + 1) = k.dirty.take i ++ [o] := by rw [List.take_add_one, ho]; rfl
      have HTK := Lib.hid htk
      have HO := Lib.hid ho
      have HLT := Lib.hid hlt
      clear htk ho
      go_wp2_with (at_builtin; refine wpList_append_own_at _ (by rfl) (.tmp 58) (.tmp 64) 31 (by rfl) B 52 i1 _ 2 24 Tryz.underlying31 hi0 hz0 hz1 hz2 (by rfl) (by omega) _ (k.dirty.take i).length (lfCells (k.dirty.take i)) (by rfl) (by exact World.ownsRow.alloc HOW.out _) ⟨wr.heap.size, 0, none⟩ 1 1 [.int .i64 o.no, .string (strB o.data)] (by rfl) (by rfl) (by exact newsL o rfl) (oneL o) (Nat.le_trans (show (k.dirty.take i).length + 1 ≤ 1000000 by omega) (by decide)) (by omega) (by simp; omega) ?_; intro v' w' hown' hgrow' hnil' hat')
      obtain ⟨Z', z', hZ⟩ := (ownL_snoc (l := k.dirty.take i) (x := o) hown').form
      have HO5 : Hid (OwnL B w' v' (k.dirty.take (i + 1))) := Lib.hid (by rw [HTK.out]; exact ownL_snoc (l := k.dirty.take i) (x := o) hown')
      have HB5 : Hid (Below Y2.heap.size Y2 w') := Lib.hid (below_grown (Dsk.below_trans' HBR.out (below_one _ _)) hgrow' (fun i hi => by have := HOW.out.ge i hi; rw [HBB.out] at this; exact this) (by have := HBR.out.size; simp; omega))
      rw [← HTK.out] at hZ
      clear hown' hgrow' hnil' hat'
      subst hZ
      go_wp2_with fail
      refine ⟨⟨i + 1, Z', z', by omega, by go_num, rfl, HO5.out, fun q x hq hx => ?_, HB5.out⟩, by simp [intOf]; omega⟩
      by_cases e : q = i
      · subst e
        rw [HO.out] at hx
        injection hx with hx
        subst hx
        exact HLT.out
      · exact HNO.out q x (by omega) hx
    · have hstop : ∀ x, k.dirty[i]? = some x → ¬ x.no < no := fun x hx hl => hgo ⟨x, hx, hl⟩
      have htw := tw_takeL (p := ⟨no, P⟩) k.dirty i HNO.out hstop (by have := HN.out; omega)
      have HTW := Lib.hid htw
      obtain ⟨T, hT⟩ : ∃ T, T = k.dirty.take i := ⟨_, rfl⟩
      have HTi : Hid (T.length = i) := Lib.hid (by rw [hT, List.length_take]; have := HN.out; omega)
      have HT := Lib.hid hT
      have hTl : T.length ≤ 1000 := by rw [hT]; exact htl
      have HST := Lib.hid hstop
      rw [← hT] at HOW ⊢
      have hlf := box_kept _ HLF.out HBR.out
      have y0 : wr.cell? ⟨Y.heap.size + 1, 0, none⟩ = some (.int .i64 no) := by rw [cell_of_row wr _ _ _ _ _ hlf]; rfl
      have y1 : wr.cell? ⟨Y.heap.size + 1, 1, none⟩ = some (.string (strB P)) := by rw [cell_of_row wr _ _ _ _ _ hlf]; rfl
      clear htw hT htl hstop hgo hlf
      by_cases hin : i < n
      all_goals
        first
          | (obtain ⟨o, ho⟩ : ∃ o, k.dirty[i]? = some o := ⟨_, List.getElem?_eq_getElem (by have := HN.out; omega)⟩
             obtain ⟨bb, off, rfl, x0, x1⟩ := lf_at HR.out (Dsk.below_trans' HW2.out.below HBR.out) ho (by omega)
             have hi1 : (0 : Int) ≤ (i : Int) := by omega
             have hi2 : (i : Int) < (n : Int) := by omega
             have hge : ¬ o.no < no := HST.out o ho
             clear ho
             go_upto_region 11 with (fail))
          | (have hi2 : ¬ (i : Int) < (n : Int) := by omega
             go_upto_region 11 with (fail))
        go_wp2_with (at_builtin; refine wpList_append_own_at _ (by rfl) (.tmp 68) (.tmp 70) 31 (by rfl) B 52 i1 _ 2 24 Tryz.underlying31 hi0 hz0 hz1 hz2 (by rfl) (by omega) _ T.length (lfCells T) (by rfl) (by exact World.ownsRow.alloc HOW.out _) ⟨wr.heap.size, 0, none⟩ 1 1 [.int .i64 (⟨no, P⟩ : Lf).no, .string (strB (⟨no, P⟩ : Lf).data)] (by rfl) (by rfl) (by exact newsL (⟨no, P⟩ : Lf) rfl) (oneL (⟨no, P⟩ : Lf)) (Nat.le_trans (show T.length + 1 ≤ 1000000 by omega) (by decide)) (by omega) (by simp; omega) ?_; intro v' w' hown' hgrow' hnil' hat')
        obtain ⟨Z', z', hZ⟩ := (ownL_snoc (l := T) (x := ⟨no, P⟩) hown').form
        have HO5 : Hid (OwnL B w' v' (T ++ [⟨no, P⟩])) := Lib.hid (ownL_snoc (l := T) (x := ⟨no, P⟩) hown')
        have HB5 : Hid (Below Y2.heap.size Y2 w') := Lib.hid (below_grown (Dsk.below_trans' HBR.out (below_one _ _)) hgrow' (fun i hi => by have := HOW.out.ge i hi; rw [HBB.out] at this; exact this) (by have := HBR.out.size; simp; omega))
        clear hown' hgrow' hnil' hat'
        subst hZ
        go_wp2_with fail
        have HTL := Lib.hid hTl
        clear i0 i1' i2 i3 i4 i5 i6 i7 y0 y1 HOW HBR hBwr hTl
        go_loopw [9, 12] (fun s9 s12 wr => ∃ (j : Nat) (acc : List Lf) (Z2 : Option Addr) (z2 : Nat), T.length ≤ j ∧ j ≤ n ∧ s12 = .int .i64 j ∧ s9 = .slice Z2 acc.length z2 ∧ acc = T ++ [⟨no, P⟩] ++ ((k.dirty.drop i).take (j - i)).filter (fun o => decide (o.no ≠ no)) ∧ OwnL B wr (.slice Z2 acc.length z2) acc ∧ acc.length ≤ j + 1 ∧ Below Y2.heap.size Y2 wr) (fun _ s12 _ => n - (intOf s12).toNat)
        case atStart => exact ⟨T.length, T ++ [⟨no, P⟩], Z', z', Nat.le_refl _, by rw [HTi.out]; exact hi, rfl, rfl, by rw [HTi.out]; simp, HO5.out, by simp, HB5.out⟩
        case round =>
          obtain ⟨j, acc, Z2, z2, hj1, hj2, rfl, rfl, hacc, how, hal, hbr⟩ := hrel
          have HACC := Lib.hid hacc
          have HOW := Lib.hid how
          have HBR := Lib.hid hbr
          have HAL := Lib.hid hal
          have hij : i ≤ j := by have := HTi.out; omega
          have hBwr : B ≤ wr.heap.size := by rw [HBB.out]; exact hbr.size
          clear hacc how hbr hal
          have hWB := HW2.out.more HBR.out
          obtain ⟨i0, i1', i2, i3, i4, i5, i6, i7⟩ := hWB.a.at_
          rw [hd] at i2
          by_cases hjn : j < n
          · first
              | exact absurd (show i < n by have := HTi.out; omega) hin
              | (obtain ⟨o, ho⟩ : ∃ o, k.dirty[j]? = some o := ⟨_, List.getElem?_eq_getElem (by have := HN.out; omega)⟩
                 obtain ⟨b2, o2, eA, x0, x1⟩ := lf_at HR.out (Dsk.below_trans' HW2.out.below HBR.out) ho (by omega)
                 first
                   | subst eA
                   | (simp only [Option.some.injEq, Addr.mk.injEq] at eA; obtain ⟨rfl, rfl, _⟩ := eA)
                 have hi1 : (0 : Int) ≤ (j : Int) := by omega
                 have hi2 : (j : Int) < (n : Int) := by omega
                 have hnx := acc_nextL (p := ⟨no, P⟩) hij ho
                 have HNX := Lib.hid hnx
                 clear hnx ho hWB
                 by_cases ho : o.no = no
                 · have ho2 : (o.no == no) = true := by simpa using ho
                   have ho3 : (o.no != no) = false := by rw [bne, ho2]; rfl
                   have HO := Lib.hid ho
                   clear ho
                   go_wp2_with fail
                   exact ⟨⟨j + 1, acc, Z2, z2, by omega, by omega, by go_num, rfl, by have h := HNX.out; dsimp only at h; rw [h, if_pos HO.out, List.append_nil]; exact HACC.out, HOW.out, by have := HAL.out; omega, HBR.out⟩, by simp [intOf]; omega⟩
                 · have ho2 : (o.no == no) = false := by simpa using ho
                   have ho3 : (o.no != no) = true := by rw [bne, ho2]; rfl
                   have HO := Lib.hid ho
                   have hacl : acc.length ≤ 1001 := by have := HAL.out; omega
                   clear ho
                   go_wp2_with (at_builtin; refine wpList_append_own_at _ (by rfl) (.tmp 88) (.tmp 94) 31 (by rfl) B 52 i1 _ 2 24 Tryz.underlying31 hi0 hz0 hz1 hz2 (by rfl) (by omega) _ acc.length (lfCells acc) (by rfl) (by exact World.ownsRow.alloc HOW.out _) ⟨wr.heap.size, 0, none⟩ 1 1 [.int .i64 o.no, .string (strB o.data)] (by rfl) (by rfl) (by exact newsL o rfl) (oneL o) (Nat.le_trans (show acc.length + 1 ≤ 1000000 by omega) (by decide)) (by omega) (by simp; omega) ?_; intro v' w' hown' hgrow' hnil' hat')
                   obtain ⟨Z3, z3, hZ⟩ := (ownL_snoc (l := acc) (x := o) hown').form
                   have HO6 : Hid (OwnL B w' v' (acc ++ [o])) := Lib.hid (ownL_snoc (l := acc) (x := o) hown')
                   have HB6 : Hid (Below Y2.heap.size Y2 w') := Lib.hid (below_grown (Dsk.below_trans' HBR.out (below_one _ _)) hgrow' (fun i hi => by have := HOW.out.ge i hi; rw [HBB.out] at this; exact this) (by have := HBR.out.size; simp; omega))
                   clear hown' hgrow' hnil' hat'
                   subst hZ
                   go_wp2_with fail
                   have hE : acc ++ [o] = T ++ [⟨no, P⟩] ++ ((k.dirty.drop i).take (j + 1 - i)).filter (fun o => decide (o.no ≠ no)) := by have h := HNX.out; (try dsimp only at h); rw [h, if_neg HO.out, HACC.out]; simp only [List.append_assoc]
                   exact ⟨⟨j + 1, by omega, by omega, by go_num, acc ++ [o], Z3, z3, rfl, by simpa using hE, HO6.out, by have := HAL.out; simp; omega, HB6.out⟩, by simp [intOf]; omega⟩)
          · have hi2 : ¬ (j : Int) < (n : Int) := by omega
            have hjj : j = n := by omega
            have hfin : acc = insL ⟨no, P⟩ k.dirty := by
              have h := HACC.out
              rw [hjj, List.take_of_length_le (by rw [List.length_drop]; have := HN.out; omega)] at h
              unfold insL
              rw [HTW.out.1, HTW.out.2, ← HT.out, h]
              simp
            have HFI := Lib.hid hfin
            have kf := hWB.a.free
            obtain ⟨X1, hX1⟩ : ∃ X1, X1 = wr.setCell ⟨w.heap.size, 7, none⟩ (.slice Z2 acc.length z2) := ⟨_, rfl⟩
            have ha1 : X1.heap[w.heap.size]? = some (.cells #[.slice A1 n1 c1, .slice A2 n2 c2, .bool k.disk.dead, .int .i64 k.disk.left, .int .i64 k.shape.pages, .int .i64 k.shape.journal, .int .i64 k.seq, .slice Z2 acc.length z2] 33 (0, 0)) := by rw [hX1]; exact heap_setCell_same wr w.heap.size 7 _ 33 _ hWB.a
            have hk1 : ∀ q : Nat, q ≠ w.heap.size → X1.heap[q]? = wr.heap[q]? := fun q hq => by rw [hX1]; exact Below.heap_setCell _ _ _ _ hq
            have hz1' := (hk1 (w.heap.size + 1) (by omega)).trans hWB.z
            have hb1 : Below w.heap.size w X1 := by rw [hX1]; exact hWB.below.setCell (p := ⟨w.heap.size, 7, none⟩) (Nat.le_refl _) _
            obtain ⟨X2, hX2, hbX, hkX, hBX⟩ := box_store8 hz1' (.slice A1 n1 c1) (.slice A2 n2 c2) (.bool k.disk.dead) (.int .i64 k.disk.left) (.int .i64 k.shape.pages) (.int .i64 k.shape.journal) (.int .i64 k.seq) (.slice Z2 acc.length z2)
            have HX1 := Lib.hid hX1
            have HX2 := Lib.hid hX2
            have hvd := (HI.out.below hWB.below).other hWB.a (by decide) (by decide) hk1
            have hvd2 := hvd.other hz1' (by decide) (by decide) hkX
            have hl1 : IsLfs X1 (.slice Z2 acc.length z2) acc := SL.other HOW.out.isLfs hWB.a (by decide) hk1
            have hl2 : IsLfs X2 (.slice Z2 acc.length z2) acc := SL.other hl1 hz1' (by decide) hkX
            have HFIN : Hid (IsVault X2 (.agg #[.slice A1 n1 c1, .slice A2 n2 c2, .bool k.disk.dead, .int .i64 k.disk.left, .int .i64 k.shape.pages, .int .i64 k.shape.journal, .int .i64 k.seq, .slice Z2 acc.length z2]) { k with dirty := insL ⟨no, padP data⟩ k.dirty } ∧ Below w.heap.size w X2) := Lib.hid ⟨⟨_, _, _, rfl, hvd2, by rw [← HP.out, ← HFI.out]; exact hl2⟩, hBX _ _ hb1 (by omega)⟩
            have HA1 := Lib.hid (box8 ha1)
            have HZ1 := Lib.hid (box8 hz1')
            have HBX := Lib.hid (box8 hbX)
            rw [hd] at HFIN HA1 HBX HX2
            clear hfin hjj hX1 ha1 hk1 hz1' hb1 hX2 hbX hkX hBX hvd hvd2 hl1 hl2 hWB
            go_upto_region 19 with (fail)
            rw [← HX1.out]
            clear i0 i1' i2 i3 i4 i5 i6 i7 kf HX1
            obtain ⟨⟨i0, i1', i2, i3, i4, i5, i6, i7⟩, _⟩ := HA1.out
            obtain ⟨⟨z0, z1, z2', z3, z4, z5, z6, z7⟩, zf⟩ := HZ1.out
            go_wp2_with fail
            rw [HX2.out]
            clear i0 i1' i2 i3 i4 i5 i6 i7 z0 z1 z2' z3 z4 z5 z6 z7 zf
            obtain ⟨⟨z0, z1, z2', z3, z4, z5, z6, z7⟩, _⟩ := HBX.out
            exact bodyPost_ret (v := .tuple #[.agg #[.slice A1 n1 c1, .slice A2 n2 c2, .bool false, .int .i64 k.disk.left, .int .i64 k.shape.pages, .int .i64 k.shape.journal, .int .i64 k.seq, .slice Z2 acc.length z2], .int .i64 0]) (by simp [results, Tryz.results38, go_sem, z0, z1, z2', z3, z4, z5, z6, z7]) rfl ⟨_, rfl, HFIN.out.1, HFIN.out.2⟩

/-- Whatever is asked. -/
theorem rwrite_calls (v : Value) (k : VK) (no : Int) (data : List UInt8) (w : World) (hv : IsVault w v k) (hg : VGood k) (hR : RiseL k.dirty) :
    Calls Tryz.prog 38 #[v, .int .i64 no, .string (strB data)] w fun e w' => ∃ v', e = .returned (.tuple #[v', .int .i64 (writeV k no data).2]) ∧ IsVault w' v' (writeV k no data).1 ∧ Below w.heap.size w w' := by
  unfold writeV
  by_cases hE : hasP k no ∧ data.length ≤ 208
  · rw [if_neg (by simp [hE])]
    rcases Bool.eq_false_or_eq_true k.disk.dead with hd | hd
    · rw [if_pos hd]
      exact rwrite_no v k no data w hv 12 (.inr ⟨hE, hd, rfl⟩)
    · rw [if_neg (by simp [hd])]
      exact rwrite_ok v k no data w hv hg hR hE hd
  · rw [if_pos hE]
    exact rwrite_no v k no data w hv 1 (.inl ⟨hE, rfl⟩)

end Go.Proofs.YtnbbijpmkhdgpaaGreat.Vlt

/- PFind -/
namespace Go.Proofs.YtnbbijpmkhdgpaaGreat.Vlt
open Go.RowKit Go.Sort
open Dsk

set_option maxRecDepth 100000 in
set_option maxHeartbeats 400000 in
theorem has_calls (x : Sh) (no : Int) (w : World) :
    Calls Tryz.prog 42 #[shV x, .int .i64 no] w fun e w' => e = .returned (.bool (decide (0 ≤ no) && decide (no < x.pages))) ∧ Below w.heap.size w w' := by
  unfold shV
  by_cases h : 0 ≤ no
  · have hd : decide (0 ≤ no) = true := by simpa using h
    go_enter Tryz.func42, Tryz.ntmps42
    go_wp2
    go_ret
    exact ⟨by simp [h], (Below.refl _ _).alloc (Nat.le_refl _) _⟩
  · have hd : decide (0 ≤ no) = false := by simpa using h
    go_enter Tryz.func42, Tryz.ntmps42
    go_wp2
    go_ret
    exact ⟨by simp [h], (Below.refl _ _).alloc (Nat.le_refl _) _⟩

set_option maxRecDepth 100000 in
set_option maxHeartbeats 400000 in
theorem nan_calls (x : Int) (w : World) : Calls Tryz.prog 105 #[.int .i64 x] w fun e w' => e = .returned (.bool false) ∧ w' = w := by
  have hx : (x == x) = true := by simp
  go_enter Tryz.func105, Tryz.ntmps105
  go_wp2_with fail
  go_ret
  exact ⟨by simp, rfl⟩

def cmpI (x y : Int) : Int := if x < y then -1 else if y < x then 1 else 0

set_option maxRecDepth 100000 in
set_option maxHeartbeats 400000 in
theorem cmp_calls (x y : Int) (w : World) : Calls Tryz.prog 77 #[.int .i64 x, .int .i64 y] w fun e w' => e = .returned (.int .i64 (cmpI x y)) ∧ w' = w := by
  have H1 := Lib.hid (nan_calls x w)
  have H2 := Lib.hid (nan_calls y w)
  unfold cmpI
  by_cases h1 : x < y
  · rw [if_pos h1]
    go_enter Tryz.func77, Tryz.ntmps77
    go_wp2_with fail
    with_reducible refine H1.out.mono ?_
    rintro e w1 ⟨rfl, rfl⟩
    go_wp2_with fail
    with_reducible refine H2.out.mono ?_
    rintro e w1 ⟨rfl, rfl⟩
    go_wp2_with fail
    go_ret
    exact ⟨rfl, rfl⟩
  · by_cases h2 : y < x
    · rw [if_neg h1, if_pos h2]
      go_enter Tryz.func77, Tryz.ntmps77
      go_wp2_with fail
      with_reducible refine H1.out.mono ?_
      rintro e w1 ⟨rfl, rfl⟩
      go_wp2_with fail
      with_reducible refine H2.out.mono ?_
      rintro e w1 ⟨rfl, rfl⟩
      go_wp2_with fail
      go_ret
      exact ⟨rfl, rfl⟩
    · rw [if_neg h1, if_neg h2]
      go_enter Tryz.func77, Tryz.ntmps77
      go_wp2_with fail
      with_reducible refine H1.out.mono ?_
      rintro e w1 ⟨rfl, rfl⟩
      go_wp2_with fail
      with_reducible refine H2.out.mono ?_
      rintro e w1 ⟨rfl, rfl⟩
      go_wp2_with fail
      go_ret
      exact ⟨rfl, rfl⟩

set_option maxRecDepth 100000 in
set_option maxHeartbeats 400000 in
theorem find1_calls (o : Lf) (no : Int) (w : World) : Calls Tryz.prog 76 #[.agg #[.int .i64 o.no, .string (strB o.data)], .int .i64 no] w fun e w' => e = .returned (.int .i64 (cmpI o.no no)) ∧ Below w.heap.size w w' := by
  have H := Lib.hid (fun W => cmp_calls o.no no W)
  go_enter Tryz.func76, Tryz.ntmps76
  go_wp2_with fail
  with_reducible refine (H.out _).mono ?_
  rintro e w1 ⟨rfl, rfl⟩
  go_wp2_with fail
  go_ret
  exact ⟨rfl, below_one _ _⟩

def posL (l : List Lf) (no : Int) : Nat := (l.takeWhile (fun p => decide (p.no < no))).length
def isL (l : List Lf) (no : Int) : Bool := match l[posL l no]? with | some o => decide (o.no = no) | none => false
theorem posL_is {l : List Lf} {no : Int} {i : Nat} (h1 : ∀ q x, q < i → l[q]? = some x → x.no < no) (h2 : ∀ x, l[i]? = some x → ¬ x.no < no) (hi : i ≤ l.length) : posL l no = i := by
  unfold posL
  rw [(tw_takeL (p := ⟨no, []⟩) l i h1 h2 hi).1, List.length_take]
  omega
theorem rise_at {l : List Lf} (h : RiseL l) {i j : Nat} {x y : Lf} (hij : i < j) (hx : l[i]? = some x) (hy : l[j]? = some y) : x.no < y.no := by
  obtain ⟨hi, rfl⟩ := List.getElem?_eq_some_iff.1 hx
  obtain ⟨hj, rfl⟩ := List.getElem?_eq_some_iff.1 hy
  exact List.pairwise_iff_getElem.1 h i j hi hj hij

set_option maxRecDepth 100000 in
set_option maxHeartbeats 4000000 in
theorem search_calls (A : Option Addr) (n c : Nat) (l : List Lf) (no : Int) (w : World) (hr : Reads w 52 2 A n (lfCells l)) (hn : n = l.length) (hR : RiseL l) (hnm : n ≤ 1000) :
    Calls Tryz.prog 75 #[.slice A n c, .int .i64 no, .func (.func 76) #[] #[]] w fun e w' => e = .returned (.tuple #[.int .i64 (posL l no : Nat), .bool (isL l no)]) ∧ Below w.heap.size w w' := by
  have HR := Lib.hid hr
  have HN := Lib.hid hn
  have HRI := Lib.hid hR
  have HC := Lib.hid (fun o W => find1_calls o no W)
  clear hr hn hR
  go_enter Tryz.func75, Tryz.ntmps75
  go_wp2_with fail
  go_loopw [9, 10] (fun s9 s10 wr => ∃ lo hi : Nat, s9 = .int .i64 lo ∧ s10 = .int .i64 hi ∧ lo ≤ hi ∧ hi ≤ n ∧ Below w.heap.size w wr ∧ (∀ q x, q < lo → l[q]? = some x → x.no < no) ∧ (∀ q x, hi ≤ q → l[q]? = some x → no ≤ x.no)) (fun s9 s10 _ => (intOf s10).toNat - (intOf s9).toNat)
  case atStart => exact ⟨0, n, rfl, rfl, Nat.zero_le _, Nat.le_refl _, Below.refl _ _, fun q x h => absurd h (by omega), fun q x h hx => by have := (List.getElem?_eq_some_iff.1 hx).1; have := HN.out; omega⟩
  case round =>
    obtain ⟨lo, hi, rfl, rfl, hlh, hin, hbr, hlow, hhigh⟩ := hrel
    have HBR := Lib.hid hbr
    have HLO := Lib.hid hlow
    have HHI := Lib.hid hhigh
    clear hbr hlow hhigh
    by_cases hlt : lo < hi
    · obtain ⟨k, hk⟩ : ∃ k, k = (lo + hi) / 2 := ⟨_, rfl⟩
      have hk1 : lo ≤ k := by omega
      have hk2 : k < hi := by omega
      have hkk : ((lo : Int) + (hi : Int)) / 2 = (k : Nat) := by omega
      obtain ⟨o, ho⟩ : ∃ o, l[k]? = some o := ⟨_, List.getElem?_eq_getElem (by have := HN.out; omega)⟩
      obtain ⟨b, off, rfl, x0, x1⟩ := lf_at HR.out HBR.out ho (by omega)
      have HO := Lib.hid ho
      clear ho hk
      by_cases hc : o.no < no
      · have hcm : cmpI o.no no = -1 := by unfold cmpI; rw [if_pos hc]
        go_wp2_with fail
        with_reducible refine (HC.out o _).mono ?_
        rintro e w1 ⟨rfl, hB1⟩
        rw [hcm]
        go_wp2_with fail
        refine ⟨⟨k + 1, hi, by go_num, rfl, by omega, hin, Dsk.below_trans' HBR.out hB1, fun q x hq hx => ?_, HHI.out⟩, by simp [intOf]; omega⟩
        by_cases e : q = k
        · subst e
          rw [HO.out] at hx
          injection hx with hx
          rw [← hx]; exact hc
        · have := rise_at HRI.out (show q < k by omega) hx HO.out
          omega
      · have hcm : ¬ cmpI o.no no < 0 := by unfold cmpI; rw [if_neg hc]; split <;> omega
        obtain ⟨z, hz⟩ : ∃ z, z = cmpI o.no no := ⟨_, rfl⟩
        rw [← hz] at hcm
        have HZ := Lib.hid hz
        clear hz
        go_wp2_with fail
        with_reducible refine (HC.out o _).mono ?_
        rintro e w1 ⟨rfl, hB1⟩
        rw [← HZ.out]
        go_wp2_with fail
        refine ⟨⟨lo, k, rfl, rfl, hk1, by omega, Dsk.below_trans' HBR.out hB1, HLO.out, fun q x hq hx => ?_⟩, by simp [intOf]; omega⟩
        by_cases e : q = k
        · subst e
          rw [HO.out] at hx
          injection hx with hx
          rw [← hx]; omega
        · have := rise_at HRI.out (show k < q by omega) HO.out hx
          omega
    · obtain rfl : lo = hi := by omega
      have hp := posL_is (l := l) (no := no) (i := lo) HLO.out (fun x hx => by have := HHI.out lo x (Nat.le_refl _) hx; omega) (by have := HN.out; omega)
      have HP := Lib.hid hp
      by_cases hln : lo < n
      · obtain ⟨o, ho⟩ : ∃ o, l[lo]? = some o := ⟨_, List.getElem?_eq_getElem (by have := HN.out; omega)⟩
        obtain ⟨b, off, rfl, x0, x1⟩ := lf_at HR.out HBR.out ho (by omega)
        have hq : isL l no = decide (o.no = no) := by unfold isL; rw [hp, ho]
        have hno : ¬ o.no < no := by have := HHI.out lo o (Nat.le_refl _) ho; omega
        have hi2 : (lo : Int) < (n : Int) := by omega
        have HQ := Lib.hid hq
        have hcm : cmpI o.no no = if no < o.no then 1 else 0 := by unfold cmpI; rw [if_neg hno]
        clear hp ho hq
        obtain ⟨z, hz⟩ : ∃ z, z = cmpI o.no no := ⟨_, rfl⟩
        have hzq : (z == 0) = isL l no := by
          rw [HQ.out, hz, hcm]
          by_cases hg : no < o.no
          · rw [if_pos hg]
            have : ¬ o.no = no := by omega
            simp [this]
          · rw [if_neg hg]
            have : o.no = no := by omega
            simp [this]
        have HZ := Lib.hid hz
        have HZQ := Lib.hid hzq
        clear hz hzq hcm
        go_wp2_with fail
        with_reducible refine (HC.out o _).mono ?_
        rintro e w1 ⟨rfl, hB1⟩
        rw [← HZ.out]
        go_wp2_with fail
        exact bodyPost_ret (v := .tuple #[.int .i64 (lo : Nat), .bool (z == 0)]) (by simp [results, Tryz.results75, go_sem]) rfl ⟨by rw [HZQ.out, HP.out], Dsk.below_trans' HBR.out hB1⟩
      · have hi2 : ¬ (lo : Int) < (n : Int) := by omega
        have hq : isL l no = false := by
          unfold isL
          rw [hp, List.getElem?_eq_none (by have := HN.out; omega)]
        have HQ := Lib.hid hq
        clear hp hq
        go_wp2_with fail
        exact bodyPost_ret (v := .tuple #[.int .i64 (lo : Nat), .bool false]) (by simp [results, Tryz.results75, go_sem]) rfl ⟨by rw [HQ.out, HP.out], HBR.out⟩

set_option maxRecDepth 100000 in
set_option maxHeartbeats 400000 in
theorem find_calls (A : Option Addr) (n c : Nat) (l : List Lf) (no : Int) (w : World) (hr : Reads w 52 2 A n (lfCells l)) (hn : n = l.length) (hR : RiseL l) (hnm : n ≤ 1000) :
    Calls Tryz.prog 43 #[.slice A n c, .int .i64 no] w fun e w' => e = .returned (.tuple #[.int .i64 (posL l no : Nat), .bool (isL l no)]) ∧ Below w.heap.size w w' := by
  have H := Lib.hid (search_calls A n c l no w hr hn hR hnm)
  clear hr hn hR
  go_enter Tryz.func43, Tryz.ntmps43
  go_wp2_with fail
  with_reducible refine H.out.mono ?_
  rintro e w1 ⟨rfl, hB⟩
  go_wp2_with fail
  exact bodyPost_ret (v := .tuple #[.int .i64 (posL l no : Nat), .bool (isL l no)]) (by simp [results, Tryz.results43, go_sem]) rfl ⟨rfl, hB⟩

end Go.Proofs.YtnbbijpmkhdgpaaGreat.Vlt
