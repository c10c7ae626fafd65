/- Contracts and plain mathematics that the statement's proof wants: no statement is proved here, nothing is assumed. -/
import Derived.Test.YtnbbijpmkhdgpaaGreatMg14
/- PWrite -/
namespace Go.Proofs.YtnbbijpmkhdgpaaGreat.Vlt
open Go.RowKit Go.Sort
open Dsk

set_option maxRecDepth 100000 in
set_option maxHeartbeats 4000000 in
theorem padded_calls (s : List UInt8) (w : World) (hs : s.length ≤ 208) :
    Calls Tryz.prog 59 #[.string (strB s)] w fun e w' => e = .returned (.string (strB (padP s))) ∧ Below w.heap.size w w' := by
  obtain ⟨k, hk⟩ : ∃ k, k = 208 - s.length := ⟨_, rfl⟩
  have hsz := strB_size s
  have hm : (208 : Int) - ((strB s).size : Int) = (k : Nat) := by omega
  have hz0 : (strB s).size + (strB (zer k)).size ≤ 5000 := by rw [strB_size, strB_size]; unfold zer; simp; omega
  have hz : ¬ 9223372036854775807 < (strB s).size + (strB (zer k)).size := fun h => absurd (Nat.lt_of_lt_of_le h hz0) (by decide)
  have HR := Lib.hid (rep_calls k w (by omega))
  have hf := Lib.hid (show strB s ++ strB (zer k) = strB (padP s) by unfold padP; rw [strB_append, hk]; rfl)
  clear hk hs hsz hz0
  go_enter Tryz.func59, Tryz.ntmps59
  go_wp2_with fail
  (with_reducible refine HR.out.mono ?_)
  rintro e w1 ⟨rfl, hB⟩
  go_wp2_with fail
  go_ret
  exact ⟨ret_str hf.out, hB⟩

set_option maxRecDepth 100000 in
set_option maxHeartbeats 16000000 in
theorem pwrite_no (v : Value) (k : VK) (no : Int) (data : List UInt8) (w : World) (hv : IsVault w v k) (E : Int) (hE : (¬ (hasP k no ∧ data.length ≤ 208) ∧ E = 1) ∨ ((hasP k no ∧ data.length ≤ 208) ∧ k.disk.dead = true ∧ E = 12)) :
    Calls Tryz.prog 26 #[v, .int .i64 no, .string (strB data)] w fun e w' => ∃ v', e = .returned (.tuple #[v', .int .i64 E]) ∧ IsVault w' v' k ∧ Below w.heap.size w w' := by
  obtain ⟨vs, vw, vd, rfl, h1, h2⟩ := id hv
  obtain ⟨A1, n1, c1, A2, n2, c2, e1⟩ := h1.parts
  obtain ⟨rfl, rfl⟩ : vs = .slice A1 n1 c1 ∧ vw = .slice A2 n2 c2 := by
    simp only [Value.agg.injEq, Array.mk.injEq, List.cons.injEq] at e1
    exact ⟨e1.1, e1.2.1⟩
  obtain ⟨A, n, c, rfl, hn, _, hr⟩ := h2.open_
  obtain ⟨Y, hY, hB⟩ := WB.new w (.slice A1 n1 c1) (.slice A2 n2 c2) (.slice A n c) k
  have HY := Lib.hid hY
  have HWB := Lib.hid hB
  have HV := Lib.hid hv
  have HHAS := Lib.hid (fun W => has_calls k.shape no W)
  unfold shV at HHAS
  obtain ⟨hb, hbb⟩ : ∃ b, b = (decide (0 ≤ no) && decide (no < k.shape.pages)) := ⟨_, rfl⟩
  rw [← hbb] at HHAS
  have hbi : hb = true ↔ hasP k no := by
    rw [hbb]
    unfold hasP
    simp
  have hsz := strB_size data
  obtain ⟨i0, i1, i2, i3, i4, i5, i6, i7⟩ := hB.a.at_
  clear hY hB hbb h1 h2 hn hr hv e1
  -- what stands behind the check
  have fin : ∀ (W : World) (X : World), WB w W (.slice A1 n1 c1) (.slice A2 n2 c2) (.slice A n c) k →
      (((((((W.setCell ⟨w.heap.size + 1, 0, none⟩ (.slice A1 n1 c1)).setCell ⟨w.heap.size + 1, 1, none⟩ (.slice A2 n2 c2)).setCell ⟨w.heap.size + 1, 2, none⟩ (.bool k.disk.dead)).setCell ⟨w.heap.size + 1, 3, none⟩ (.int .i64 k.disk.left)).setCell ⟨w.heap.size + 1, 4, none⟩ (.int .i64 k.shape.pages)).setCell ⟨w.heap.size + 1, 5, none⟩ (.int .i64 k.shape.journal)).setCell ⟨w.heap.size + 1, 6, none⟩ (.int .i64 k.seq)).setCell ⟨w.heap.size + 1, 7, none⟩ (.slice A n c) = X →
      IsVault X (.agg #[.slice A1 n1 c1, .slice A2 n2 c2, .bool k.disk.dead, .int .i64 k.disk.left, .int .i64 k.shape.pages, .int .i64 k.shape.journal, .int .i64 k.seq, .slice A n c]) k ∧ Below w.heap.size w X ∧
      X.heap[w.heap.size + 1]? = some (.cells #[.slice A1 n1 c1, .slice A2 n2 c2, .bool k.disk.dead, .int .i64 k.disk.left, .int .i64 k.shape.pages, .int .i64 k.shape.journal, .int .i64 k.seq, .slice A n c] 33 (0, 0)) := by
    intro W X hW hX
    obtain ⟨X', hX', hbX, hkX, hBX⟩ := box_store8 hW.z (.slice A1 n1 c1) (.slice A2 n2 c2) (.bool k.disk.dead) (.int .i64 k.disk.left) (.int .i64 k.shape.pages) (.int .i64 k.shape.journal) (.int .i64 k.seq) (.slice A n c)
    rw [hX'] at hX
    subst hX
    exact ⟨(HV.out.below hW.below).other hW.z hkX, hBX _ _ hW.below (by omega), hbX⟩
  have FIN := Lib.hid fin
  clear fin
  rcases hE with ⟨hE, rfl⟩ | ⟨hE, hd, rfl⟩
  · cases hbc : hb with
    | false =>
      rw [hbc] at HHAS
      clear hE hbi
      go_enter Tryz.func26, Tryz.ntmps26
      go_upto_region 1 with (fail)
      rw [← HY.out]
      clear HY
      go_wp2_with fail
      (with_reducible refine (HHAS.out _).mono ?_)
      rintro e w1 ⟨rfl, hB1⟩
      have HW1 := Lib.hid (HWB.out.more hB1)
      clear i0 i1 i2 i3 i4 i5 i6 i7 hB1
      obtain ⟨i0, i1, i2, i3, i4, i5, i6, i7⟩ := HW1.out.a.at_
      obtain ⟨⟨z0, z1, z2, z3, z4, z5, z6, z7⟩, zf⟩ := box8 HW1.out.z
      go_wp2_with fail
      generalize hX : ((((((((w1.setCell ⟨w.heap.size + 1, 0, none⟩ (.slice A1 n1 c1)).setCell ⟨w.heap.size + 1, 1, none⟩ (.slice A2 n2 c2)).setCell ⟨w.heap.size + 1, 2, none⟩ (.bool k.disk.dead)).setCell ⟨w.heap.size + 1, 3, none⟩ (.int .i64 k.disk.left)).setCell ⟨w.heap.size + 1, 4, none⟩ (.int .i64 k.shape.pages)).setCell ⟨w.heap.size + 1, 5, none⟩ (.int .i64 k.shape.journal)).setCell ⟨w.heap.size + 1, 6, none⟩ (.int .i64 k.seq)).setCell ⟨w.heap.size + 1, 7, none⟩ (.slice A n c)) = X
      obtain ⟨f1, f2, f3⟩ := FIN.out w1 X HW1.out hX
      obtain ⟨⟨q0, q1, q2, q3, q4, q5, q6, q7⟩, _⟩ := box8 f3
      exact bodyPost_ret (v := .tuple #[.agg #[.slice A1 n1 c1, .slice A2 n2 c2, .bool k.disk.dead, .int .i64 k.disk.left, .int .i64 k.shape.pages, .int .i64 k.shape.journal, .int .i64 k.seq, .slice A n c], .int .i64 1]) (by simp [results, Tryz.results26, go_sem, q0, q1, q2, q3, q4, q5, q6, q7]) rfl ⟨_, rfl, f1, f2⟩
    | true =>
      rw [hbc] at HHAS
      have hH := hbi.1 hbc
      have hl : 208 < data.length := by
        apply Classical.byContradiction
        intro h
        exact hE ⟨hH, by omega⟩
      have hl2 : (208 : Int) < ((strB data).size : Int) := by omega
      have hl3 : 208 < (strB data).size := by omega
      clear hE hbi hH hl
      go_enter Tryz.func26, Tryz.ntmps26
      go_upto_region 1 with (fail)
      rw [← HY.out]
      clear HY
      go_wp2_with fail
      (with_reducible refine (HHAS.out _).mono ?_)
      rintro e w1 ⟨rfl, hB1⟩
      have HW1 := Lib.hid (HWB.out.more hB1)
      clear i0 i1 i2 i3 i4 i5 i6 i7 hB1
      obtain ⟨i0, i1, i2, i3, i4, i5, i6, i7⟩ := HW1.out.a.at_
      obtain ⟨⟨z0, z1, z2, z3, z4, z5, z6, z7⟩, zf⟩ := box8 HW1.out.z
      go_wp2_with fail
      generalize hX : ((((((((w1.setCell ⟨w.heap.size + 1, 0, none⟩ (.slice A1 n1 c1)).setCell ⟨w.heap.size + 1, 1, none⟩ (.slice A2 n2 c2)).setCell ⟨w.heap.size + 1, 2, none⟩ (.bool k.disk.dead)).setCell ⟨w.heap.size + 1, 3, none⟩ (.int .i64 k.disk.left)).setCell ⟨w.heap.size + 1, 4, none⟩ (.int .i64 k.shape.pages)).setCell ⟨w.heap.size + 1, 5, none⟩ (.int .i64 k.shape.journal)).setCell ⟨w.heap.size + 1, 6, none⟩ (.int .i64 k.seq)).setCell ⟨w.heap.size + 1, 7, none⟩ (.slice A n c)) = X
      obtain ⟨f1, f2, f3⟩ := FIN.out w1 X HW1.out hX
      obtain ⟨⟨q0, q1, q2, q3, q4, q5, q6, q7⟩, _⟩ := box8 f3
      exact bodyPost_ret (v := .tuple #[.agg #[.slice A1 n1 c1, .slice A2 n2 c2, .bool k.disk.dead, .int .i64 k.disk.left, .int .i64 k.shape.pages, .int .i64 k.shape.journal, .int .i64 k.seq, .slice A n c], .int .i64 1]) (by simp [results, Tryz.results26, go_sem, q0, q1, q2, q3, q4, q5, q6, q7]) rfl ⟨_, rfl, f1, f2⟩
  · have hl2 : ¬ (208 : Int) < ((strB data).size : Int) := by have := hE.2; omega
    have hl3 : ¬ 208 < (strB data).size := by have := hE.2; omega
    have hbc : hb = true := hbi.2 hE.1
    rw [hbc] at HHAS
    rw [hd] at HY FIN i2
    have HD := Lib.hid hd
    rw [hd]
    clear hE hbi hbc
    go_enter Tryz.func26, Tryz.ntmps26
    go_upto_region 1 with (fail)
    rw [← HY.out]
    clear HY
    go_wp2_with fail
    (with_reducible refine (HHAS.out _).mono ?_)
    rintro e w1 ⟨rfl, hB1⟩
    have HW1 := Lib.hid (HWB.out.more hB1)
    clear i0 i1 i2 i3 i4 i5 i6 i7 hB1
    obtain ⟨i0, i1, i2, i3, i4, i5, i6, i7⟩ := HW1.out.a.at_
    rw [HD.out] at i2
    obtain ⟨⟨z0, z1, z2, z3, z4, z5, z6, z7⟩, zf⟩ := box8 HW1.out.z
    go_wp2_with fail
    generalize hX : ((((((((w1.setCell ⟨w.heap.size + 1, 0, none⟩ (.slice A1 n1 c1)).setCell ⟨w.heap.size + 1, 1, none⟩ (.slice A2 n2 c2)).setCell ⟨w.heap.size + 1, 2, none⟩ (.bool true)).setCell ⟨w.heap.size + 1, 3, none⟩ (.int .i64 k.disk.left)).setCell ⟨w.heap.size + 1, 4, none⟩ (.int .i64 k.shape.pages)).setCell ⟨w.heap.size + 1, 5, none⟩ (.int .i64 k.shape.journal)).setCell ⟨w.heap.size + 1, 6, none⟩ (.int .i64 k.seq)).setCell ⟨w.heap.size + 1, 7, none⟩ (.slice A n c)) = X
    obtain ⟨f1, f2, f3⟩ := FIN.out w1 X HW1.out hX
    obtain ⟨⟨q0, q1, q2, q3, q4, q5, q6, q7⟩, _⟩ := box8 f3
    exact bodyPost_ret (v := .tuple #[.agg #[.slice A1 n1 c1, .slice A2 n2 c2, .bool true, .int .i64 k.disk.left, .int .i64 k.shape.pages, .int .i64 k.shape.journal, .int .i64 k.seq, .slice A n c], .int .i64 12]) (by simp [results, Tryz.results26, go_sem, q0, q1, q2, q3, q4, q5, q6, q7]) rfl ⟨_, rfl, f1, f2⟩

/-- Another list of pages is stored into the first box. -/
theorem wput {w W : World} {v0 v1 v7 u7 : Value} {k : VK} {l : List Lf} (h : WB w W v0 v1 v7 k) (hi : IsDisk w (.agg #[v0, v1, .bool k.disk.dead, .int .i64 k.disk.left]) k.disk) (hl : IsLfs W u7 l) :
    ∃ X, W.setCell ⟨w.heap.size, 7, none⟩ u7 = X ∧ X.heap[w.heap.size]? = some (.cells #[v0, v1, .bool k.disk.dead, .int .i64 k.disk.left, .int .i64 k.shape.pages, .int .i64 k.shape.journal, .int .i64 k.seq, u7] 33 (0, 0)) ∧
      X.heap[w.heap.size + 1]? = some (.cells #[.slice none 0 0, .slice none 0 0, .bool false, .int .i64 0, .int .i64 0, .int .i64 0, .int .i64 0, .slice none 0 0] 33 (0, 0)) ∧ IsLfs X u7 l ∧
      IsDisk X (.agg #[v0, v1, .bool k.disk.dead, .int .i64 k.disk.left]) k.disk ∧ Below w.heap.size w X := by
  obtain ⟨X, hX⟩ : ∃ X, X = W.setCell ⟨w.heap.size, 7, none⟩ u7 := ⟨_, rfl⟩
  have hk : ∀ q : Nat, q ≠ w.heap.size → X.heap[q]? = W.heap[q]? := fun q hq => by rw [hX]; exact Below.heap_setCell _ _ _ _ hq
  refine ⟨X, hX.symm, by rw [hX]; exact heap_setCell_same W w.heap.size 7 _ 33 _ h.a, (hk _ (by omega)).trans h.z, SL.other hl h.a (by decide) hk, (hi.below h.below).other h.a (by decide) (by decide) hk, ?_⟩
  rw [hX]
  exact h.below.setCell (p := ⟨w.heap.size, 7, none⟩) (Nat.le_refl _) _

set_option maxRecDepth 100000 in
set_option maxHeartbeats 16000000 in
theorem pwrite_ok (v : Value) (k : VK) (no : Int) (data : List UInt8) (w : World) (hv : IsVault w v k) (hg : VGood k) (hR : RiseL k.dirty) (hE : hasP k no ∧ data.length ≤ 208) (hd : k.disk.dead = false) :
    Calls Tryz.prog 26 #[v, .int .i64 no, .string (strB data)] w fun e w' => ∃ v', e = .returned (.tuple #[v', .int .i64 0]) ∧ IsVault w' v' { k with dirty := insL ⟨no, padP data⟩ k.dirty } ∧ Below w.heap.size w w' := by
  obtain ⟨vs, vw, vd, rfl, h1, h2⟩ := id hv
  obtain ⟨A1, n1, c1, A2, n2, c2, e1⟩ := h1.parts
  obtain ⟨rfl, rfl⟩ : vs = .slice A1 n1 c1 ∧ vw = .slice A2 n2 c2 := by
    simp only [Value.agg.injEq, Array.mk.injEq, List.cons.injEq] at e1
    exact ⟨e1.1, e1.2.1⟩
  obtain ⟨A, n, c, rfl, hn, _, hr⟩ := h2.open_
  obtain ⟨Y, hY, hB⟩ := WB.new w (.slice A1 n1 c1) (.slice A2 n2 c2) (.slice A n c) k
  have HY := Lib.hid hY
  have HWB := Lib.hid hB
  have HV := Lib.hid hv
  have HHAS := Lib.hid (fun W => has_calls k.shape no W)
  unfold shV at HHAS
  have hb : (decide (0 ≤ no) && decide (no < k.shape.pages)) = true := by
    obtain ⟨a, b⟩ := hE.1
    simp [a, b]
  rw [hb] at HHAS
  have hsz := strB_size data
  have hl2 : ¬ (208 : Int) < ((strB data).size : Int) := by have := hE.2; omega
  have hl3 : ¬ 208 < (strB data).size := by have := hE.2; omega
  obtain ⟨P, hP⟩ : ∃ P, P = padP data := ⟨_, rfl⟩
  have C1 := fun W => padded_calls data W hE.2
  have C2 := fun W (hbw : Below w.heap.size w W) => with_calls (.slice A n c) k.dirty no P W (h2.below hbw) hR hg.dirty
  rw [← hP] at C1
  have C1 := Lib.hid C1
  have C2 := Lib.hid C2
  have HP := Lib.hid hP
  have HI := Lib.hid h1
  have HD := Lib.hid hd
  obtain ⟨i0, i1, i2, i3, i4, i5, i6, i7⟩ := hB.a.at_
  rw [hd] at HY i2 ⊢
  clear hY hB h1 h2 hn hr hv e1 hR hg hE hd hb hP hsz
  go_enter Tryz.func26, Tryz.ntmps26
  go_upto_region 1 with (fail)
  rw [← HY.out]
  clear HY
  go_wp2_with fail
  (with_reducible refine (HHAS.out _).mono ?_)
  rintro e w1 ⟨rfl, hB1⟩
  have HW1 := Lib.hid (HWB.out.more hB1)
  clear i0 i1 i2 i3 i4 i5 i6 i7 hB1
  obtain ⟨i0, i1, i2, i3, i4, i5, i6, i7⟩ := HW1.out.a.at_
  rw [HD.out] at i2
  go_wp2_with fail
  have HT := Lib.hid (HW1.out.more (Below.refl _ _).drew)
  clear i0 i1 i2 i3 i4 i5 i6 i7
  have i7 := HT.out.a.at_.c7
  have kf := HT.out.a.free
  go_region_with (first
    | (go_at_call 59; (with_reducible refine (C1.out _).mono ?_); rintro e wa ⟨rfl, hBa⟩; (with_reducible replace HT := Lib.hid (HT.out.more hBa)); clear hBa; have i7 := HT.out.a.at_.c7; have kf := HT.out.a.free)
    | (go_at_call 58; (with_reducible refine (C2.out _ HT.out.below).mono ?_); rintro e wa ⟨v', rfl, hv', hBa⟩; (with_reducible replace HT := Lib.hid (HT.out.more hBa)); clear hBa; have i7 := HT.out.a.at_.c7; have kf := HT.out.a.free; obtain ⟨Z2, z2, z3, rfl, hz3, _, _⟩ := hv'.open_; have HL := Lib.hid hv'; have HZ3 := Lib.hid hz3; clear hv' hz3))
  all_goals
    (try clear z0)
    have hTA := HT.out
    obtain ⟨X1, hX1, ha1, hz1', hl1, hvd, hb1⟩ := wput HT.out HI.out HL.out
    have HA1 := Lib.hid (box8 ha1)
    have HZ1 := Lib.hid (box8 hz1')
    obtain ⟨X2, hX2, hbX, hkX, hBX⟩ := box_store8 hz1' (.slice A1 n1 c1) (.slice A2 n2 c2) (.bool k.disk.dead) (.int .i64 k.disk.left) (.int .i64 k.shape.pages) (.int .i64 k.shape.journal) (.int .i64 k.seq) (.slice Z2 z2 z3)
    have HX1 := Lib.hid hX1
    have HX2 := Lib.hid hX2
    have hvd2 := hvd.other hz1' (by decide) (by decide) hkX
    have hl2 : IsLfs X2 (.slice Z2 z2 z3) _ := SL.other hl1 hz1' (by decide) hkX
    have HFIN : Hid (IsVault X2 (.agg #[.slice A1 n1 c1, .slice A2 n2 c2, .bool k.disk.dead, .int .i64 k.disk.left, .int .i64 k.shape.pages, .int .i64 k.shape.journal, .int .i64 k.seq, .slice Z2 z2 z3]) { k with dirty := insL ⟨no, padP data⟩ k.dirty } ∧ Below w.heap.size w X2) := Lib.hid ⟨⟨_, _, _, rfl, hvd2, by rw [← HP.out]; exact hl2⟩, hBX _ _ hb1 (by omega)⟩
    have HBX := Lib.hid (box8 hbX)
    rw [HD.out] at HFIN HA1 HBX HX2
    clear hX1 ha1 hz1' hb1 hX2 hbX hkX hBX hvd hvd2 hl1 hl2 hTA
    go_upto_region 6 with (fail)
    rw [HX1.out]
    clear i7 kf HX1
    obtain ⟨⟨i0, i1, i2, i3, i4, i5, i6, i7⟩, _⟩ := HA1.out
    obtain ⟨⟨z0, z1, z2', z3', z4, z5, z6, z7⟩, zf⟩ := HZ1.out
    go_wp2_with fail
    rw [HX2.out]
    clear i0 i1 i2 i3 i4 i5 i6 i7 z0 z1 z2' z3' z4 z5 z6 z7 zf
    obtain ⟨⟨z0, z1, z2', z3', z4, z5, z6, z7⟩, _⟩ := HBX.out
    exact bodyPost_ret (v := .tuple #[.agg #[.slice A1 n1 c1, .slice A2 n2 c2, .bool false, .int .i64 k.disk.left, .int .i64 k.shape.pages, .int .i64 k.shape.journal, .int .i64 k.seq, .slice Z2 z2 z3], .int .i64 0]) (by simp [results, Tryz.results26, go_sem, z0, z1, z2', z3', z4, z5, z6, z7]) rfl ⟨_, rfl, HFIN.out.1, HFIN.out.2⟩

/-- Whatever is asked. -/
theorem write_calls (v : Value) (k : VK) (no : Int) (data : List UInt8) (w : World) (hv : IsVault w v k) (hg : VGood k) (hR : RiseL k.dirty) :
    Calls Tryz.prog 26 #[v, .int .i64 no, .string (strB data)] w fun e w' => ∃ v', e = .returned (.tuple #[v', .int .i64 (writeV k no data).2]) ∧ IsVault w' v' (writeV k no data).1 ∧ Below w.heap.size w w' := by
  unfold writeV
  by_cases hE : hasP k no ∧ data.length ≤ 208
  · rw [if_neg (by simp [hE])]
    rcases Bool.eq_false_or_eq_true k.disk.dead with hd | hd
    · rw [if_pos hd]
      exact pwrite_no v k no data w hv 12 (.inr ⟨hE, hd, rfl⟩)
    · rw [if_neg (by simp [hd])]
      exact pwrite_ok v k no data w hv hg hR hE hd
  · rw [if_pos hE]
    exact pwrite_no v k no data w hv 1 (.inl ⟨hE, rfl⟩)

end Go.Proofs.YtnbbijpmkhdgpaaGreat.Vlt
