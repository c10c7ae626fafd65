/- Contracts and plain mathematics that the statement's proof wants: no statement is proved here, nothing is assumed. -/
import Derived.Deep.Cut
import Derived.Deep.CutRange
import Derived.Test.YtnbbijpmkhdgpaaGreatMg24
import Derived.Test.YtnbbijpmkhdgpaaGreatMg27
/- PCommit -/
namespace Go.Proofs.YtnbbijpmkhdgpaaGreat.Vlt
open Go.RowKit Go.Sort
open Dsk

theorem wf_pl {n i : Nat} {d : DK} {l : List (Int × ByteArray)} (h : Pl n i d) : Pl n (i + l.length) (wfF d l).1 := by
  have := wrs_pl l h
  unfold wfF
  split
  · exact flD_pl this
  · exact this

/-- The boxes of a call that hands a vault back: what lies in them. -/
structure CB (w W : World) (v0 v1 v7 : Value) (k : VK) : Prop where
  b : WB w W v0 v1 v7 k
  d : IsDisk W (.agg #[v0, v1, .bool k.disk.dead, .int .i64 k.disk.left]) k.disk
  l : IsLfs W v7 k.dirty
section
variable {w W W' : World} {v0 v1 v7 u0 u1 u7 : Value} {k : VK} {e : DK}
theorem CB.more (h : CB w W v0 v1 v7 k) (hb : Below W.heap.size W W') : CB w W' v0 v1 v7 k := ⟨h.b.more hb, h.d.below hb, h.l.below hb⟩
theorem CB.new (w : World) (h1 : IsDisk w (.agg #[v0, v1, .bool k.disk.dead, .int .i64 k.disk.left]) k.disk) (h2 : IsLfs w v7 k.dirty) :
    ∃ Y, Y = (w.alloc (.cells #[v0, v1, .bool k.disk.dead, .int .i64 k.disk.left, .int .i64 k.shape.pages, .int .i64 k.shape.journal, .int .i64 k.seq, v7] 33)).alloc (.cells #[.slice none 0 0, .slice none 0 0, .bool false, .int .i64 0, .int .i64 0, .int .i64 0, .int .i64 0, .slice none 0 0] 33) ∧ CB w Y v0 v1 v7 k := by
  obtain ⟨Y, hY, hB⟩ := WB.new w v0 v1 v7 k
  exact ⟨Y, hY, hB, h1.below hB.below, h2.below hB.below⟩
/-- One cell of the first box is stored. -/
theorem set8 {x0 x1 x2 x3 x4 x5 x6 x7 : Value} (h : W.heap[w.heap.size]? = some (.cells #[x0, x1, x2, x3, x4, x5, x6, x7] 33 (0, 0))) (i : Nat) (u : Value) :
    (W.setCell ⟨w.heap.size, i, none⟩ u).heap[w.heap.size]? = some (.cells (#[x0, x1, x2, x3, x4, x5, x6, x7].setIfInBounds i u) 33 (0, 0)) ∧ (∀ q : Nat, q ≠ w.heap.size → (W.setCell ⟨w.heap.size, i, none⟩ u).heap[q]? = W.heap[q]?) :=
  ⟨heap_setCell_same W w.heap.size i _ 33 _ h, fun _q hq => Below.heap_setCell _ _ _ _ hq⟩
theorem CB.keep {k' : VK} (h : CB w W v0 v1 v7 k) (ha : VBox W' w.heap.size u0 u1 u7 k') (hk : ∀ q : Nat, q ≠ w.heap.size → W'.heap[q]? = W.heap[q]?) (hb : Below w.heap.size w W')
    (hd : IsDisk W (.agg #[u0, u1, .bool k'.disk.dead, .int .i64 k'.disk.left]) k'.disk) (hl : IsLfs W u7 k'.dirty) : CB w W' u0 u1 u7 k' :=
  ⟨⟨ha, (hk _ (by omega)).trans h.b.z, hb⟩, hd.other h.b.a (by decide) (by decide) hk, SL.other hl h.b.a (by decide) hk⟩
theorem CB.putD (h : CB w W v0 v1 v7 k) (hv : IsDisk W (.agg #[u0, u1, .bool e.dead, .int .i64 e.left]) e) :
    ∃ X, (((W.setCell ⟨w.heap.size, 0, none⟩ u0).setCell ⟨w.heap.size, 1, none⟩ u1).setCell ⟨w.heap.size, 2, none⟩ (.bool e.dead)).setCell ⟨w.heap.size, 3, none⟩ (.int .i64 e.left) = X ∧ CB w X u0 u1 v7 { k with disk := e } := by
  refine ⟨_, rfl, ?_⟩
  obtain ⟨a0, b0⟩ := set8 h.b.a 0 u0
  obtain ⟨a1, b1⟩ := set8 a0 1 u1
  obtain ⟨a2, b2⟩ := set8 a1 2 (.bool e.dead)
  obtain ⟨a3, b3⟩ := set8 a2 3 (.int .i64 e.left)
  refine h.keep (k' := { k with disk := e }) a3 (fun q hq => by rw [b3 q hq, b2 q hq, b1 q hq, b0 q hq]) ?_ hv h.l
  exact (((h.b.below.setCell (p := ⟨w.heap.size, 0, none⟩) (Nat.le_refl _) _).setCell (p := ⟨w.heap.size, 1, none⟩) (Nat.le_refl _) _).setCell (p := ⟨w.heap.size, 2, none⟩) (Nat.le_refl _) _).setCell (p := ⟨w.heap.size, 3, none⟩) (Nat.le_refl _) _
theorem CB.putS (h : CB w W v0 v1 v7 k) (s : Int) :
    ∃ X, W.setCell ⟨w.heap.size, 6, none⟩ (.int .i64 s) = X ∧ CB w X v0 v1 v7 { k with seq := s } := by
  refine ⟨_, rfl, ?_⟩
  obtain ⟨a0, b0⟩ := set8 h.b.a 6 (.int .i64 s)
  exact h.keep (k' := { k with seq := s }) a0 b0 (h.b.below.setCell (p := ⟨w.heap.size, 6, none⟩) (Nat.le_refl _) _) h.d h.l
theorem CB.putL (h : CB w W v0 v1 v7 k) {l : List Lf} (hl : IsLfs W u7 l) :
    ∃ X, W.setCell ⟨w.heap.size, 7, none⟩ u7 = X ∧ CB w X v0 v1 u7 { k with dirty := l } := by
  refine ⟨_, rfl, ?_⟩
  obtain ⟨a0, b0⟩ := set8 h.b.a 7 u7
  exact h.keep (k' := { k with dirty := l }) a0 b0 (h.b.below.setCell (p := ⟨w.heap.size, 7, none⟩) (Nat.le_refl _) _) h.d hl
theorem CB.fin (h : CB w W v0 v1 v7 k) :
    ∃ X, (((((((W.setCell ⟨w.heap.size + 1, 0, none⟩ v0).setCell ⟨w.heap.size + 1, 1, none⟩ v1).setCell ⟨w.heap.size + 1, 2, none⟩ (.bool k.disk.dead)).setCell ⟨w.heap.size + 1, 3, none⟩ (.int .i64 k.disk.left)).setCell ⟨w.heap.size + 1, 4, none⟩ (.int .i64 k.shape.pages)).setCell ⟨w.heap.size + 1, 5, none⟩ (.int .i64 k.shape.journal)).setCell ⟨w.heap.size + 1, 6, none⟩ (.int .i64 k.seq)).setCell ⟨w.heap.size + 1, 7, none⟩ v7 = X ∧
      IsVault X (.agg #[v0, v1, .bool k.disk.dead, .int .i64 k.disk.left, .int .i64 k.shape.pages, .int .i64 k.shape.journal, .int .i64 k.seq, v7]) k ∧ Below w.heap.size w X ∧
      X.heap[w.heap.size + 1]? = some (.cells #[v0, v1, .bool k.disk.dead, .int .i64 k.disk.left, .int .i64 k.shape.pages, .int .i64 k.shape.journal, .int .i64 k.seq, v7] 33 (0, 0)) := by
  obtain ⟨X, hX, hbX, hkX, hBX⟩ := box_store8 h.b.z v0 v1 (.bool k.disk.dead) (.int .i64 k.disk.left) (.int .i64 k.shape.pages) (.int .i64 k.shape.journal) (.int .i64 k.seq) v7
  exact ⟨X, hX, ⟨_, _, _, rfl, h.d.other h.b.z (by decide) (by decide) hkX, SL.other h.l h.b.z (by decide) hkX⟩, hBX _ _ h.b.below (by omega), hbX⟩
end

/-- A commit that is refused, or has nothing to do. -/
theorem commit_easy {k : VK} (h : k.disk.dead = true) : commitV k = (k, 12) := by unfold commitV; rw [if_pos h]
theorem commit_none {k : VK} (h : k.disk.dead = false) (h2 : k.dirty = []) : commitV k = (k, 0) := by unfold commitV; rw [if_neg (by simp [h]), if_pos h2]
theorem commit_big {k : VK} (h : k.disk.dead = false) (h2 : k.dirty ≠ []) (h3 : (k.dirty.length : Int) + 1 > k.shape.journal) : commitV k = ({ k with dirty := [] }, 8) := by unfold commitV; rw [if_neg (by simp [h]), if_neg h2, if_pos h3]
theorem commit_one {k : VK} (h : k.disk.dead = false) (h2 : k.dirty ≠ []) (h3 : ¬ (k.dirty.length : Int) + 1 > k.shape.journal) {D1 : DK} {E1 : Int} (e : wfF k.disk (logL k.seq k.dirty) = (D1, E1)) (h4 : E1 ≠ 0) : commitV k = ({ k with disk := D1 }, E1) := by
  unfold commitV; rw [if_neg (by simp [h]), if_neg h2, if_neg h3, e, if_pos h4]
theorem commit_two {k : VK} (h : k.disk.dead = false) (h2 : k.dirty ≠ []) (h3 : ¬ (k.dirty.length : Int) + 1 > k.shape.journal) {D1 D2 : DK} {E1 E2 : Int} (e : wfF k.disk (logL k.seq k.dirty) = (D1, E1)) (h4 : E1 = 0)
    (e2 : wfF D1 (homeW k.shape k.dirty) = (D2, E2)) : commitV k = if E2 ≠ 0 then ({ k with disk := D2 }, E2) else (⟨D2, k.shape, k.seq + 1, []⟩, 0) := by
  unfold commitV; rw [if_neg (by simp [h]), if_neg h2, if_neg h3, e, if_neg (by simpa using h4)]
  dsimp only
  rw [e2]

set_option maxRecDepth 100000 in
set_option maxHeartbeats 16000000 in
theorem commit_calls (v : Value) (k : VK) (w : World) {nn ii : Nat} (hv : IsVault w v k) (hp : Pl nn ii k.disk) (hnn : nn ≤ 2000) (hii : ii + 2 * k.dirty.length + 2 ≤ 2000) (hd240 : ∀ q ∈ k.dirty, q.data.length ≤ 240) (hq1 : 0 ≤ k.seq) (hq2 : k.seq ≤ 2147483647) :
    Calls Tryz.prog 27 #[v] w fun e w' => ∃ v', e = .returned (.tuple #[v', .int .i64 (commitV k).2]) ∧ IsVault w' v' (commitV k).1 ∧ Below w.heap.size w w' := by
  obtain ⟨vs, vw, vd, rfl, h1, h2⟩ := id hv
  obtain ⟨A1, n1, c1, A2, n2, c2, e1⟩ := h1.parts
  obtain ⟨rfl, rfl⟩ : vs = .slice A1 n1 c1 ∧ vw = .slice A2 n2 c2 := by
    simp only [Value.agg.injEq, Array.mk.injEq, List.cons.injEq] at e1
    exact ⟨e1.1, e1.2.1⟩
  obtain ⟨A, n, c, rfl, hn, _, hr⟩ := h2.open_
  obtain ⟨Y, hY, hB⟩ := CB.new w h1 h2
  have HY := Lib.hid hY
  have HCB := Lib.hid hB
  have HN := Lib.hid hn
  have hnm : n ≤ 1000 := by omega
  obtain ⟨i0, i1, i2, i3, i4, i5, i6, i7⟩ := hB.b.a.at_
  rcases Bool.eq_false_or_eq_true k.disk.dead with hd | hd
  · have HC := Lib.hid (commit_easy hd)
    obtain ⟨X, hX, f1, f2, f3⟩ := hB.fin
    have HX := Lib.hid hX
    have HF := Lib.hid (And.intro f1 f2)
    have HBX := Lib.hid (box8 f3)
    have HZ := Lib.hid (box8 hB.b.z)
    rw [hd] at HY i2 ⊢ HX HF HBX
    clear hY hB h1 h2 hn hr hv hp hii hd240 hX f1 f2 f3 hd e1
    go_enter Tryz.func27, Tryz.ntmps27
    go_upto_region 1 with (fail)
    rw [← HY.out]
    clear HY
    obtain ⟨⟨z0, z1, z2, z3, z4, z5, z6, z7⟩, zf⟩ := HZ.out
    go_wp2_with fail
    rw [HX.out]
    clear i0 i1 i2 i3 i4 i5 i6 i7 z0 z1 z2 z3 z4 z5 z6 z7 zf
    obtain ⟨⟨z0, z1, z2, z3, z4, z5, z6, z7⟩, _⟩ := HBX.out
    exact bodyPost_ret (v := .tuple #[.agg #[.slice A1 n1 c1, .slice A2 n2 c2, .bool true, .int .i64 k.disk.left, .int .i64 k.shape.pages, .int .i64 k.shape.journal, .int .i64 k.seq, .slice A n c], .int .i64 12]) (by simp [results, Tryz.results27, go_sem, z0, z1, z2, z3, z4, z5, z6, z7]) rfl ⟨_, by rw [HC.out], by rw [HC.out]; exact HF.out.1, HF.out.2⟩
  have HD := Lib.hid hd
  have HZ := Lib.hid (box8 hB.b.z)
  rw [hd] at HY i2 ⊢
  by_cases hn0 : n = 0
  · have HC := Lib.hid (commit_none hd (List.eq_nil_of_length_eq_zero (by omega)))
    obtain ⟨X, hX, f1, f2, f3⟩ := hB.fin
    have HX := Lib.hid hX
    have HF := Lib.hid (And.intro f1 f2)
    have HBX := Lib.hid (box8 f3)
    rw [hd] at HX HF HBX
    subst hn0
    clear hY hB h1 h2 hn hr hv hp hii hd240 hX f1 f2 f3 hd e1
    go_enter Tryz.func27, Tryz.ntmps27
    go_upto_region 1 with (fail)
    rw [← HY.out]
    clear HY
    obtain ⟨⟨z0, z1, z2, z3, z4, z5, z6, z7⟩, zf⟩ := HZ.out
    go_wp2_with fail
    rw [HX.out]
    clear i0 i1 i2 i3 i4 i5 i6 i7 z0 z1 z2 z3 z4 z5 z6 z7 zf
    obtain ⟨⟨z0, z1, z2, z3, z4, z5, z6, z7⟩, _⟩ := HBX.out
    exact bodyPost_ret (v := .tuple #[.agg #[.slice A1 n1 c1, .slice A2 n2 c2, .bool false, .int .i64 k.disk.left, .int .i64 k.shape.pages, .int .i64 k.shape.journal, .int .i64 k.seq, .slice A 0 c], .int .i64 0]) (by simp [results, Tryz.results27, go_sem, z0, z1, z2, z3, z4, z5, z6, z7]) rfl ⟨_, by rw [HC.out], by rw [HC.out]; exact HF.out.1, HF.out.2⟩
  have hne : k.dirty ≠ [] := fun e => hn0 (by rw [hn, e]; rfl)
  have hn1 : ((n : Int) == 0) = false := by simpa using hn0
  by_cases hbig : (k.dirty.length : Int) + 1 > k.shape.journal
  · have HC := Lib.hid (commit_big hd hne hbig)
    obtain ⟨X1, hX1, hB1⟩ := hB.putL (IsLfs.nil _)
    obtain ⟨X, hX, f1, f2, f3⟩ := hB1.fin
    have HX1 := Lib.hid hX1
    have HX := Lib.hid hX
    have HF := Lib.hid (And.intro f1 f2)
    have HBX := Lib.hid (box8 f3)
    have HB1 := Lib.hid hB1
    have HZ1 := Lib.hid (box8 hB1.b.z)
    have kf := hB.b.a.free
    dsimp only at HX HF HBX
    rw [hd] at HX HF HBX
    have hbg : (n : Int) + 1 > k.shape.journal := by omega
    clear hY hB h1 h2 hn hr hv hp hii hd240 hX f1 f2 f3 hd e1 hX1 hB1 HZ hbig hne
    go_enter Tryz.func27, Tryz.ntmps27
    go_upto_region 1 with (fail)
    rw [← HY.out]
    clear HY
    go_upto_region 7 with (fail)
    rw [HX1.out]
    clear i0 i1 i2 i3 i4 i5 i6 i7 kf HX1
    obtain ⟨i0, i1, i2, i3, i4, i5, i6, i7⟩ := HB1.out.b.a.at_
    dsimp only at i0 i1 i2 i3 i4 i5 i6 i7
    rw [HD.out] at i2
    obtain ⟨⟨z0, z1, z2, z3, z4, z5, z6, z7⟩, zf⟩ := HZ1.out
    go_wp2_with fail
    rw [HX.out]
    clear i0 i1 i2 i3 i4 i5 i6 i7 z0 z1 z2 z3 z4 z5 z6 z7 zf
    obtain ⟨⟨z0, z1, z2, z3, z4, z5, z6, z7⟩, _⟩ := HBX.out
    exact bodyPost_ret (v := .tuple #[.agg #[.slice A1 n1 c1, .slice A2 n2 c2, .bool false, .int .i64 k.disk.left, .int .i64 k.shape.pages, .int .i64 k.shape.journal, .int .i64 k.seq, .slice none 0 0], .int .i64 8]) (by simp [results, Tryz.results27, go_sem, z0, z1, z2, z3, z4, z5, z6, z7]) rfl ⟨_, by rw [HC.out], by rw [HC.out]; exact HF.out.1, HF.out.2⟩
  have hbg : ¬ (n : Int) + 1 > k.shape.journal := by omega
  obtain ⟨⟨D1, E1⟩, he1⟩ : ∃ r, wfF k.disk (logL k.seq k.dirty) = r := ⟨_, rfl⟩
  obtain ⟨⟨D2, E2⟩, he2⟩ : ∃ r, wfF D1 (homeW k.shape k.dirty) = r := ⟨_, rfl⟩
  have hpl1 : Pl nn (ii + (k.dirty.length + 1)) D1 := by
    have := wf_pl (l := logL k.seq k.dirty) hp
    rw [he1, log_len] at this
    exact this
  have CL := fun W (hb : Below w.heap.size w W) => logged_calls k.seq (.slice A n c) k.dirty W (h2.below hb) hd240 (by omega)
  have CP := fun W (hb : Below w.heap.size w W) => placed_calls (.slice A n c) k.shape k.dirty W (h2.below hb) hd240 (by omega)
  have CS1 : ∀ u vl W, IsDisk W u k.disk → SL W 72 2 vl (logL k.seq k.dirty).length (wetCells (logL k.seq k.dirty)) → Calls Tryz.prog 31 #[u, vl] W fun e w' => ∃ v', e = .returned (.tuple #[v', .int .i64 E1]) ∧ IsDisk w' v' D1 ∧ Below W.heap.size W w' := fun u vl W a b => by
    have := settle_calls u vl k.disk (logL k.seq k.dirty) W a hp hnn (by rw [log_len]; omega) b
    rw [he1] at this
    exact this
  have CS2 : ∀ u vl W, IsDisk W u D1 → SL W 72 2 vl (homeW k.shape k.dirty).length (wetCells (homeW k.shape k.dirty)) → Calls Tryz.prog 31 #[u, vl] W fun e w' => ∃ v', e = .returned (.tuple #[v', .int .i64 E2]) ∧ IsDisk w' v' D2 ∧ Below W.heap.size W w' := fun u vl W a b => by
    have := settle_calls u vl D1 (homeW k.shape k.dirty) W a hpl1 hnn (by simp [homeW]; omega) b
    rw [he2] at this
    exact this
  have HC1 := Lib.hid (fun h => commit_one hd hne hbig he1 h)
  have HC2 := Lib.hid (fun h => commit_two hd hne hbig he1 h he2)
  have CL := Lib.hid CL
  have CP := Lib.hid CP
  unfold shV at CP
  have CS1 := Lib.hid CS1
  have CS2 := Lib.hid CS2
  clear hY hB h1 h2 hn hr hv hp hii hd240 hd e1 hbig hne he1 he2 hpl1 HZ
  go_enter Tryz.func27, Tryz.ntmps27
  go_upto_region 1 with (fail)
  rw [← HY.out]
  clear HY
  go_upto_region 9 with (fail)
  clear i0 i1 i2 i3 i4 i5 i6 i7
  go_cut [4] from 24 to 34 (fun s4 wx => s4 = .int .i64 E1 ∧ ∃ (T1 : Option Addr) (T2 T3 : Nat) (T4 : Option Addr) (T5 T6 : Nat), CB w wx (.slice T1 T2 T3) (.slice T4 T5 T6) (.slice A n c) { k with disk := D1 })
  case first =>
    have HT := Lib.hid (HCB.out.more (Below.refl _ _).drew)
    obtain ⟨i0, i1, i2, i3, i4, i5, i6, i7⟩ := HT.out.b.a.at_
    rw [HD.out] at i2
    have kf := HT.out.b.a.free
    go_region_with (first
      | (go_at_call 60; (with_reducible refine (CL.out _ HT.out.b.below).mono ?_); rintro e wa ⟨vl, rfl, hvl, hBa⟩; (with_reducible replace HT := Lib.hid (HT.out.more hBa)); clear hBa; have HL := Lib.hid hvl; clear hvl i0 i1 i2 i3 i4 i5 i6 i7 kf; obtain ⟨i0, i1, i2, i3, i4, i5, i6, i7⟩ := HT.out.b.a.at_; rw [HD.out] at i2; have kf := HT.out.b.a.free)
      | (go_at_call 31; (with_reducible refine (CS1.out _ _ _ (by have h := HT.out.d; rw [HD.out] at h; exact h) HL.out).mono ?_); rintro e wa ⟨v', rfl, hv', hBa⟩; (with_reducible replace HT := Lib.hid (HT.out.more hBa)); clear hBa; obtain ⟨T1, T2, T3, T4, T5, T6, rfl⟩ := hv'.parts; have HV := Lib.hid hv'; clear hv' i0 i1 i2 i3 i4 i5 i6 i7 kf; obtain ⟨i0, i1, i2, i3, i4, i5, i6, i7⟩ := HT.out.b.a.at_; rw [HD.out] at i2; have kf := HT.out.b.a.free))
    all_goals
      go_wp2_with fail
      go_meet
      case rel => exact ⟨rfl, T1, T2, T3, T4, T5, T6, by obtain ⟨X, hX, hC⟩ := HT.out.putD HV.out; rw [hX]; exact hC⟩
  case rest =>
    obtain ⟨rfl, T1, T2, T3, T4, T5, T6, hcb⟩ := hcut
    have HC1B := Lib.hid hcb
    clear hcb HCB CL CS1
    obtain ⟨i0, i1, i2, i3, i4, i5, i6, i7⟩ := HC1B.out.b.a.at_
    dsimp only at i0 i1 i2 i3 i4 i5 i6 i7
    by_cases hE : E1 = 0
    rotate_left
    · have hE1 : (E1 == 0) = false := by simpa using hE
      have HC := Lib.hid (HC1.out hE)
      obtain ⟨X, hX, f1, f2, f3⟩ := HC1B.out.fin
      have HX := Lib.hid hX
      have HF := Lib.hid (And.intro f1 f2)
      have HBX := Lib.hid (box8 f3)
      obtain ⟨⟨z0, z1, z2, z3, z4, z5, z6, z7⟩, zf⟩ := box8 HC1B.out.b.z
      dsimp only at HX HF HBX
      clear hX f1 f2 f3 hE HC2 CP CS2
      go_wp2_with fail
      rw [HX.out]
      clear i0 i1 i2 i3 i4 i5 i6 i7 z0 z1 z2 z3 z4 z5 z6 z7 zf
      obtain ⟨⟨z0, z1, z2, z3, z4, z5, z6, z7⟩, _⟩ := HBX.out
      exact bodyPost_ret (v := .tuple #[.agg #[.slice T1 T2 T3, .slice T4 T5 T6, .bool D1.dead, .int .i64 D1.left, .int .i64 k.shape.pages, .int .i64 k.shape.journal, .int .i64 k.seq, .slice A n c], .int .i64 E1]) (by simp [results, Tryz.results27, go_sem, z0, z1, z2, z3, z4, z5, z6, z7]) rfl ⟨_, by rw [HC.out], by rw [HC.out]; exact HF.out.1, HF.out.2⟩
    · subst hE
      have HC2F := Lib.hid (HC2.out rfl)
      clear HC1 HC2
      go_upto_region 12 with (fail)
      clear i0 i1 i2 i3 i4 i5 i6 i7
      go_cut [4] from 40 to 50 (fun s4 wx => s4 = .int .i64 E2 ∧ ∃ (U1 : Option Addr) (U2 U3 : Nat) (U4 : Option Addr) (U5 U6 : Nat), CB w wx (.slice U1 U2 U3) (.slice U4 U5 U6) (.slice A n c) { k with disk := D2 })
      case first =>
        have HT := Lib.hid (HC1B.out.more (Below.refl _ _).drew)
        obtain ⟨i0, i1, i2, i3, i4, i5, i6, i7⟩ := HT.out.b.a.at_
        dsimp only at i0 i1 i2 i3 i4 i5 i6 i7
        have kf := HT.out.b.a.free
        go_region_with (first
          | (go_at_call 55; (with_reducible refine (CP.out _ HT.out.b.below).mono ?_); rintro e wa ⟨vl, rfl, hvl, hBa⟩; (with_reducible replace HT := Lib.hid (HT.out.more hBa)); clear hBa; have HL := Lib.hid hvl; clear hvl i0 i1 i2 i3 i4 i5 i6 i7 kf; obtain ⟨i0, i1, i2, i3, i4, i5, i6, i7⟩ := HT.out.b.a.at_; dsimp only at i0 i1 i2 i3 i4 i5 i6 i7; have kf := HT.out.b.a.free)
          | (go_at_call 31; (with_reducible refine (CS2.out _ _ _ HT.out.d HL.out).mono ?_); rintro e wa ⟨v', rfl, hv', hBa⟩; (with_reducible replace HT := Lib.hid (HT.out.more hBa)); clear hBa; obtain ⟨U1, U2, U3, U4, U5, U6, rfl⟩ := hv'.parts; have HV := Lib.hid hv'; clear hv' i0 i1 i2 i3 i4 i5 i6 i7 kf; obtain ⟨i0, i1, i2, i3, i4, i5, i6, i7⟩ := HT.out.b.a.at_; dsimp only at i0 i1 i2 i3 i4 i5 i6 i7; have kf := HT.out.b.a.free))
        all_goals
          go_wp2_with fail
          go_meet
          case rel => exact ⟨rfl, U1, U2, U3, U4, U5, U6, by obtain ⟨X, hX, hC⟩ := HT.out.putD HV.out; rw [hX]; exact hC⟩
      case rest =>
        obtain ⟨rfl, U1, U2, U3, U4, U5, U6, hcb⟩ := hcut
        have HC2B := Lib.hid hcb
        clear hcb HC1B CP CS2
        obtain ⟨i0, i1, i2, i3, i4, i5, i6, i7⟩ := HC2B.out.b.a.at_
        dsimp only at i0 i1 i2 i3 i4 i5 i6 i7
        by_cases hE : E2 = 0
        rotate_left
        · have hE1 : (E2 == 0) = false := by simpa using hE
          rw [if_pos hE] at HC2F
          obtain ⟨X, hX, f1, f2, f3⟩ := HC2B.out.fin
          have HX := Lib.hid hX
          have HF := Lib.hid (And.intro f1 f2)
          have HBX := Lib.hid (box8 f3)
          obtain ⟨⟨z0, z1, z2, z3, z4, z5, z6, z7⟩, zf⟩ := box8 HC2B.out.b.z
          dsimp only at HX HF HBX
          clear hX f1 f2 f3 hE
          go_wp2_with fail
          rw [HX.out]
          clear i0 i1 i2 i3 i4 i5 i6 i7 z0 z1 z2 z3 z4 z5 z6 z7 zf
          obtain ⟨⟨z0, z1, z2, z3, z4, z5, z6, z7⟩, _⟩ := HBX.out
          exact bodyPost_ret (v := .tuple #[.agg #[.slice U1 U2 U3, .slice U4 U5 U6, .bool D2.dead, .int .i64 D2.left, .int .i64 k.shape.pages, .int .i64 k.shape.journal, .int .i64 k.seq, .slice A n c], .int .i64 E2]) (by simp [results, Tryz.results27, go_sem, z0, z1, z2, z3, z4, z5, z6, z7]) rfl ⟨_, by rw [HC2F.out], by rw [HC2F.out]; exact HF.out.1, HF.out.2⟩
        · subst hE
          rw [if_neg (by simp)] at HC2F
          have kf := HC2B.out.b.a.free
          obtain ⟨X1, hX1, hB1⟩ := HC2B.out.putS (k.seq + 1)
          obtain ⟨X2, hX2, hB2⟩ := hB1.putL (IsLfs.nil _)
          obtain ⟨X3, hX3, f1, f2, f3⟩ := hB2.fin
          dsimp only at hX3 f1 f3
          have HX1 := Lib.hid hX1
          have HX2 := Lib.hid hX2
          have HX3 := Lib.hid hX3
          have HB1 := Lib.hid hB1
          have HB2 := Lib.hid hB2
          have HF := Lib.hid (And.intro f1 f2)
          have HBX := Lib.hid (box8 f3)
          clear hX1 hX2 hX3 f1 f2 f3 hB1 hB2
          go_upto_region 16 with (fail)
          rw [HX1.out]
          clear i0 i1 i2 i3 i4 i5 i6 i7 kf HX1
          have kf := HB1.out.b.a.free
          have i7 := HB1.out.b.a.at_.c7
          go_upto_region 17 with (fail)
          rw [HX2.out]
          clear i7 kf HX2
          obtain ⟨i0, i1, i2, i3, i4, i5, i6, i7⟩ := HB2.out.b.a.at_
          dsimp only at i0 i1 i2 i3 i4 i5 i6 i7
          obtain ⟨⟨z0, z1, z2, z3, z4, z5, z6, z7⟩, zf⟩ := box8 HB2.out.b.z
          go_wp2_with fail
          rw [HX3.out]
          clear i0 i1 i2 i3 i4 i5 i6 i7 z0 z1 z2 z3 z4 z5 z6 z7 zf
          obtain ⟨⟨z0, z1, z2, z3, z4, z5, z6, z7⟩, _⟩ := HBX.out
          exact bodyPost_ret (v := .tuple #[.agg #[.slice U1 U2 U3, .slice U4 U5 U6, .bool D2.dead, .int .i64 D2.left, .int .i64 k.shape.pages, .int .i64 k.shape.journal, .int .i64 (k.seq + 1), .slice none 0 0], .int .i64 0]) (by simp [results, Tryz.results27, go_sem, z0, z1, z2, z3, z4, z5, z6, z7]) rfl ⟨_, by rw [HC2F.out], by rw [HC2F.out]; exact HF.out.1, HF.out.2⟩

end Go.Proofs.YtnbbijpmkhdgpaaGreat.Vlt
