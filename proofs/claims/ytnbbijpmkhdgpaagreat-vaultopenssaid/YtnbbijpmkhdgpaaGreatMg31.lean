/- Contracts and plain mathematics that the statement's proof wants: no statement is proved here, nothing is assumed. -/
import Derived.Test.YtnbbijpmkhdgpaaGreatMg13
import Derived.Test.YtnbbijpmkhdgpaaGreatMg18
import Derived.Test.YtnbbijpmkhdgpaaGreatMg30
/- LDoes -/
namespace Go.Proofs.YtnbbijpmkhdgpaaGreat.Vlt
open Go.RowKit Go.Sort
open Dsk

set_option maxRecDepth 100000 in
set_option maxHeartbeats 4000000 in
theorem rarm_calls (v : Value) (d : DK) (k : Int) (w : World) (hv : IsDisk w v d) :
    Calls Tryz.prog 37 #[v, .int .i64 k] w fun e w' => ∃ v', e = .returned v' ∧ IsDisk w' v' { d with left := max k (-1) } ∧ Below w.heap.size w w' := by
  obtain ⟨X1, X2, X3, X4, X5, X6, rfl⟩ := hv.parts
  obtain ⟨Y, hY, hB⟩ := SB2.new w hv
  obtain ⟨m, hm⟩ : ∃ m, m = max k (-1) := ⟨_, rfl⟩
  rw [← hm]
  have HY := Lib.hid hY
  have HB := Lib.hid hB
  obtain ⟨⟨p0, p1, p2, p3⟩, f0, f1, f2, f3⟩ := box4 hB.dk
  obtain ⟨Z, hZ⟩ : ∃ Z, Z = Y.setCell ⟨w.heap.size, 3, none⟩ (.int .i64 m) := ⟨_, rfl⟩
  have hk : ∀ b : Nat, b ≠ w.heap.size → Z.heap[b]? = Y.heap[b]? := fun b hb => by rw [hZ]; exact Below.heap_setCell _ _ _ _ hb
  have hz : SB2 w Z (.slice X1 X2 X3) (.slice X4 X5 X6) { d with left := m } := by
    refine ⟨by rw [hZ]; exact heap_setCell_same Y w.heap.size 3 _ 28 _ hB.dk, ?_, (hk _ (show w.heap.size + 1 ≠ w.heap.size by omega)).trans hB.zr, by rw [hZ]; exact hB.below.setCell (p := ⟨w.heap.size, 3, none⟩) (Nat.le_refl _) _⟩
    obtain ⟨_, _, e, h1, h2⟩ := hB.isd
    simp only [Value.agg.injEq, Array.mk.injEq, List.cons.injEq] at e
    obtain ⟨rfl, rfl, _⟩ := e
    exact ⟨_, _, rfl, h1.other hB.dk (by decide) hk, h2.other hB.dk (by decide) hk⟩
  have HZ := Lib.hid hZ.symm
  have HQ := Lib.hid hz
  have HM := Lib.hid hm.symm
  clear hY hB hv hm hZ hk hz
  go_enter Tryz.func37, Tryz.ntmps37
  go_upto_region 1 with (fail)
  rw [← HY.out]
  clear HY
  go_upto_region 2 with (fail)
  rw [HM.out]
  rw [HZ.out]
  clear p0 p1 p2 p3 f0 f1 f2 f3 HZ
  obtain ⟨⟨p0, p1, p2, p3⟩, f0, f1, f2, f3⟩ := box4 HQ.out.dk
  obtain ⟨⟨r0, r1, r2, r3⟩, g0, g1, g2, g3⟩ := box4 HQ.out.zr
  obtain ⟨X7, e7, hb7, hk7, hB7⟩ := box_store4 HQ.out.zr (.slice X1 X2 X3) (.slice X4 X5 X6) (.bool d.dead) (.int .i64 m)
  have HX7 := Lib.hid e7
  have HB7 := Lib.hid (And.intro (HQ.out.isd.other HQ.out.zr (by decide) (by decide) hk7) (hB7 _ _ HQ.out.below (by omega)))
  obtain ⟨⟨s0, s1, s2, s3⟩, _⟩ := box4 hb7
  dsimp only at p2 p3
  clear e7 hb7 hk7 hB7
  go_wp2_with fail
  rw [HX7.out]
  exact bodyPost_ret (v := .agg #[.slice X1 X2 X3, .slice X4 X5 X6, .bool d.dead, .int .i64 m]) (by simp [results, Tryz.results37, go_sem, s0, s1, s2, s3]) rfl ⟨_, rfl, HB7.out.1, HB7.out.2⟩

/-- A vault that a deed is asked of. -/
structure VOk (k : VK) : Prop where
  pl : ∃ n i, Pl n i k.disk ∧ n ≤ 2000 ∧ i ≤ 800
  pages : k.shape.pages ≤ 512
  dirty : k.dirty.length ≤ 512
  data : ∀ q ∈ k.dirty, q.data.length ≤ 240
  rise : RiseL k.dirty
  seq0 : 0 ≤ k.seq
  seq1 : k.seq ≤ 2147483647
theorem VOk.good {k : VK} (h : VOk k) : VGood k := by
  obtain ⟨n, i, h1, h2, h3⟩ := h.pl
  exact ⟨⟨n, i, h1, h2, by omega⟩, h.pages, by have := h.dirty; omega⟩

def dataL (a : AK) : List UInt8 := a.data.data.toList
theorem dataL_is (a : AK) : strB (dataL a) = a.data := strB_of _

/-- What a deed makes of a vault; what was read; the error. -/
noncomputable def doesV (v : VK) (a : AK) : VK × List UInt8 × Int :=
  if a.kind = 0 then ((writeV v a.place (dataL a)).1, [], (writeV v a.place (dataL a)).2) else
  if a.kind = 1 then (v, readV v a.place) else
  if a.kind = 2 then ((commitV v).1, [], (commitV v).2) else
  if a.kind = 3 then ({ v with disk := { v.disk with left := max a.place (-1) } }, [], 0) else
  if a.kind = 4 then (if (openV (stD v.disk a.stay)).2.2 = 0 then (openV (stD v.disk a.stay)).1 else { v with disk := (openV (stD v.disk a.stay)).2.1 }, [], (openV (stD v.disk a.stay)).2.2) else (v, [], 0)

/-- The boxes of does: the vault's, the deed's, the answer's. -/
structure LB (w W : World) (v0 v1 v7 : Value) (k : VK) (a : AK) : Prop where
  vb : VBox W w.heap.size v0 v1 v7 k
  tb : W.heap[w.heap.size + 1]? = some (.cells #[.int .i64 a.kind, .int .i64 a.place, .string a.data, .int .u64 a.stay] 42 (0, 0))
  zb : W.heap[w.heap.size + 1 + 1]? = some (.cells #[.slice none 0 0, .slice none 0 0, .bool false, .int .i64 0, .int .i64 0, .int .i64 0, .int .i64 0, .slice none 0 0] 33 (0, 0))
  ds : IsDisk W (.agg #[v0, v1, .bool k.disk.dead, .int .i64 k.disk.left]) k.disk
  ls : IsLfs W v7 k.dirty
  below : Below w.heap.size w W
section
variable {w W W' : World} {v0 v1 v7 u0 u1 u7 : Value} {k k' : VK} {a : AK}
theorem LB.more (h : LB w W v0 v1 v7 k a) (hb : Below W.heap.size W W') : LB w W' v0 v1 v7 k a :=
  ⟨h.vb.below hb, box_kept _ h.tb hb, box_kept _ h.zb hb, h.ds.below hb, h.ls.below hb, Dsk.below_trans' h.below hb⟩
theorem LB.vault (h : LB w W v0 v1 v7 k a) : IsVault W (.agg #[v0, v1, .bool k.disk.dead, .int .i64 k.disk.left, .int .i64 k.shape.pages, .int .i64 k.shape.journal, .int .i64 k.seq, v7]) k := ⟨_, _, _, rfl, h.ds, h.ls⟩
theorem LB.new (w : World) (a : AK) (h1 : IsDisk w (.agg #[v0, v1, .bool k.disk.dead, .int .i64 k.disk.left]) k.disk) (h2 : IsLfs w v7 k.dirty) :
    ∃ Y, Y = ((w.alloc (.cells #[v0, v1, .bool k.disk.dead, .int .i64 k.disk.left, .int .i64 k.shape.pages, .int .i64 k.shape.journal, .int .i64 k.seq, v7] 33)).alloc (.cells #[.int .i64 a.kind, .int .i64 a.place, .string a.data, .int .u64 a.stay] 42)).alloc (.cells #[.slice none 0 0, .slice none 0 0, .bool false, .int .i64 0, .int .i64 0, .int .i64 0, .int .i64 0, .slice none 0 0] 33) ∧ LB w Y v0 v1 v7 k a := by
  obtain ⟨Y1, hY1⟩ : ∃ Y1, Y1 = w.alloc (.cells #[v0, v1, .bool k.disk.dead, .int .i64 k.disk.left, .int .i64 k.shape.pages, .int .i64 k.shape.journal, .int .i64 k.seq, v7] 33) := ⟨_, rfl⟩
  obtain ⟨Y2, hY2⟩ : ∃ Y2, Y2 = Y1.alloc (.cells #[.int .i64 a.kind, .int .i64 a.place, .string a.data, .int .u64 a.stay] 42) := ⟨_, rfl⟩
  obtain ⟨Y, hY⟩ : ∃ Y, Y = Y2.alloc (.cells #[.slice none 0 0, .slice none 0 0, .bool false, .int .i64 0, .int .i64 0, .int .i64 0, .int .i64 0, .slice none 0 0] 33) := ⟨_, rfl⟩
  have b1 : Below w.heap.size w Y1 := by rw [hY1]; exact below_one _ _
  have b2 : Below Y1.heap.size Y1 Y2 := by rw [hY2]; exact below_one _ _
  have b3 : Below Y2.heap.size Y2 Y := by rw [hY]; exact below_one _ _
  have s1 : Y1.heap.size = w.heap.size + 1 := by rw [hY1]; simp
  have s2 : Y2.heap.size = w.heap.size + 1 + 1 := by rw [hY2]; simp [s1]
  have hb := Dsk.below_trans' (Dsk.below_trans' b1 b2) b3
  refine ⟨Y, by rw [hY, hY2, hY1], ?_, ?_, ?_, h1.below hb, h2.below hb, hb⟩
  · exact box_kept _ (box_kept _ (by rw [hY1]; exact heap_alloc_new w _) b2) b3
  · refine box_kept _ ?_ b3
    rw [← s1, hY2]
    exact heap_alloc_new Y1 _
  · rw [← s2, hY]
    exact heap_alloc_new Y2 _
/-- Another vault is stored into the first box. -/
theorem LB.put (h : LB w W v0 v1 v7 k a) (hv : IsVault W (.agg #[u0, u1, .bool k'.disk.dead, .int .i64 k'.disk.left, .int .i64 k'.shape.pages, .int .i64 k'.shape.journal, .int .i64 k'.seq, u7]) k') :
    ∃ X, (((((((W.setCell ⟨w.heap.size, 0, none⟩ u0).setCell ⟨w.heap.size, 1, none⟩ u1).setCell ⟨w.heap.size, 2, none⟩ (.bool k'.disk.dead)).setCell ⟨w.heap.size, 3, none⟩ (.int .i64 k'.disk.left)).setCell ⟨w.heap.size, 4, none⟩ (.int .i64 k'.shape.pages)).setCell ⟨w.heap.size, 5, none⟩ (.int .i64 k'.shape.journal)).setCell ⟨w.heap.size, 6, none⟩ (.int .i64 k'.seq)).setCell ⟨w.heap.size, 7, none⟩ u7 = X ∧ LB w X u0 u1 u7 k' a := by
  obtain ⟨X, hX, hbX, hkX, hBX⟩ := box_store8 h.vb u0 u1 (.bool k'.disk.dead) (.int .i64 k'.disk.left) (.int .i64 k'.shape.pages) (.int .i64 k'.shape.journal) (.int .i64 k'.seq) u7
  obtain ⟨_, _, _, e, h1, h2⟩ := hv.other h.vb hkX
  simp only [Value.agg.injEq, Array.mk.injEq, List.cons.injEq] at e
  obtain ⟨rfl, rfl, _, _, _, _, _, rfl, _⟩ := e
  exact ⟨X, hX, hbX, (hkX _ (show w.heap.size + 1 ≠ w.heap.size by omega)).trans h.tb, (hkX _ (show w.heap.size + 1 + 1 ≠ w.heap.size by omega)).trans h.zb, h1, h2, hBX _ _ h.below (Nat.le_refl _)⟩
/-- Another disk is stored into it. -/
theorem LB.putD {e : DK} (h : LB w W v0 v1 v7 k a) (hv : IsDisk W (.agg #[u0, u1, .bool e.dead, .int .i64 e.left]) e) :
    ∃ X, (((W.setCell ⟨w.heap.size, 0, none⟩ u0).setCell ⟨w.heap.size, 1, none⟩ u1).setCell ⟨w.heap.size, 2, none⟩ (.bool e.dead)).setCell ⟨w.heap.size, 3, none⟩ (.int .i64 e.left) = X ∧ LB w X u0 u1 v7 { k with disk := e } a := by
  refine ⟨_, rfl, ?_⟩
  obtain ⟨a0, b0⟩ := set8 h.vb 0 u0
  obtain ⟨a1, b1⟩ := set8 a0 1 u1
  obtain ⟨a2, b2⟩ := set8 a1 2 (.bool e.dead)
  obtain ⟨a3, b3⟩ := set8 a2 3 (.int .i64 e.left)
  have hk : ∀ q : Nat, q ≠ w.heap.size → ((((W.setCell ⟨w.heap.size, 0, none⟩ u0).setCell ⟨w.heap.size, 1, none⟩ u1).setCell ⟨w.heap.size, 2, none⟩ (.bool e.dead)).setCell ⟨w.heap.size, 3, none⟩ (.int .i64 e.left)).heap[q]? = W.heap[q]? := fun q hq => by rw [b3 q hq, b2 q hq, b1 q hq, b0 q hq]
  exact ⟨a3, (hk _ (show w.heap.size + 1 ≠ w.heap.size by omega)).trans h.tb, (hk _ (show w.heap.size + 1 + 1 ≠ w.heap.size by omega)).trans h.zb, hv.other h.vb (by decide) (by decide) hk, SL.other h.ls h.vb (by decide) hk,
    (((h.below.setCell (p := ⟨w.heap.size, 0, none⟩) (Nat.le_refl _) _).setCell (p := ⟨w.heap.size, 1, none⟩) (Nat.le_refl _) _).setCell (p := ⟨w.heap.size, 2, none⟩) (Nat.le_refl _) _).setCell (p := ⟨w.heap.size, 3, none⟩) (Nat.le_refl _) _⟩
/-- The answer's box is stored. -/
theorem LB.fin (h : LB w W v0 v1 v7 k a) :
    ∃ X, (((((((W.setCell ⟨w.heap.size + 1 + 1, 0, none⟩ v0).setCell ⟨w.heap.size + 1 + 1, 1, none⟩ v1).setCell ⟨w.heap.size + 1 + 1, 2, none⟩ (.bool k.disk.dead)).setCell ⟨w.heap.size + 1 + 1, 3, none⟩ (.int .i64 k.disk.left)).setCell ⟨w.heap.size + 1 + 1, 4, none⟩ (.int .i64 k.shape.pages)).setCell ⟨w.heap.size + 1 + 1, 5, none⟩ (.int .i64 k.shape.journal)).setCell ⟨w.heap.size + 1 + 1, 6, none⟩ (.int .i64 k.seq)).setCell ⟨w.heap.size + 1 + 1, 7, none⟩ v7 = X ∧
      IsVault X (.agg #[v0, v1, .bool k.disk.dead, .int .i64 k.disk.left, .int .i64 k.shape.pages, .int .i64 k.shape.journal, .int .i64 k.seq, v7]) k ∧ Below w.heap.size w X ∧
      X.heap[w.heap.size + 1 + 1]? = some (.cells #[v0, v1, .bool k.disk.dead, .int .i64 k.disk.left, .int .i64 k.shape.pages, .int .i64 k.shape.journal, .int .i64 k.seq, v7] 33 (0, 0)) := by
  obtain ⟨X, hX, hbX, hkX, hBX⟩ := box_store8 h.zb v0 v1 (.bool k.disk.dead) (.int .i64 k.disk.left) (.int .i64 k.shape.pages) (.int .i64 k.shape.journal) (.int .i64 k.seq) v7
  exact ⟨X, hX, h.vault.other h.zb hkX, hBX _ _ h.below (by omega), hbX⟩
theorem LB.act (h : LB w W v0 v1 v7 k a) : W.cell? ⟨w.heap.size + 1, 0, none⟩ = some (.int .i64 a.kind) ∧ W.cell? ⟨w.heap.size + 1, 1, none⟩ = some (.int .i64 a.place) ∧ W.cell? ⟨w.heap.size + 1, 2, none⟩ = some (.string a.data) ∧ W.cell? ⟨w.heap.size + 1, 3, none⟩ = some (.int .u64 a.stay) := (box4 h.tb).1
end
/-- A vault's value, by its parts. -/
theorem vault_parts {w : World} {v : Value} {k : VK} (h : IsVault w v k) : ∃ A1 n1 c1 A2 n2 c2 A n c, v = .agg #[.slice A1 n1 c1, .slice A2 n2 c2, .bool k.disk.dead, .int .i64 k.disk.left, .int .i64 k.shape.pages, .int .i64 k.shape.journal, .int .i64 k.seq, .slice A n c] := by
  obtain ⟨vs, vw, vd, rfl, h1, h2⟩ := h
  obtain ⟨A1, n1, c1, A2, n2, c2, e1⟩ := h1.parts
  simp only [Value.agg.injEq, Array.mk.injEq, List.cons.injEq] at e1
  obtain ⟨rfl, rfl, _⟩ := e1
  obtain ⟨A, n, c, rfl, _⟩ := h2.open_
  exact ⟨A1, n1, c1, A2, n2, c2, A, n, c, rfl⟩
theorem vault_open {w : World} {v0 v1 v7 : Value} {k : VK} (h : IsVault w (.agg #[v0, v1, .bool k.disk.dead, .int .i64 k.disk.left, .int .i64 k.shape.pages, .int .i64 k.shape.journal, .int .i64 k.seq, v7]) k) :
    IsDisk w (.agg #[v0, v1, .bool k.disk.dead, .int .i64 k.disk.left]) k.disk ∧ IsLfs w v7 k.dirty := by
  obtain ⟨_, _, _, e, h1, h2⟩ := h
  simp only [Value.agg.injEq, Array.mk.injEq, List.cons.injEq] at e
  obtain ⟨rfl, rfl, _, _, _, _, _, rfl, _⟩ := e
  exact ⟨h1, h2⟩

end Go.Proofs.YtnbbijpmkhdgpaaGreat.Vlt

/- LPlain -/
namespace Go.Proofs.YtnbbijpmkhdgpaaGreat.Vlt
open Go.RowKit
open Dsk

theorem rise_len : ∀ (l : List Lf) (lo n : Int), RiseL l → (∀ x ∈ l, lo ≤ x.no ∧ x.no < n) → l.length ≤ (n - lo).toNat
  | [], lo, n, _, _ => Nat.zero_le _
  | a :: l, lo, n, h, hm => by
    unfold RiseL at h
    rw [List.pairwise_cons] at h
    have h1 := hm a (by simp)
    have := rise_len l (a.no + 1) n h.2 fun x hx => ⟨by have := h.1 x hx; omega, (hm x (by simp [hx])).2⟩
    rw [List.length_cons]
    omega
theorem Rest.ok {x : Sh} {P : Nat → List UInt8} {m : Int} {v : VK} (hx : rightS x = true) (h : Rest x P m v) (hm : m ≤ 2147483647) : VOk v := by
  obtain ⟨a, b, c, e1, e2, f⟩ := right_nat hx
  have hs := h.shape
  refine ⟨⟨_, 0, h.pl, by unfold NN; omega, by omega⟩, by rw [hs, a]; omega, ?_, fun q hq => by have := h.lok.len q hq; omega, h.rise, by have := h.seq1; omega, by have := h.low; omega⟩
  have := rise_len v.dirty 0 (PN x : Nat) h.rise fun q hq => ⟨h.lok.lo q hq, h.lok.hi q hq⟩
  omega

theorem commit_seq (v : VK) : v.seq ≤ (commitV v).1.seq ∧ (commitV v).1.seq ≤ v.seq + 1 := by
  unfold commitV
  split
  · dsimp only; omega
  split
  · dsimp only; omega
  split
  · dsimp only; omega
  split
  · dsimp only; omega
  split
  · dsimp only; omega
  · dsimp only; omega

/-- What VaultBlank knows of a vault: page k is noughts, and nobody writes it. -/
inductive BInv (x : Sh) (k : Nat) (m : Int) (v : VK) : Prop
  | live (P : Nat → List UInt8) (r : Rest x P m v) (b : P k = Ent.zer 208) (n : ∀ q ∈ v.dirty, q.no ≠ (k : Int))
  | down (P Q : Nat → List UInt8) (d : Down x P Q m v.disk) (s : v.shape = x) (b : P k = Ent.zer 208) (c : Q k = Ent.zer 208) (o : VOk v) (hm : v.seq ≤ m)

section
variable {x : Sh} {k : Nat} {m : Int} {v : VK}
theorem BInv.ok (hx : rightS x = true) (h : BInv x k m v) (hm : m ≤ 2147483647) : VOk v := by
  cases h with
  | live P r b n => exact r.ok hx hm
  | down P Q d s b c o hm => exact o
theorem ovr_none {l : List Lf} {P : Nat → List UInt8} (h : ∀ q ∈ l, q.no ≠ (k : Int)) : ovr l P k = P k := ovr_out h P
theorem blank_open {P : Nat → List UInt8} {d : DK} (hx : rightS x = true) (hp : Pl (NN x) 0 d) (hup : d.dead = false) (hl : d.left = -1) (hu : Up x P m (sureB d)) (h0 : 0 ≤ m) (hm : m < 2147483647) (b : P k = Ent.zer 208) :
    (openV d).2.2 = 0 ∧ BInv x k (m + 1) (openV d).1 ∧ (openV d).1.disk.dead = false := by
  obtain ⟨u, u1, u2, u3, u4, u5⟩ := open_is hx hp hup hl hu h0 hm
  rw [u1]
  exact ⟨rfl, .live P u2 b (by rw [u3]; simp), u2.up⟩
theorem blank_start (hx : rightS x = true) (h : BInv x k m v) (h0 : 1 ≤ m) (hm : m < 2147483647) (stay : Nat) :
    (openV (stD v.disk stay)).2.2 = 0 ∧ BInv x k (m + 1) (openV (stD v.disk stay)).1 ∧ (openV (stD v.disk stay)).1.disk.dead = false := by
  cases h with
  | live P r b n =>
    obtain ⟨a1, a2, a3, a4, _⟩ := start_rest r stay
    obtain ⟨c1, c2, c3⟩ := blank_open (k := k) hx a1 a2 a3 (a4.more (show m - 1 ≤ m by omega)) (by omega) hm b
    exact ⟨c1, c2, c3⟩
  | down P Q d s b c o hq =>
    obtain ⟨a1, a2, a3, a4⟩ := start_down d stay
    rcases a4 with a4 | a4
    · exact blank_open (k := k) hx a1 a2 a3 a4 (by omega) hm b
    · exact blank_open (k := k) hx a1 a2 a3 a4 (by omega) hm c
theorem BInv.more {m' : Int} (h : BInv x k m v) (hm : m ≤ m') : BInv x k m' v := by
  cases h with
  | live P r b n => exact .live P (r.more hm) b n
  | down P Q d s b c o hq => exact .down P Q (d.more hm) s b c o (by omega)
theorem blank_does (hx : rightS x = true) (h : BInv x k m v) (h0 : 1 ≤ m) (hm : m < 2147483647) (a : AK) (ha : a.stay < 18446744073709551616 ∧ a.place ≤ 9223372036854775807) (hk : ¬ (a.kind = 0 ∧ a.place = (k : Int))) :
    BInv x k (m + 1) (doesV v a).1 := by
  unfold doesV
  by_cases c0 : a.kind = 0
  · rw [if_pos c0]
    have hpk : a.place ≠ (k : Int) := fun e => hk ⟨c0, e⟩
    dsimp only
    cases h with
    | live P r b n =>
      rcases write_any hx r a.place (dataL a) with ⟨e, j, e1, e2, e3, e4, e5, e6, e7⟩ | ⟨e, e1⟩
      · refine .live P (e4.more (by omega)) b fun q hq => ?_
        unfold writeV at hq
        split at hq
        · exact n q hq
        split at hq
        · exact n q hq
        · rcases mem_ins hq with rfl | ⟨hq, _⟩
          · exact hpk
          · exact n q hq
      · rw [e1]; exact .live P (r.more (by omega)) b n
    | down P Q d s b c o hq =>
      obtain ⟨e1, e2⟩ := write_down (v := v) (no := a.place) (data := dataL a) d.dead
      rw [e1]
      exact (BInv.down P Q d s b c o hq).more (by omega)
  rw [if_neg c0]
  by_cases c1 : a.kind = 1
  · rw [if_pos c1]; exact h.more (by omega)
  rw [if_neg c1]
  by_cases c2 : a.kind = 2
  · rw [if_pos c2]
    dsimp only
    cases h with
    | live P r b n =>
      have hv := r.ok hx (by omega)
      rcases commit_is hx r (by omega) with ⟨a1, b1⟩ | ⟨a1, b1, c1⟩ | ⟨a1, b1, c1, d1, e1, f1⟩ | ⟨a1, b1, c1, d1, e1, f1, g1⟩
      · rw [b1]; exact .live P (r.more (by omega)) b n
      · rw [c1]; exact .live P (r.clean.more (by omega)) b (by simp)
      · exact .live _ d1 (by rw [ovr_none n]; exact b) (by rw [e1]; simp)
      · refine .down P _ (d1.more (by omega)) g1 b (by rw [ovr_none n]; exact b) ?_ (by rw [f1]; have := r.low; omega)
        obtain ⟨i, hp, hi⟩ := d1.pl
        obtain ⟨p1, p2, p3, p4, p5, p6⟩ := right_nat hx
        exact ⟨⟨_, i, hp, by unfold NN; omega, by omega⟩, by rw [g1, p1]; omega, by rw [e1]; exact hv.dirty, by rw [e1]; exact hv.data, by rw [e1]; exact hv.rise, by rw [f1]; exact hv.seq0, by rw [f1]; exact hv.seq1⟩
    | down P Q d s b c o hq =>
      rw [commit_down d.dead]
      exact (BInv.down P Q d s b c o hq).more (by omega)
  rw [if_neg c2]
  by_cases c3 : a.kind = 3
  · rw [if_pos c3]
    dsimp only
    cases h with
    | live P r b n => exact .live P ((r.armed _ (by omega) (by have := ha.2; omega)).more (by omega)) b n
    | down P Q d s b c o hq =>
      obtain ⟨n, i, o1, o2, o3⟩ := o.pl
      refine .down P Q ((d.armed (max a.place (-1)) (by omega) (by have := ha.2; omega)).more (by omega)) s b c ⟨⟨n, i, ⟨⟨o1.good.sure, o1.good.wet, by dsimp only; omega, by dsimp only; have := ha.2; omega⟩, o1.rise, o1.inn⟩, o2, o3⟩, o.pages, o.dirty, o.data, o.rise, o.seq0, o.seq1⟩ (by dsimp only; omega)
  rw [if_neg c3]
  by_cases c4 : a.kind = 4
  · rw [if_pos c4]
    obtain ⟨d1, d2, d3⟩ := blank_start hx h h0 hm a.stay
    dsimp only
    rw [if_pos d1]
    exact d2
  rw [if_neg c4]
  exact h.more (by omega)
theorem blank_read (hx : rightS x = true) (h : BInv x k m v) (hk : k < PN x) (hd : v.disk.dead = false) : readV v k = (Ent.zer 208, 0) := by
  cases h with
  | live P r b n => rw [read_rest hx r hk, ovr_none n, b]
  | down P Q d s b c o hq => rw [d.dead] at hd; cases hd
end
theorem pad_empty : padP [] = Ent.zer 208 := by unfold padP; rfl

/-- The document's examples. -/
def shape16 : Sh := ⟨16, 8⟩
theorem right16 : rightS shape16 = true := by decide
theorem write_dirty {v : VK} {no : Int} {data : List UInt8} (h1 : hasP v no) (h2 : data.length ≤ 208) (h3 : v.disk.dead = false) : (writeV v no data).1.dirty = insL ⟨no, padP data⟩ v.dirty := by
  unfold writeV
  rw [if_neg (by simp [h1, h2]), if_neg (by simp [h3])]
theorem awake_facts : ∃ v1 v2 v3 u, writeV (formatV shape16) 3 [97, 98] = (v1, 0) ∧ commitV v1 = (v2, 0) ∧ writeV v2 3 [120, 121] = (v3, 0) ∧ readV v3 3 = (padP [120, 121], 0) ∧ openV (stD v3.disk 0) = (u, u.disk, 0) ∧
    u.seq = 2 ∧ u.dirty = [] ∧ readV u 3 = (padP [97, 98], 0) ∧ readV u 4 = (padP [], 0) ∧ writeV v3 16 [] = (v3, 1) ∧ v3.seq = 2 ∧ VOk (formatV shape16) ∧ VOk v1 ∧ VOk v2 ∧ VOk v3 ∧ VOk u ∧ Pl (NN shape16) 0 v3.disk := by
  have hx := right16
  obtain ⟨x, hxe⟩ : ∃ x, x = shape16 := ⟨_, rfl⟩
  rw [← hxe] at hx ⊢
  have hpn : PN x = 16 := by rw [hxe]; decide
  have hjn : JN x = 8 := by rw [hxe]; decide
  have hpg : x.pages = 16 := by rw [hxe]; rfl
  obtain ⟨r0, d0, l0, s0⟩ := format_rest hx
  obtain ⟨F, hF⟩ : ∃ F, F = formatV x := ⟨_, rfl⟩
  rw [← hF] at r0 d0 l0 s0 ⊢
  obtain ⟨v1, hv1⟩ : ∃ v, v = (writeV F 3 [97, 98]).1 := ⟨_, rfl⟩
  have hd1 : v1.dirty = insL ⟨3, padP [97, 98]⟩ F.dirty := by rw [hv1]; exact write_dirty ⟨by omega, by rw [r0.shape, hpg]; omega⟩ (by decide) r0.up
  obtain ⟨w1, r1, s1, k1, o1⟩ := write_rest hx r0 (no := 3) (data := [97, 98]) (by omega) (by decide)
  change (writeV F 3 [97, 98]).2 = 0 at w1
  change Rest x _ 1 (writeV F 3 [97, 98]).1 at r1
  change (writeV F 3 [97, 98]).1.seq = F.seq at s1
  change (writeV F 3 [97, 98]).1.disk = F.disk at k1
  change ∀ j, ovr (writeV F 3 [97, 98]).1.dirty _ j = _ at o1
  rw [← hv1] at r1 s1 k1 o1
  have hl1 : v1.dirty.length = 1 := by rw [hd1, d0]; rfl
  have hl1' : v1.disk.left = -1 := by rw [k1]; exact l0
  obtain ⟨n12, c1⟩ := commit_left hx r1 (by omega) hl1'
  rcases commit_is hx r1 (by omega) with ⟨a, b⟩ | ⟨a, b, c⟩ | ⟨a, b, c, r2, e, f⟩ | ⟨a, b, c, _⟩
  · rw [a] at hl1; cases hl1
  · omega
  · obtain ⟨v2, hv2⟩ : ∃ v, v = (commitV v1).1 := ⟨_, rfl⟩
    rw [← hv2] at r2 e f c1
    obtain ⟨P2, hP2⟩ : ∃ P2, P2 = ovr v1.dirty (fun _ => Ent.zer 208) := ⟨_, rfl⟩
    rw [← hP2] at r2
    obtain ⟨v3, hv3⟩ : ∃ v, v = (writeV v2 3 [120, 121]).1 := ⟨_, rfl⟩
    obtain ⟨w3, r3, s3, k3, o3⟩ := write_rest hx r2 (no := 3) (data := [120, 121]) (by omega) (by decide)
    change (writeV v2 3 [120, 121]).2 = 0 at w3
    change Rest x _ _ (writeV v2 3 [120, 121]).1 at r3
    change (writeV v2 3 [120, 121]).1.seq = v2.seq at s3
    change (writeV v2 3 [120, 121]).1.disk = v2.disk at k3
    change ∀ j, ovr (writeV v2 3 [120, 121]).1.dirty _ j = _ at o3
    rw [← hv3] at r3 s3 k3 o3
    have hs3 : v3.seq = 2 := by rw [s3, f, s1, s0]; rfl
    obtain ⟨a1, a2, a3, a4, a5⟩ := start_rest r3 0
    obtain ⟨u, u1, u2, u3, u4, u5⟩ := open_is hx a1 a2 a3 a4 (by omega) (by omega)
    have hus : u.seq = 2 := by
      rw [u5, ← hs3, r3.seq]
      have : jS (sureB (stD v3.disk 0)) = jS (sureB v3.disk) := by funext q; unfold jS; rw [a5]
      rw [this]
    have e3 := read_rest hx r3 (no := 3) (by omega)
    have e4 := read_rest hx u2 (no := 3) (by omega)
    have e5 := read_rest hx u2 (no := 4) (by omega)
    rw [o3, if_pos rfl] at e3
    rw [u3, ovr_nil, hP2, o1, if_pos rfl] at e4
    rw [u3, ovr_nil, hP2, o1, if_neg (by omega), d0, ovr_nil] at e5
    refine ⟨v1, v2, v3, u, Prod.ext hv1.symm w1, Prod.ext hv2.symm c, Prod.ext hv3.symm w3, e3, u1, hus, u3, e4, by rw [pad_empty]; exact e5, ?_, hs3, r0.ok hx (by omega), r1.ok hx (by omega), r2.ok hx (by omega), r3.ok hx (by omega), u2.ok hx (by omega), r3.pl⟩
    exact write_no fun h => by have := h.1.2; rw [r3.shape, hpg] at this; omega
  · exact absurd c n12
theorem open_blank : (openV ⟨[], [], false, -1⟩).2.2 = 14 := by
  unfold openV
  have h0 : rdE ⟨[], [], false, -1⟩ 0 = 1 := rfl
  rw [if_neg (by rw [h0]; decide), if_pos]
  intro h
  have hs : isS (headS ⟨[], [], false, -1⟩) = false := by
    have : headS ⟨[], [], false, -1⟩ = [] := rfl
    rw [this]
    decide
  rw [hs] at h
  cases h.1

end Go.Proofs.YtnbbijpmkhdgpaaGreat.Vlt

/- LDoes2 -/
namespace Go.Proofs.YtnbbijpmkhdgpaaGreat.Vlt
open Go.RowKit Go.Sort
open Dsk

set_option maxRecDepth 100000 in
set_option maxHeartbeats 16000000 in
theorem does_calls (v : Value) (k : VK) (a : AK) (w : World) (hv : IsVault w v k) (hk : VOk k) (ha : a.stay < 18446744073709551616 ∧ a.place ≤ 9223372036854775807) :
    Calls Tryz.prog 14 #[v, a.v] w fun e w' => ∃ v', e = .returned (.tuple #[v', .string (strB (doesV k a).2.1), .int .i64 (doesV k a).2.2]) ∧ IsVault w' v' (doesV k a).1 ∧ Below w.heap.size w w' := by
  obtain ⟨nn, ii, hpl, hnn, hii⟩ := hk.pl
  obtain ⟨A1, A2, A3, A4, A5, A6, A7, A8, A9, rfl⟩ := vault_parts hv
  obtain ⟨h1, h2⟩ := vault_open hv
  obtain ⟨Y, hY, hB⟩ := LB.new w a h1 h2
  have HY := Lib.hid hY
  have HT := Lib.hid hB
  have HPL := Lib.hid hpl
  have HNN := Lib.hid hnn
  have HII := Lib.hid hii
  have HK := Lib.hid hk
  have HA := Lib.hid ha
  unfold AK.v
  have hdl := dataL_is a
  obtain ⟨L, hL⟩ : ∃ L, L = dataL a := ⟨_, rfl⟩
  rw [← hL] at hdl
  have HL := Lib.hid hL
  obtain ⟨kind, place, data, stay⟩ := a
  dsimp only at hdl
  subst hdl
  dsimp only at HY ⊢
  clear hY hB h1 h2 hv hk ha hpl hnn hii hL
  by_cases c0 : kind = 0
  · subst c0
    obtain ⟨K, hK⟩ : ∃ K, K = (writeV k place L).1 := ⟨_, rfl⟩
    obtain ⟨E, hE⟩ : ∃ E, E = (writeV k place L).2 := ⟨_, rfl⟩
    have HO : Hid (doesV k ⟨0, place, strB L, stay⟩ = (K, [], E)) := Lib.hid (by unfold doesV; rw [if_pos rfl, show dataL ⟨0, place, strB L, stay⟩ = L from strB_data L, ← hK, ← hE])
    have CW := Lib.hid (fun v W (h : IsVault W v k) => write_calls v k place L W h HK.out.good HK.out.rise)
    rw [← hK, ← hE] at CW
    clear hK hE HK HL HA HPL HNN HII
    go_enter Tryz.func14, Tryz.ntmps14
    go_upto_region 1 with (fail)
    rw [← HY.out]
    clear HY
    obtain ⟨i0, i1, i2, i3, i4, i5, i6, i7⟩ := HT.out.vb.at_
    obtain ⟨t0, t1, t2, t3⟩ := HT.out.act
    dsimp only at t0 t1 t2 t3
    go_wp2_with fail
    (with_reducible refine (CW.out _ _ HT.out.vault).mono ?_)
    rintro e wa ⟨u, rfl, hu, hBa⟩
    obtain ⟨U1, U2, U3, U4, U5, U6, U7, U8, U9, rfl⟩ := vault_parts hu
    have HV := Lib.hid hu
    have HTA := Lib.hid (HT.out.more hBa)
    clear hu hBa HT
    have HT := Lib.hid HTA.out
    clear HTA i0 i1 i2 i3 i4 i5 i6 i7 t0 t1 t2 t3
    obtain ⟨i0, i1, i2, i3, i4, i5, i6, i7⟩ := HT.out.vb.at_
    obtain ⟨t0, t1, t2, t3⟩ := HT.out.act
    dsimp only at t0 t1 t2 t3
    have kf := HT.out.vb.free
    obtain ⟨X1, hX1, hl1⟩ := HT.out.put HV.out
    have HX1 := Lib.hid hX1
    have HT1 := Lib.hid hl1
    clear hX1 hl1
    go_upto_region 17 with (fail)
    rw [HX1.out]
    clear i0 i1 i2 i3 i4 i5 i6 i7 t0 t1 t2 t3 kf HX1 HT HV
    have HT := Lib.hid HT1.out
    clear HT1
    obtain ⟨i0, i1, i2, i3, i4, i5, i6, i7⟩ := HT.out.vb.at_
    obtain ⟨X, hX, f1, f2, f3⟩ := HT.out.fin
    obtain ⟨⟨z0, z1, z2, z3, z4, z5, z6, z7⟩, zf⟩ := box8 HT.out.zb
    have HX := Lib.hid hX
    have HF := Lib.hid (And.intro f1 f2)
    have HBX := Lib.hid (box8 f3)
    (try dsimp only at i0 i1 i2 i3 i4 i5 i6 i7)
    (try dsimp only at HX HF HBX)
    clear hX f1 f2 f3
    go_wp2_with fail
    rw [HX.out]
    clear i0 i1 i2 i3 i4 i5 i6 i7 z0 z1 z2 z3 z4 z5 z6 z7 zf
    obtain ⟨⟨z0, z1, z2, z3, z4, z5, z6, z7⟩, _⟩ := HBX.out
    exact bodyPost_ret (v := .tuple #[.agg #[.slice U1 U2 U3, .slice U4 U5 U6, .bool K.disk.dead, .int .i64 K.disk.left, .int .i64 K.shape.pages, .int .i64 K.shape.journal, .int .i64 K.seq, .slice U7 U8 U9], .string ⟨#[]⟩, .int .i64 E]) (by simp [results, Tryz.results14, go_sem, z0, z1, z2, z3, z4, z5, z6, z7]) rfl ⟨_, by first | (rw [HO.out]; done) | (rw [HO.out]; rfl), by rw [HO.out]; exact HF.out.1, HF.out.2⟩
  by_cases c1 : kind = 1
  · subst c1
    obtain ⟨S, hS⟩ : ∃ S, S = (readV k place).1 := ⟨_, rfl⟩
    obtain ⟨E, hE⟩ : ∃ E, E = (readV k place).2 := ⟨_, rfl⟩
    have HO : Hid (doesV k ⟨1, place, strB L, stay⟩ = (k, S, E)) := Lib.hid (by unfold doesV; rw [if_neg (by simp), if_pos rfl, hS, hE])
    have CW := Lib.hid (fun v W (h : IsVault W v k) => read_calls v k place W h HK.out.good HK.out.rise)
    rw [← hS, ← hE] at CW
    clear hS hE HK HL HA HPL HNN HII c0
    go_enter Tryz.func14, Tryz.ntmps14
    go_upto_region 1 with (fail)
    rw [← HY.out]
    clear HY
    obtain ⟨i0, i1, i2, i3, i4, i5, i6, i7⟩ := HT.out.vb.at_
    obtain ⟨t0, t1, t2, t3⟩ := HT.out.act
    dsimp only at t0 t1 t2 t3
    go_wp2_with fail
    (with_reducible refine (CW.out _ _ HT.out.vault).mono ?_)
    rintro e wa ⟨rfl, hBa⟩
    have HTA := Lib.hid (HT.out.more hBa)
    clear hBa HT
    have HT := Lib.hid HTA.out
    clear HTA i0 i1 i2 i3 i4 i5 i6 i7 t0 t1 t2 t3
    obtain ⟨i0, i1, i2, i3, i4, i5, i6, i7⟩ := HT.out.vb.at_
    obtain ⟨t0, t1, t2, t3⟩ := HT.out.act
    dsimp only at t0 t1 t2 t3
    obtain ⟨X, hX, f1, f2, f3⟩ := HT.out.fin
    obtain ⟨⟨z0, z1, z2, z3, z4, z5, z6, z7⟩, zf⟩ := box8 HT.out.zb
    have HX := Lib.hid hX
    have HF := Lib.hid (And.intro f1 f2)
    have HBX := Lib.hid (box8 f3)
    (try dsimp only at i0 i1 i2 i3 i4 i5 i6 i7)
    (try dsimp only at HX HF HBX)
    clear hX f1 f2 f3
    go_wp2_with fail
    rw [HX.out]
    clear i0 i1 i2 i3 i4 i5 i6 i7 z0 z1 z2 z3 z4 z5 z6 z7 zf
    obtain ⟨⟨z0, z1, z2, z3, z4, z5, z6, z7⟩, _⟩ := HBX.out
    exact bodyPost_ret (v := .tuple #[.agg #[.slice A1 A2 A3, .slice A4 A5 A6, .bool k.disk.dead, .int .i64 k.disk.left, .int .i64 k.shape.pages, .int .i64 k.shape.journal, .int .i64 k.seq, .slice A7 A8 A9], .string (strB S), .int .i64 E]) (by simp [results, Tryz.results14, go_sem, z0, z1, z2, z3, z4, z5, z6, z7]) rfl ⟨_, by first | (rw [HO.out]; done) | (rw [HO.out]; rfl), by rw [HO.out]; exact HF.out.1, HF.out.2⟩
  by_cases c2 : kind = 2
  · subst c2
    obtain ⟨K, hK⟩ : ∃ K, K = (commitV k).1 := ⟨_, rfl⟩
    obtain ⟨E, hE⟩ : ∃ E, E = (commitV k).2 := ⟨_, rfl⟩
    have HO : Hid (doesV k ⟨2, place, strB L, stay⟩ = (K, [], E)) := Lib.hid (by unfold doesV; rw [if_neg (by simp), if_neg (by simp), if_pos rfl, hK, hE])
    have CW := Lib.hid (fun v W (h : IsVault W v k) => commit_calls v k W h HPL.out HNN.out (by have := HII.out; have := HK.out.dirty; omega) HK.out.data HK.out.seq0 HK.out.seq1)
    rw [← hK, ← hE] at CW
    clear hK hE HK HL HA HPL HNN HII c0 c1
    go_enter Tryz.func14, Tryz.ntmps14
    go_upto_region 1 with (fail)
    rw [← HY.out]
    clear HY
    obtain ⟨i0, i1, i2, i3, i4, i5, i6, i7⟩ := HT.out.vb.at_
    obtain ⟨t0, t1, t2, t3⟩ := HT.out.act
    dsimp only at t0 t1 t2 t3
    go_wp2_with fail
    (with_reducible refine (CW.out _ _ HT.out.vault).mono ?_)
    rintro e wa ⟨u, rfl, hu, hBa⟩
    obtain ⟨U1, U2, U3, U4, U5, U6, U7, U8, U9, rfl⟩ := vault_parts hu
    have HV := Lib.hid hu
    have HTA := Lib.hid (HT.out.more hBa)
    clear hu hBa HT
    have HT := Lib.hid HTA.out
    clear HTA i0 i1 i2 i3 i4 i5 i6 i7 t0 t1 t2 t3
    obtain ⟨i0, i1, i2, i3, i4, i5, i6, i7⟩ := HT.out.vb.at_
    obtain ⟨t0, t1, t2, t3⟩ := HT.out.act
    dsimp only at t0 t1 t2 t3
    have kf := HT.out.vb.free
    obtain ⟨X1, hX1, hl1⟩ := HT.out.put HV.out
    have HX1 := Lib.hid hX1
    have HT1 := Lib.hid hl1
    clear hX1 hl1
    go_upto_region 17 with (fail)
    rw [HX1.out]
    clear i0 i1 i2 i3 i4 i5 i6 i7 t0 t1 t2 t3 kf HX1 HT HV
    have HT := Lib.hid HT1.out
    clear HT1
    obtain ⟨i0, i1, i2, i3, i4, i5, i6, i7⟩ := HT.out.vb.at_
    obtain ⟨X, hX, f1, f2, f3⟩ := HT.out.fin
    obtain ⟨⟨z0, z1, z2, z3, z4, z5, z6, z7⟩, zf⟩ := box8 HT.out.zb
    have HX := Lib.hid hX
    have HF := Lib.hid (And.intro f1 f2)
    have HBX := Lib.hid (box8 f3)
    (try dsimp only at i0 i1 i2 i3 i4 i5 i6 i7)
    (try dsimp only at HX HF HBX)
    clear hX f1 f2 f3
    go_wp2_with fail
    rw [HX.out]
    clear i0 i1 i2 i3 i4 i5 i6 i7 z0 z1 z2 z3 z4 z5 z6 z7 zf
    obtain ⟨⟨z0, z1, z2, z3, z4, z5, z6, z7⟩, _⟩ := HBX.out
    exact bodyPost_ret (v := .tuple #[.agg #[.slice U1 U2 U3, .slice U4 U5 U6, .bool K.disk.dead, .int .i64 K.disk.left, .int .i64 K.shape.pages, .int .i64 K.shape.journal, .int .i64 K.seq, .slice U7 U8 U9], .string ⟨#[]⟩, .int .i64 E]) (by simp [results, Tryz.results14, go_sem, z0, z1, z2, z3, z4, z5, z6, z7]) rfl ⟨_, by first | (rw [HO.out]; done) | (rw [HO.out]; rfl), by rw [HO.out]; exact HF.out.1, HF.out.2⟩
  by_cases c3 : kind = 3
  · subst c3
    obtain ⟨D, hD⟩ : ∃ D, D = ({ k.disk with left := max place (-1) } : DK) := ⟨_, rfl⟩
    have HO : Hid (doesV k ⟨3, place, strB L, stay⟩ = ({ k with disk := D }, [], 0)) := Lib.hid (by unfold doesV; rw [if_neg (by simp), if_neg (by simp), if_neg (by simp), if_pos rfl, hD])
    have CW := Lib.hid (fun v W (h : IsDisk W v k.disk) => rarm_calls v k.disk place W h)
    rw [← hD] at CW
    clear hD HK HL HA HPL HNN HII c0 c1 c2
    go_enter Tryz.func14, Tryz.ntmps14
    go_upto_region 1 with (fail)
    rw [← HY.out]
    clear HY
    obtain ⟨i0, i1, i2, i3, i4, i5, i6, i7⟩ := HT.out.vb.at_
    obtain ⟨t0, t1, t2, t3⟩ := HT.out.act
    dsimp only at t0 t1 t2 t3
    go_wp2_with fail
    (with_reducible refine (CW.out _ _ HT.out.ds).mono ?_)
    rintro e wa ⟨u, rfl, hu, hBa⟩
    obtain ⟨U1, U2, U3, U4, U5, U6, rfl⟩ := hu.parts
    have HV := Lib.hid hu
    have HTA := Lib.hid (HT.out.more hBa)
    clear hu hBa HT
    have HT := Lib.hid HTA.out
    clear HTA i0 i1 i2 i3 i4 i5 i6 i7 t0 t1 t2 t3
    obtain ⟨i0, i1, i2, i3, i4, i5, i6, i7⟩ := HT.out.vb.at_
    obtain ⟨t0, t1, t2, t3⟩ := HT.out.act
    dsimp only at t0 t1 t2 t3
    have kf := HT.out.vb.free
    obtain ⟨X1, hX1, hl1⟩ := HT.out.putD HV.out
    have HX1 := Lib.hid hX1
    have HT1 := Lib.hid hl1
    clear hX1 hl1
    go_upto_region 17 with (fail)
    rw [HX1.out]
    clear i0 i1 i2 i3 i4 i5 i6 i7 t0 t1 t2 t3 kf HX1 HT HV
    have HT := Lib.hid HT1.out
    clear HT1
    obtain ⟨i0, i1, i2, i3, i4, i5, i6, i7⟩ := HT.out.vb.at_
    obtain ⟨X, hX, f1, f2, f3⟩ := HT.out.fin
    obtain ⟨⟨z0, z1, z2, z3, z4, z5, z6, z7⟩, zf⟩ := box8 HT.out.zb
    have HX := Lib.hid hX
    have HF := Lib.hid (And.intro f1 f2)
    have HBX := Lib.hid (box8 f3)
    (try dsimp only at i0 i1 i2 i3 i4 i5 i6 i7)
    (try dsimp only at HX HF HBX)
    clear hX f1 f2 f3
    go_wp2_with fail
    rw [HX.out]
    clear i0 i1 i2 i3 i4 i5 i6 i7 z0 z1 z2 z3 z4 z5 z6 z7 zf
    obtain ⟨⟨z0, z1, z2, z3, z4, z5, z6, z7⟩, _⟩ := HBX.out
    exact bodyPost_ret (v := .tuple #[.agg #[.slice U1 U2 U3, .slice U4 U5 U6, .bool D.dead, .int .i64 D.left, .int .i64 k.shape.pages, .int .i64 k.shape.journal, .int .i64 k.seq, .slice A7 A8 A9], .string ⟨#[]⟩, .int .i64 0]) (by simp [results, Tryz.results14, go_sem, z0, z1, z2, z3, z4, z5, z6, z7]) rfl ⟨_, by first | (rw [HO.out]; done) | (rw [HO.out]; rfl), by rw [HO.out]; exact HF.out.1, HF.out.2⟩
  by_cases c4 : kind = 4
  · subst c4
    obtain ⟨D, hD⟩ : ∃ D, D = stD k.disk stay := ⟨_, rfl⟩
    have hpd : Pl nn 0 D := by rw [hD]; exact stD_pl HPL.out stay
    obtain ⟨K, hK⟩ : ∃ K, K = (openV D).1 := ⟨_, rfl⟩
    obtain ⟨F, hF⟩ : ∃ F, F = (openV D).2.1 := ⟨_, rfl⟩
    obtain ⟨E, hE⟩ : ∃ E, E = (openV D).2.2 := ⟨_, rfl⟩
    have HO : Hid (doesV k ⟨4, place, strB L, stay⟩ = (if E = 0 then K else { k with disk := F }, [], E)) := Lib.hid (by unfold doesV; rw [if_neg (by simp), if_neg (by simp), if_neg (by simp), if_neg (by simp), if_pos rfl, hK, hF, hE, hD])
    have CT := Lib.hid (fun v W (h : IsDisk W v k.disk) => rstart_calls v k.disk stay W h (HPL.out.ok HNN.out (by have := HII.out; omega)) HPL.out.inn HA.out.1)
    have CO := Lib.hid (fun v W (h : IsDisk W v D) => open_calls v D W h hpd HNN.out)
    rw [← hK, ← hF, ← hE] at CO
    rw [show (⟨settleF stay k.disk.wet k.disk.sure, [], false, -1⟩ : DK) = D from hD.symm] at CT
    clear hK hF hE hD hpd HK HL HA HPL HNN HII c0 c1 c2 c3
    go_enter Tryz.func14, Tryz.ntmps14
    go_upto_region 1 with (fail)
    rw [← HY.out]
    clear HY
    obtain ⟨i0, i1, i2, i3, i4, i5, i6, i7⟩ := HT.out.vb.at_
    obtain ⟨t0, t1, t2, t3⟩ := HT.out.act
    dsimp only at t0 t1 t2 t3
    go_wp2_with fail
    (with_reducible refine (CT.out _ _ HT.out.ds).mono ?_)
    rintro e wa ⟨u, rfl, hu, hBa⟩
    have HU := Lib.hid hu
    have HTA := Lib.hid (HT.out.more hBa)
    clear hu hBa HT i0 i1 i2 i3 i4 i5 i6 i7 t0 t1 t2 t3
    have HT := Lib.hid HTA.out
    clear HTA
    go_wp2_with fail
    (with_reducible refine (CO.out _ _ HU.out).mono ?_)
    rintro e wb ⟨u1, u2, rfl, hu1, hu2, hBb⟩
    obtain ⟨U1, U2, U3, U4, U5, U6, U7, U8, U9, rfl⟩ := vault_parts hu1
    obtain ⟨F1, F2, F3, F4, F5, F6, rfl⟩ := hu2.parts
    obtain ⟨Z1, hZ1⟩ : ∃ Z1, Z1 = wb.alloc (.cells #[.slice U1 U2 U3, .slice U4 U5 U6, .bool K.disk.dead, .int .i64 K.disk.left, .int .i64 K.shape.pages, .int .i64 K.shape.journal, .int .i64 K.seq, .slice U7 U8 U9] 33) := ⟨_, rfl⟩
    obtain ⟨Z2, hZ2⟩ : ∃ Z2, Z2 = Z1.alloc (.cells #[.slice F1 F2 F3, .slice F4 F5 F6, .bool F.dead, .int .i64 F.left] 28) := ⟨_, rfl⟩
    have b1 : Below wb.heap.size wb Z1 := by rw [hZ1]; exact below_one _ _
    have b2 : Below Z1.heap.size Z1 Z2 := by rw [hZ2]; exact below_one _ _
    have hs1 : Z1.heap.size = wb.heap.size + 1 := by rw [hZ1]; simp
    have hbb := Dsk.below_trans' b1 b2
    have hbx : VBox Z2 wb.heap.size (.slice U1 U2 U3) (.slice U4 U5 U6) (.slice U7 U8 U9) K := by
      refine VBox.below ?_ b2
      rw [hZ1]
      exact VBox.new wb _ _ _ K
    have hdx : Z2.heap[wb.heap.size + 1]? = some (.cells #[.slice F1 F2 F3, .slice F4 F5 F6, .bool F.dead, .int .i64 F.left] 28 (0, 0)) := by
      rw [← hs1, hZ2]
      exact heap_alloc_new Z1 _
    have HVB := Lib.hid hbx
    have HDB := Lib.hid hdx
    have HV1 := Lib.hid (hu1.below hbb)
    have HV2 := Lib.hid (hu2.below hbb)
    have HTA := Lib.hid ((HT.out.more hBb).more hbb)
    have HZ1 := Lib.hid hZ1
    have HZ2 := Lib.hid hZ2
    have HS1 := Lib.hid hs1
    obtain ⟨G, hG⟩ : ∃ G, G = wb.heap.size := ⟨_, rfl⟩
    rw [← hG] at HVB HDB HS1
    have HG := Lib.hid hG.symm
    clear hu1 hu2 hBb hZ1 hZ2 b1 b2 hs1 hbb hbx hdx hG HT HU
    have HT := Lib.hid HTA.out
    clear HTA
    go_upto_region 13 with (fail)
    first | rw [← HZ1.out, ← HZ2.out] | skip
    (try rw [HG.out])
    (try rw [HS1.out])
    obtain ⟨j0, j1, j2, j3, j4, j5, j6, j7⟩ := HVB.out.at_
    obtain ⟨⟨y0, y1, y2, y3⟩, _⟩ := box4 HDB.out
    obtain ⟨i0, i1, i2, i3, i4, i5, i6, i7⟩ := HT.out.vb.at_
    obtain ⟨t0, t1, t2, t3⟩ := HT.out.act
    dsimp only at t0 t1 t2 t3
    have kf := HT.out.vb.free
    by_cases hE0 : E = 0
    · subst hE0
      rw [if_pos rfl] at HO
      obtain ⟨X1, hX1, hl1⟩ := HT.out.put HV1.out
      have HX1 := Lib.hid hX1
      have HT1 := Lib.hid hl1
      clear hX1 hl1
      go_upto_region 17 with (fail)
      rw [HX1.out]
      clear i0 i1 i2 i3 i4 i5 i6 i7 t0 t1 t2 t3 kf HX1 HT j0 j1 j2 j3 j4 j5 j6 j7 y0 y1 y2 y3
      have HT := Lib.hid HT1.out
      clear HT1
      obtain ⟨i0, i1, i2, i3, i4, i5, i6, i7⟩ := HT.out.vb.at_
      obtain ⟨X, hX, f1, f2, f3⟩ := HT.out.fin
      obtain ⟨⟨z0, z1, z2, z3, z4, z5, z6, z7⟩, zf⟩ := box8 HT.out.zb
      have HX := Lib.hid hX
      have HF := Lib.hid (And.intro f1 f2)
      have HBX := Lib.hid (box8 f3)
      (try dsimp only at i0 i1 i2 i3 i4 i5 i6 i7)
      (try dsimp only at HX HF HBX)
      clear hX f1 f2 f3
      go_wp2_with fail
      rw [HX.out]
      clear i0 i1 i2 i3 i4 i5 i6 i7 z0 z1 z2 z3 z4 z5 z6 z7 zf
      obtain ⟨⟨z0, z1, z2, z3, z4, z5, z6, z7⟩, _⟩ := HBX.out
      exact bodyPost_ret (v := .tuple #[.agg #[.slice U1 U2 U3, .slice U4 U5 U6, .bool K.disk.dead, .int .i64 K.disk.left, .int .i64 K.shape.pages, .int .i64 K.shape.journal, .int .i64 K.seq, .slice U7 U8 U9], .string ⟨#[]⟩, .int .i64 0]) (by simp [results, Tryz.results14, go_sem, z0, z1, z2, z3, z4, z5, z6, z7]) rfl ⟨_, by first | (rw [HO.out]; done) | (rw [HO.out]; rfl), by rw [HO.out]; exact HF.out.1, HF.out.2⟩
    · have hEb : (E == 0) = false := by simpa using hE0
      rw [if_neg hE0] at HO
      obtain ⟨X1, hX1, hl1⟩ := HT.out.putD HV2.out
      have HX1 := Lib.hid hX1
      have HT1 := Lib.hid hl1
      clear hX1 hl1 hE0
      go_upto_region 17 with (fail)
      rw [HX1.out]
      clear i0 i1 i2 i3 i4 i5 i6 i7 t0 t1 t2 t3 kf HX1 HT j0 j1 j2 j3 j4 j5 j6 j7 y0 y1 y2 y3
      have HT := Lib.hid HT1.out
      clear HT1
      obtain ⟨i0, i1, i2, i3, i4, i5, i6, i7⟩ := HT.out.vb.at_
      obtain ⟨X, hX, f1, f2, f3⟩ := HT.out.fin
      obtain ⟨⟨z0, z1, z2, z3, z4, z5, z6, z7⟩, zf⟩ := box8 HT.out.zb
      have HX := Lib.hid hX
      have HF := Lib.hid (And.intro f1 f2)
      have HBX := Lib.hid (box8 f3)
      (try dsimp only at i0 i1 i2 i3 i4 i5 i6 i7)
      (try dsimp only at HX HF HBX)
      clear hX f1 f2 f3
      go_wp2_with fail
      rw [HX.out]
      clear i0 i1 i2 i3 i4 i5 i6 i7 z0 z1 z2 z3 z4 z5 z6 z7 zf
      obtain ⟨⟨z0, z1, z2, z3, z4, z5, z6, z7⟩, _⟩ := HBX.out
      exact bodyPost_ret (v := .tuple #[.agg #[.slice F1 F2 F3, .slice F4 F5 F6, .bool F.dead, .int .i64 F.left, .int .i64 k.shape.pages, .int .i64 k.shape.journal, .int .i64 k.seq, .slice A7 A8 A9], .string ⟨#[]⟩, .int .i64 E]) (by simp [results, Tryz.results14, go_sem, z0, z1, z2, z3, z4, z5, z6, z7]) rfl ⟨_, by first | (rw [HO.out]; done) | (rw [HO.out]; rfl), by rw [HO.out]; exact HF.out.1, HF.out.2⟩
  · have HO : Hid (doesV k ⟨kind, place, strB L, stay⟩ = (k, [], 0)) := Lib.hid (by unfold doesV; rw [if_neg c0, if_neg c1, if_neg c2, if_neg c3, if_neg c4])
    have b0 : (kind == 0) = false := by simpa using c0
    have b1 : (kind == 1) = false := by simpa using c1
    have b2 : (kind == 2) = false := by simpa using c2
    have b3 : (kind == 3) = false := by simpa using c3
    have b4 : (kind == 4) = false := by simpa using c4
    clear HK HL HA HPL HNN HII
    go_enter Tryz.func14, Tryz.ntmps14
    go_upto_region 1 with (fail)
    rw [← HY.out]
    clear HY
    obtain ⟨i0, i1, i2, i3, i4, i5, i6, i7⟩ := HT.out.vb.at_
    obtain ⟨t0, t1, t2, t3⟩ := HT.out.act
    dsimp only at t0 t1 t2 t3
    obtain ⟨X, hX, f1, f2, f3⟩ := HT.out.fin
    obtain ⟨⟨z0, z1, z2, z3, z4, z5, z6, z7⟩, zf⟩ := box8 HT.out.zb
    have HX := Lib.hid hX
    have HF := Lib.hid (And.intro f1 f2)
    have HBX := Lib.hid (box8 f3)
    (try dsimp only at i0 i1 i2 i3 i4 i5 i6 i7)
    (try dsimp only at HX HF HBX)
    clear hX f1 f2 f3
    go_wp2_with fail
    rw [HX.out]
    clear i0 i1 i2 i3 i4 i5 i6 i7 z0 z1 z2 z3 z4 z5 z6 z7 zf
    obtain ⟨⟨z0, z1, z2, z3, z4, z5, z6, z7⟩, _⟩ := HBX.out
    exact bodyPost_ret (v := .tuple #[.agg #[.slice A1 A2 A3, .slice A4 A5 A6, .bool k.disk.dead, .int .i64 k.disk.left, .int .i64 k.shape.pages, .int .i64 k.shape.journal, .int .i64 k.seq, .slice A7 A8 A9], .string ⟨#[]⟩, .int .i64 0]) (by simp [results, Tryz.results14, go_sem, z0, z1, z2, z3, z4, z5, z6, z7]) rfl ⟨_, by first | (rw [HO.out]; done) | (rw [HO.out]; rfl), by rw [HO.out]; exact HF.out.1, HF.out.2⟩

end Go.Proofs.YtnbbijpmkhdgpaaGreat.Vlt
