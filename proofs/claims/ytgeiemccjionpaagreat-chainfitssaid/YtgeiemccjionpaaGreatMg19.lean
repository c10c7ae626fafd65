/- Contracts and plain mathematics that the statement's proof wants: no statement is proved here, nothing is assumed. -/
import Derived.Laws.StructEq
import Derived.Deep.RegionHeld3
import Derived.Deep.RegionWith
import Derived.Maps.AppendAt
import Derived.Laws.ResultCell
import Derived.Test.YtgeiemccjionpaaGreatMg10
import Derived.Test.YtgeiemccjionpaaGreatMg17
import Derived.Test.YtgeiemccjionpaaGreatMg18
/- VMem -/
namespace Go.Proofs.YtgeiemccjionpaaGreat.Vlt
open Go.RowKit
open Dsk

/-- Pages' cells. -/
def lfCells (l : List Lf) : List Value := l.flatMap fun p => [.int .i64 p.no, .string (strB p.data)]
theorem lfCells_append (a b : List Lf) : lfCells (a ++ b) = lfCells a ++ lfCells b := by simp [lfCells]
theorem lfCells_one (o : Lf) : lfCells [o] = [.int .i64 o.no, .string (strB o.data)] := by simp [lfCells]
theorem lfCells_length (l : List Lf) : (lfCells l).length = l.length * 2 := by
  induction l with
  | nil => rfl
  | cons a l ih => simp [lfCells] at ih ⊢; omega
theorem lfCells_at (l : List Lf) : ∀ (k : Nat) (o : Lf), l[k]? = some o → (lfCells l)[k * 2]? = some (.int .i64 o.no) ∧ (lfCells l)[k * 2 + 1]? = some (.string (strB o.data)) := by
  induction l with
  | nil => intro k o h; cases h
  | cons a l ih =>
    intro k o h
    have e : lfCells (a :: l) = .int .i64 a.no :: .string (strB a.data) :: lfCells l := by simp [lfCells]
    rw [e]
    cases k with
    | zero => simp at h; subst h; exact ⟨rfl, rfl⟩
    | succ k =>
      have := ih k o (by simpa using h)
      rw [show (k + 1) * 2 = k * 2 + 2 by omega]
      exact this

/-- A slice reads as these pages. -/
def IsLfs (w : World) (v : Value) (l : List Lf) : Prop := SL w 98 2 v l.length (lfCells l)
theorem IsLfs.below {w w' : World} {v : Value} {l : List Lf} (h : IsLfs w v l) (hb : Below w.heap.size w w') : IsLfs w' v l := SL.below h hb
theorem IsLfs.nil (w : World) : IsLfs w (.slice none 0 0) [] := SL.nil w 98 2
theorem IsLfs.open_ {w : World} {v : Value} {l : List Lf} (h : IsLfs w v l) : ∃ A n c, v = .slice A n c ∧ n = l.length ∧ n ≤ c ∧ Reads w 98 2 A n (lfCells l) := by
  obtain ⟨A, c, rfl, hc, hr⟩ := h
  exact ⟨A, _, c, rfl, rfl, hc, hr⟩
/-- A page of it, in any world behind. -/
theorem lf_at {w w' : World} {A : Option Addr} {n : Nat} {l : List Lf} (h : Reads w 98 2 A n (lfCells l)) (hb : Below w.heap.size w w') {k : Nat} {o : Lf} (ho : l[k]? = some o) (hn : 0 < n) :
    ∃ b off, A = some ⟨b, off, none⟩ ∧ w'.cell? ⟨b, off + k * 2, none⟩ = some (.int .i64 o.no) ∧ w'.cell? ⟨b, off + k * 2 + 1, none⟩ = some (.string (strB o.data)) := by
  obtain ⟨b, off, e, hbl, hc⟩ := h.at_ hn
  obtain ⟨h0, h1⟩ := lfCells_at l k o ho
  exact ⟨b, off, e, (hb.cell (p := ⟨b, off + k * 2, none⟩) hbl).trans (hc _ _ h0), (hb.cell (p := ⟨b, off + k * 2 + 1, none⟩) hbl).trans (hc _ _ h1)⟩

/-- The value v is a vault that reads as k. -/
def IsVault (w : World) (v : Value) (k : VK) : Prop :=
  ∃ vs vw vd, v = .agg #[vs, vw, .bool k.disk.dead, .int .i64 k.disk.left, .int .i64 k.shape.pages, .int .i64 k.shape.journal, .int .i64 k.seq, vd] ∧
    IsDisk w (.agg #[vs, vw, .bool k.disk.dead, .int .i64 k.disk.left]) k.disk ∧ IsLfs w vd k.dirty
theorem IsVault.below {w w' : World} {v : Value} {k : VK} (h : IsVault w v k) (hb : Below w.heap.size w w') : IsVault w' v k := by
  obtain ⟨vs, vw, vd, e, h1, h2⟩ := h
  exact ⟨vs, vw, vd, e, h1.below hb, h2.below hb⟩
/-- A disk's value, by its parts. -/
theorem disk_parts {w : World} {v : Value} {d : DK} (h : IsDisk w v d) : ∃ vs vw, v = .agg #[vs, vw, .bool d.dead, .int .i64 d.left] := by
  obtain ⟨vs, vw, e, _⟩ := h
  exact ⟨vs, vw, e⟩

/-- Equality of pages. -/
theorem Lf.dec (x y : Lf) : decide (x = y) = (x.no == y.no && x.data == y.data) := by
  rw [Bool.eq_iff_iff]
  simp [Lf.eq_iff]
def lfVal (x : Lf) : Value := .agg #[.int .i64 x.no, .string (strB x.data)]
theorem equalLf (x y : Lf) (w : World) : (Op.equalIn 10000 98 (lfVal x) (lfVal y)).run Tryz.prog w = .ok (decide (x = y)) w := by
  have k1 := strB_toList x.data
  have k2 := strB_toList y.data
  unfold lfVal
  rw [Lf.dec]
  cases h1 : (x.no == y.no) with
  | false => go_simp
  | true =>
    cases h2 : (x.data == y.data) with
    | false => go_simp
    | true => go_simp
theorem neqLf (x y : Lf) (w : World) : (binOp .neq 98 (lfVal x) (lfVal y)).run Tryz.prog w = .ok (.bool (!decide (x = y))) w := by
  have h := equalLf x y w
  unfold lfVal at h ⊢
  rw [run_neq_struct, h]
  rfl

/-- Boxes of a vault. -/
def VBox (w : World) (g : Nat) (vs vw vd : Value) (k : VK) : Prop :=
  w.heap[g]? = some (.cells #[vs, vw, .bool k.disk.dead, .int .i64 k.disk.left, .int .i64 k.shape.pages, .int .i64 k.shape.journal, .int .i64 k.seq, vd] 32 (0, 0))
structure At8 (w : World) (b : Nat) (vs vw vd : Value) (k : VK) : Prop where
  c0 : w.cell? ⟨b, 0, none⟩ = some vs
  c1 : w.cell? ⟨b, 1, none⟩ = some vw
  c2 : w.cell? ⟨b, 2, none⟩ = some (.bool k.disk.dead)
  c3 : w.cell? ⟨b, 3, none⟩ = some (.int .i64 k.disk.left)
  c4 : w.cell? ⟨b, 4, none⟩ = some (.int .i64 k.shape.pages)
  c5 : w.cell? ⟨b, 5, none⟩ = some (.int .i64 k.shape.journal)
  c6 : w.cell? ⟨b, 6, none⟩ = some (.int .i64 k.seq)
  c7 : w.cell? ⟨b, 7, none⟩ = some vd
section
variable {w w' : World} {g : Nat} {vs vw vd : Value} {k : VK}
theorem VBox.at_ (h : VBox w g vs vw vd k) : At8 w g vs vw vd k := by
  refine ⟨?_, ?_, ?_, ?_, ?_, ?_, ?_, ?_⟩ <;> (rw [cell_of_row w g _ _ _ _ h]; rfl)
theorem VBox.lt (h : VBox w g vs vw vd k) : g < w.heap.size := (Array.getElem?_eq_some_iff.1 h).1
theorem VBox.keep (h : VBox w g vs vw vd k) (e : w'.heap[g]? = w.heap[g]?) : VBox w' g vs vw vd k := e.trans h
theorem VBox.below (h : VBox w g vs vw vd k) (hb : Below w.heap.size w w') : VBox w' g vs vw vd k := (hb.block g h.lt).trans h
theorem VBox.new (w : World) (vs vw vd : Value) (k : VK) : VBox (w.alloc (.cells #[vs, vw, .bool k.disk.dead, .int .i64 k.disk.left, .int .i64 k.shape.pages, .int .i64 k.shape.journal, .int .i64 k.seq, vd] 32)) w.heap.size vs vw vd k := heap_alloc_new w _
theorem VBox.free (h : VBox w g vs vw vd k) (i : Nat) : w.frozen? ⟨g, i, none⟩ = false := by unfold VBox at h; simp [World.frozen?, h]
end

set_option maxRecDepth 100000 in
set_option maxHeartbeats 4000000 in
theorem sameLeaves_calls (v u : Value) (l : List Lf) (w : World) (hv : IsLfs w v l) (hu : IsLfs w u l) (hl : l.length ≤ 1000000) :
    Calls Tryz.prog 45 #[v, u] w fun e w' => e = .returned (.bool true) ∧ Below w.heap.size w w' := by
  obtain ⟨A, n, c, rfl, hn, _, hr⟩ := hv.open_
  obtain ⟨B, m, e, rfl, hm, _, hq⟩ := hu.open_
  obtain rfl : m = n := by omega
  have hmm : m ≤ 1000000 := by omega
  have HN := Lib.hid hn
  have HR := Lib.hid hr
  have HQ := Lib.hid hq
  clear hn hm hr hq hv hu
  go_enter Tryz.func45, Tryz.ntmps45
  go_wp2_with fail
  go_loopw [5] (fun u wr => ∃ i : Nat, i ≤ m ∧ u = .int .i64 i ∧ Below w.heap.size w wr) (fun u _ => m - (intOf u).toNat)
  case atStart => exact ⟨0, Nat.zero_le _, rfl, Below.refl _ _⟩
  case round =>
    obtain ⟨i, hi, rfl, hbr⟩ := hrel
    have HBR := Lib.hid hbr
    clear hbr
    by_cases hlt : i < m
    · obtain ⟨o, ho⟩ : ∃ o, l[i]? = some o := ⟨_, List.getElem?_eq_getElem (by have := HN.out; omega)⟩
      obtain ⟨b, off, rfl, x0, x1⟩ := lf_at HR.out HBR.out ho (by omega)
      obtain ⟨b', off', rfl, y0, y1⟩ := lf_at HQ.out HBR.out ho (by omega)
      have hi1 : (0 : Int) ≤ (i : Int) := by omega
      have hi2 : (i : Int) < (m : Int) := by omega
      have hne := neqLf o o
      rw [decide_eq_true rfl] at hne
      unfold lfVal at hne
      clear ho
      go_wp2_with fail
      go_quiet (fail)
      go_wp2_with fail
      exact ⟨⟨i + 1, by omega, by go_num, HBR.out.trans ⟨rfl, rfl, rfl, Nat.le_refl _, fun _ _ => rfl⟩⟩, by simp [intOf]; omega⟩
    · have hnl : decide ((i : Int) < (m : Int)) = false := by simp; omega
      go_wp2_with fail
      go_ret
      exact ⟨rfl, HBR.out⟩

set_option maxRecDepth 100000 in
set_option maxHeartbeats 4000000 in
theorem same_calls (v u : Value) (k : VK) (w : World) (hv : IsVault w v k) (hu : IsVault w u k) (hs : k.disk.sure.length ≤ 1000000) (hw : k.disk.wet.length ≤ 1000000) (hl : k.dirty.length ≤ 1000000) :
    Calls Tryz.prog 15 #[v, u] w fun e w' => e = .returned (.bool true) ∧ Below w.heap.size w w' := by
  obtain ⟨vs, vw, vd, rfl, h1, h2⟩ := hv
  obtain ⟨us, uw, ud, rfl, h3, h4⟩ := hu
  obtain ⟨Y, hY, b1, b2, hB⟩ : ∃ Y, Y = (w.alloc (.cells #[vs, vw, .bool k.disk.dead, .int .i64 k.disk.left, .int .i64 k.shape.pages, .int .i64 k.shape.journal, .int .i64 k.seq, vd] 32)).alloc (.cells #[us, uw, .bool k.disk.dead, .int .i64 k.disk.left, .int .i64 k.shape.pages, .int .i64 k.shape.journal, .int .i64 k.seq, ud] 32) ∧ VBox Y w.heap.size vs vw vd k ∧ VBox Y (w.heap.size + 1) us uw ud k ∧ Below w.heap.size w Y := by
    refine ⟨_, rfl, (VBox.new w vs vw vd k).below (below_one _ _), ?_, Dsk.below_trans' (below_one _ _) (below_one _ _)⟩
    have := VBox.new (w.alloc (.cells #[vs, vw, .bool k.disk.dead, .int .i64 k.disk.left, .int .i64 k.shape.pages, .int .i64 k.shape.journal, .int .i64 k.seq, vd] 32)) us uw ud k
    simpa using this
  have HY := Lib.hid hY
  have B1 := Lib.hid b1
  have B2 := Lib.hid b2
  have HB := Lib.hid hB
  have CS := Lib.hid (Dsk.rsame_calls _ _ k.disk Y (h1.below hB) (h3.below hB) hs hw)
  have CL := Lib.hid (fun W (hb : Below Y.heap.size Y W) => sameLeaves_calls vd ud k.dirty W ((h2.below hB).below hb) ((h4.below hB).below hb) hl)
  have hq := eql23 k.shape k.shape
  rw [decide_eq_true rfl] at hq
  unfold shV at hq
  obtain ⟨i0, i1, i2, i3, i4, i5, i6, i7⟩ := b1.at_
  obtain ⟨j0, j1, j2, j3, j4, j5, j6, j7⟩ := b2.at_
  clear hY b1 b2 hB h1 h2 h3 h4 hs hw hl
  go_enter Tryz.func15, Tryz.ntmps15
  go_wp2_with fail
  rw [← HY.out]
  go_wp2_with fail
  (with_reducible refine CS.out.mono ?_)
  rintro e w1 ⟨rfl, hB1⟩
  have HB1 := Lib.hid hB1
  clear i0 i1 i2 i3 i4 i5 i6 i7 j0 j1 j2 j3 j4 j5 j6 j7 hB1
  obtain ⟨i0, i1, i2, i3, i4, i5, i6, i7⟩ := (B1.out.below HB1.out).at_
  obtain ⟨j0, j1, j2, j3, j4, j5, j6, j7⟩ := (B2.out.below HB1.out).at_
  go_wp2_with fail
  (with_reducible refine (CL.out _ HB1.out).mono ?_)
  rintro e w2 ⟨rfl, hB2⟩
  go_wp2_with fail
  go_ret
  exact ⟨rfl, Dsk.below_trans' (Dsk.below_trans' HB.out HB1.out) hB2⟩

end Go.Proofs.YtgeiemccjionpaaGreat.Vlt

/- VRRead -/
namespace Go.Proofs.YtgeiemccjionpaaGreat.Vlt
open Go.RowKit Go.Sort
open Dsk
open Ent (homeB homeV)

/-- A vault that the calls are asked of. -/
structure VGood (k : VK) : Prop where
  pl : ∃ n i, Pl n i k.disk ∧ n ≤ 2000 ∧ i ≤ 2000
  pages : k.shape.pages ≤ 512
  dirty : k.dirty.length ≤ 1000
theorem VGood.ok {k : VK} (h : VGood k) : k.disk.ok ∧ Rising k.disk.wet ∧ WetIn k.disk := by
  obtain ⟨n, i, hp, h1, h2⟩ := h.pl
  exact ⟨hp.ok h1 h2, hp.rise, hp.inn⟩

theorem find_hitL {l : List Lf} {no : Int} {i : Nat} {o : Lf} (h : ∀ q x, q < i → l[q]? = some x → x.no ≠ no) (ho : l[i]? = some o) (hn : o.no = no) : findL l no = some o := by
  unfold findL
  induction l generalizing i with
  | nil => cases ho
  | cons y l ih =>
    cases i with
    | zero =>
      simp at ho
      subst ho
      rw [List.find?_cons_of_pos (by simpa using hn)]
    | succ i =>
      have h0 := h 0 y (by omega) rfl
      rw [List.find?_cons_of_neg (by simpa using h0)]
      exact ih (i := i) (fun q x hq hx => h (q + 1) x (by omega) (by simpa using hx)) (by simpa using ho)
theorem find_missL {l : List Lf} {no : Int} (h : ∀ (q : Nat) x, l[q]? = some x → x.no ≠ no) : findL l no = none := by
  unfold findL
  rw [List.find?_eq_none]
  intro x hx
  obtain ⟨q, hq, e⟩ := List.getElem_of_mem hx
  simpa using h q x (by rw [List.getElem?_eq_getElem hq, e])

theorem read_end {k : VK} {no : Int} {a : List UInt8} {b : Int} (h : readV k no = (a, b)) : Ending.returned (.tuple #[.string (strB a), .int .i64 b]) = .returned (.tuple #[.string (strB (readV k no).1), .int .i64 (readV k no).2]) := by rw [h]

set_option maxRecDepth 100000 in
set_option maxHeartbeats 16000000 in
theorem rread_calls (v : Value) (k : VK) (no : Int) (w : World) (hv : IsVault w v k) (hg : VGood k) :
    Calls Tryz.prog 25 #[v, .int .i64 no] w fun e w' => e = .returned (.tuple #[.string (strB (readV k no).1), .int .i64 (readV k no).2]) ∧ Below w.heap.size w w' := by
  obtain ⟨vs, vw, vd, rfl, h1, h2⟩ := hv
  obtain ⟨A, n, c, rfl, hn, _, hr⟩ := h2.open_
  obtain ⟨hok, hri, hin⟩ := hg.ok
  have hdl := hg.dirty
  have hpg := hg.pages
  obtain ⟨Y, hY, b1, hB⟩ : ∃ Y, Y = w.alloc (.cells #[vs, vw, .bool k.disk.dead, .int .i64 k.disk.left, .int .i64 k.shape.pages, .int .i64 k.shape.journal, .int .i64 k.seq, .slice A n c] 32) ∧ VBox Y w.heap.size vs vw (.slice A n c) k ∧ Below w.heap.size w Y := ⟨_, rfl, VBox.new _ _ _ _ _, below_one _ _⟩
  have HY := Lib.hid hY
  have B1 := Lib.hid b1
  have HB := Lib.hid hB
  obtain ⟨i0, i1, i2, i3, i4, i5, i6, i7⟩ := b1.at_
  rw [hY] at i0 i1 i2 i3 i4 i5 i6 i7
  have H1 := Lib.hid h1
  have HOK := Lib.hid (And.intro hok hri)
  have HR := Lib.hid hr
  have HN := Lib.hid hn
  clear hY b1 hB h1 h2 hok hri hin hr hn
  by_cases hlo : no < 0
  · have E : Hid (readV k no = ([], 1)) := Lib.hid (by unfold readV; rw [if_pos (by intro h; have := h.1; omega)])
    go_enter Tryz.func25, Tryz.ntmps25
    go_wp2_with fail
    exact bodyPost_ret (v := .tuple #[.string ⟨#[]⟩, .int .i64 1]) (by simp [results, Tryz.results25, go_sem]) rfl ⟨read_end E.out, below_one _ _⟩
  by_cases hhi : k.shape.pages ≤ no
  · have E : Hid (readV k no = ([], 1)) := Lib.hid (by unfold readV; rw [if_pos (by intro h; have := h.2; omega)])
    go_enter Tryz.func25, Tryz.ntmps25
    go_wp2_with fail
    exact bodyPost_ret (v := .tuple #[.string ⟨#[]⟩, .int .i64 1]) (by simp [results, Tryz.results25, go_sem]) rfl ⟨read_end E.out, below_one _ _⟩
  have hlo' : 0 ≤ no := by omega
  have hhi' : no < k.shape.pages := by omega
  have hH : hasP k no := ⟨hlo', hhi'⟩
  rcases Bool.eq_false_or_eq_true k.disk.dead with hd | hd
  · have E : Hid (readV k no = ([], 12)) := Lib.hid (by unfold readV; rw [if_neg (by simp [hH]), if_pos hd])
    rw [hd] at i2 ⊢
    clear hH
    go_enter Tryz.func25, Tryz.ntmps25
    go_wp2_with fail
    exact bodyPost_ret (v := .tuple #[.string ⟨#[]⟩, .int .i64 12]) (by simp [results, Tryz.results25, go_sem]) rfl ⟨read_end E.out, below_one _ _⟩
  have HHit : Hid (∀ o, findL k.dirty no = some o → readV k no = (o.data, 0)) := Lib.hid (fun o ho => by unfold readV; rw [if_neg (by simp [hH]), if_neg (by simp [hd]), ho])
  have HMiss : Hid (findL k.dirty no = none → readV k no = if rdE k.disk (placeN k.shape no) ≠ 0 then ([], rdE k.disk (placeN k.shape no)) else
      if homeB (rdS k.disk (placeN k.shape no)).data.toList no = true then (homeV (rdS k.disk (placeN k.shape no)).data.toList no, 0) else ([], 2)) := Lib.hid (fun ho => by unfold readV; rw [if_neg (by simp [hH]), if_neg (by simp [hd]), ho])
  have HD := Lib.hid hd
  rw [hd] at i2
  clear hH hd hg
  have hpage : no ≤ 511 := by omega
  rw [HD.out]
  rw [HD.out] at HY
  go_enter Tryz.func25, Tryz.ntmps25
  go_wp2_with fail
  rw [← HY.out]
  clear i0 i1 i2 i3 i4 i5 i6 i7
  go_loopw [6] (fun u wr => ∃ i : Nat, i ≤ n ∧ u = .int .i64 i ∧ Below Y.heap.size Y wr ∧ (∀ q x, q < i → k.dirty[q]? = some x → x.no ≠ no)) (fun u _ => n - (intOf u).toNat)
  case atStart => exact ⟨0, Nat.zero_le _, rfl, Below.refl _ _, fun q x hq => absurd hq (by omega)⟩
  case round =>
    obtain ⟨i, hi, rfl, hbr, hno⟩ := hrel
    have HBR := Lib.hid hbr
    have HNO := Lib.hid hno
    clear hbr hno
    obtain ⟨i0, i1, i2, i3, i4, i5, i6, i7⟩ := (B1.out.below HBR.out).at_
    rw [HD.out] at i2
    have hnm : n ≤ 1000 := by have := HN.out; omega
    by_cases hlt : i < n
    · obtain ⟨o, ho⟩ : ∃ o, k.dirty[i]? = some o := ⟨_, List.getElem?_eq_getElem (by have := HN.out; omega)⟩
      obtain ⟨b, off, rfl, x0, x1⟩ := lf_at HR.out (Dsk.below_trans' HB.out HBR.out) ho (by omega)
      have HO := Lib.hid ho
      have hi1 : (0 : Int) ≤ (i : Int) := by omega
      have hi2 : (i : Int) < (n : Int) := by omega
      clear ho
      by_cases ha : o.no = no
      · have ha2 : (o.no == no) = true := by simpa using ha
        have E := Lib.hid (HHit.out o (find_hitL HNO.out HO.out ha))
        clear ha
        go_wp2_with fail
        exact bodyPost_ret (v := .tuple #[.string (strB o.data), .int .i64 0]) (by simp [results, Tryz.results25, go_sem]) rfl ⟨read_end E.out, Dsk.below_trans' HB.out HBR.out⟩
      · have hf : (o.no == no) = false := by simpa using ha
        go_wp2_with fail
        refine ⟨⟨i + 1, by omega, by go_num, HBR.out, fun q x hq hx => ?_⟩, by simp [intOf]; omega⟩
        by_cases e : q = i
        · subst e
          rw [HO.out] at hx
          injection hx with hx
          subst hx
          exact ha
        · exact HNO.out q x (by omega) hx
    · have hnl : decide ((i : Int) < (n : Int)) = false := by simp; omega
      have E := Lib.hid (HMiss.out (find_missL fun q x hx => HNO.out q x (by have := (List.getElem?_eq_some_iff.1 hx).1; have := HN.out; omega) hx))
      have q := fun d os => Dsk.below_trans' HBR.out (below_regrown wr d os)
      have i0 := fun d os => ((B1.out.below (q d os)).at_).c0
      have i1 := fun d os => ((B1.out.below (q d os)).at_).c1
      have i2 := fun d os => ((B1.out.below (q d os)).at_).c2
      have i3 := fun d os => ((B1.out.below (q d os)).at_).c3
      have i4 := fun d os => ((B1.out.below (q d os)).at_).c4
      have i5 := fun d os => ((B1.out.below (q d os)).at_).c5
      rw [HD.out] at i2
      obtain ⟨PL, hPL⟩ : ∃ p, p = placeN k.shape no := ⟨_, rfl⟩
      have D1 := rg (rplace_calls k.shape no) wr
      unfold shV at D1
      rw [← hPL] at D1 E
      have D2 := fun d os => Calls.regrown_of (rrd_calls _ k.disk PL (grow (redrawn wr d) os) (H1.out.below (Dsk.below_trans' HB.out (q d os))) HOK.out.1 HOK.out.2)
      rw [HD.out] at D2
      have D1 := Lib.hid D1
      have D2 := Lib.hid D2
      clear q hPL
      go_wp2_with fail
      refine wp_region_quiet_below (by kernel_rfl) (by kernel_rfl) ?_
      (try simp only [List.append_eq, List.cons_append, List.nil_append])
      repeat (first | go_big_quiet_step (first | (with_reducible exact D1.out _ _) | (with_reducible exact D2.out _ _)))
      refine wpQuiet_nil ?_
      intro _ hw'
      obtain ⟨⟨dq, osq⟩, hw''⟩ := hw'
      subst hw''
      have HB2 := Lib.hid (Dsk.below_trans' (Dsk.below_trans' HB.out HBR.out) (below_regrown wr dq osq))
      generalize grow (redrawn wr dq) osq = W1 at *
      clear i0 i1 i2 i3 i4 i5 D1 D2
      by_cases he : rdE k.disk PL = 0
      · rw [if_neg (by omega)] at E
        rw [he]
        obtain ⟨S, hS⟩ : ∃ S, S = (rdS k.disk PL).data.toList := ⟨_, rfl⟩
        have hS2 : rdS k.disk PL = strB S := by rw [hS, strB_of]
        rw [← hS] at E
        rw [hS2]
        clear hS hS2
        go_wp2_with fail
        (with_reducible refine (Ent.rhome_calls S no _ hlo' hpage).mono ?_)
        rintro e w3 ⟨x, rfl, hx, hB3⟩
        have HX := Lib.hid hx
        clear hx
        rcases Bool.eq_false_or_eq_true (homeB S no) with hb | hb
        · rw [hb, if_pos rfl] at E
          rw [hb] at HX ⊢
          have hx := HX.out rfl
          subst hx
          go_wp2_with fail
          exact bodyPost_ret (v := .tuple #[.string (strB (homeV S no)), .int .i64 0]) (by simp [results, Tryz.results25, go_sem]) rfl ⟨read_end E.out, Dsk.below_trans' HB2.out hB3⟩
        · rw [hb, if_neg (by simp)] at E
          rw [hb]
          go_wp2_with fail
          exact bodyPost_ret (v := .tuple #[.string ⟨#[]⟩, .int .i64 2]) (by simp [results, Tryz.results25, go_sem]) rfl ⟨read_end E.out, Dsk.below_trans' HB2.out hB3⟩
      · rw [if_pos he] at E
        obtain ⟨R, hR⟩ : ∃ R, R = rdE k.disk PL := ⟨_, rfl⟩
        rw [← hR] at E he
        rw [← hR]
        have he2 : (R == 0) = false := by simpa using he
        clear hR
        go_wp2_with fail
        exact bodyPost_ret (v := .tuple #[.string ⟨#[]⟩, .int .i64 R]) (by simp [results, Tryz.results25, go_sem]) rfl ⟨read_end E.out, HB2.out⟩

end Go.Proofs.YtgeiemccjionpaaGreat.Vlt

/- VRHome -/
namespace Go.Proofs.YtgeiemccjionpaaGreat.Vlt
open Go.RowKit Go.Sort
open Dsk

theorem LOk.take {n : Int} {l : List Lf} (h : LOk n l) (i : Nat) : LOk n (l.take i) := ⟨fun x hx => h.lo x (List.mem_of_mem_take hx), fun x hx => h.hi x (List.mem_of_mem_take hx), fun x hx => h.len x (List.mem_of_mem_take hx)⟩
theorem home_take {x : Sh} {l : List Lf} {i : Nat} {o : Lf} (ho : l[i]? = some o) : homeW x (l.take (i + 1)) = homeW x (l.take i) ++ [(placeN x o.no, strB (Ent.leafL o.no o.data))] := by
  unfold homeW
  rw [List.take_add_one, ho]
  simp
/-- One write more. -/
theorem wrs_next {d : DK} {l : List (Int × ByteArray)} {a : Int} {b : ByteArray} (h : (wrsF d l).2 = 0) : wrsF d (l ++ [(a, b)]) = (wrD (wrsF d l).1 a b, wrE (wrsF d l).1 a b) := by rw [wrs_snoc, if_pos h]
theorem wrs_stop {d : DK} : ∀ {l : List (Int × ByteArray)} {k : Nat}, (wrsF d (l.take k)).2 ≠ 0 → wrsF d l = wrsF d (l.take k) := by
  intro l
  induction l generalizing d with
  | nil => intro k _; simp
  | cons p l ih =>
    intro k h
    cases k with
    | zero => exact absurd rfl h
    | succ k =>
      rw [List.take_succ_cons] at h ⊢
      unfold wrsF at h ⊢
      by_cases e : wrE d p.1 p.2 = 0
      · rw [if_pos e] at h ⊢
        rw [if_pos e]
        exact ih h
      · rw [if_neg e, if_neg e]
/-- What stands behind the first writes may be handed on. -/
theorem wrs_pl {n : Nat} : ∀ (l : List (Int × ByteArray)) {i : Nat} {d : DK}, Pl n i d → Pl n (i + l.length) (wrsF d l).1
  | [], _, _, h => h
  | p :: l, i, d, h => by
    have h1 := wrD_pl h p.1 p.2
    unfold wrsF
    split
    · have := wrs_pl l h1
      rw [show i + (p :: l).length = i + 1 + l.length by simp; omega]
      exact this
    · exact ⟨h1.good.more (by simp), h1.rise, h1.inn⟩

/-- The boxes of home, between rounds: the disk's, the shape's, the answer's. -/
structure HB3 (w W : World) (x : Sh) (vs vw : Value) (d : DK) : Prop where
  dk : W.heap[w.heap.size]? = some (.cells #[vs, vw, .bool d.dead, .int .i64 d.left] 27 (0, 0))
  isd : IsDisk W (.agg #[vs, vw, .bool d.dead, .int .i64 d.left]) d
  sh : SBox W (w.heap.size + 1) x
  zr : W.heap[w.heap.size + 2]? = some (.cells #[.slice none 0 0, .slice none 0 0, .bool false, .int .i64 0] 27 (0, 0))
  below : Below w.heap.size w W
section
variable {w W W' : World} {x : Sh} {vs vw us uw : Value} {d e : DK}
theorem HB3.more (h : HB3 w W x vs vw d) (k : Below W.heap.size W W') : HB3 w W' x vs vw d :=
  ⟨box_kept _ h.dk k, h.isd.below k, h.sh.below k, box_kept _ h.zr k, Dsk.below_trans' h.below k⟩
theorem HB3.new (w : World) (h : IsDisk w (.agg #[vs, vw, .bool d.dead, .int .i64 d.left]) d) (x : Sh) :
    ∃ Y, Y = ((w.alloc (.cells #[vs, vw, .bool d.dead, .int .i64 d.left] 27)).alloc (.cells #[.int .i64 x.pages, .int .i64 x.journal] 29)).alloc (.cells #[.slice none 0 0, .slice none 0 0, .bool false, .int .i64 0] 27) ∧ HB3 w Y x vs vw d := by
  have b1 := below_one w (.cells #[vs, vw, .bool d.dead, .int .i64 d.left] 27)
  have b2 := below_one (w.alloc (.cells #[vs, vw, .bool d.dead, .int .i64 d.left] 27)) (.cells #[.int .i64 x.pages, .int .i64 x.journal] 29)
  have b3 := below_one ((w.alloc (.cells #[vs, vw, .bool d.dead, .int .i64 d.left] 27)).alloc (.cells #[.int .i64 x.pages, .int .i64 x.journal] 29)) (.cells #[.slice none 0 0, .slice none 0 0, .bool false, .int .i64 0] 27)
  refine ⟨_, rfl, box_kept _ (box_kept _ (heap_alloc_new w _) b2) b3, ((h.below b1).below b2).below b3, ?_, ?_, Dsk.below_trans' (Dsk.below_trans' b1 b2) b3⟩
  · have := SBox.new (w.alloc (.cells #[vs, vw, .bool d.dead, .int .i64 d.left] 27)) x
    rw [show (w.alloc (.cells #[vs, vw, .bool d.dead, .int .i64 d.left] 27)).heap.size = w.heap.size + 1 by simp] at this
    exact this.below b3
  · have := heap_alloc_new ((w.alloc (.cells #[vs, vw, .bool d.dead, .int .i64 d.left] 27)).alloc (.cells #[.int .i64 x.pages, .int .i64 x.journal] 29)) (.cells #[.slice none 0 0, .slice none 0 0, .bool false, .int .i64 0] 27)
    simpa using this
/-- Another disk is stored into the first box. -/
theorem HB3.put (h : HB3 w W x vs vw d) (hv : IsDisk W (.agg #[us, uw, .bool e.dead, .int .i64 e.left]) e) :
    ∃ X, (((W.setCell ⟨w.heap.size, 0, none⟩ us).setCell ⟨w.heap.size, 1, none⟩ uw).setCell ⟨w.heap.size, 2, none⟩ (.bool e.dead)).setCell ⟨w.heap.size, 3, none⟩ (.int .i64 e.left) = X ∧ HB3 w X x us uw e := by
  obtain ⟨X, hX, hb, hk, hB⟩ := box_store4 h.dk us uw (.bool e.dead) (.int .i64 e.left)
  refine ⟨X, hX, hb, hv.other h.dk (by decide) (by decide) hk, h.sh.keep (hk _ (by omega)), (hk _ (by omega)).trans h.zr, hB _ _ h.below (Nat.le_refl _)⟩
end

theorem home_at {w W _W' : World} {A : Option Addr} {n : Nat} {l : List Lf} {i : Nat} {o : Lf} (h : Reads w 98 2 A n (lfCells l)) (hb : Below w.heap.size w W) (ho : l[i]? = some o) (hn : 0 < n) :
    ∃ b off, A = some ⟨b, off, none⟩ ∧ ∀ W', Below W.heap.size W W' → W'.cell? ⟨b, off + i * 2, none⟩ = some (.int .i64 o.no) ∧ W'.cell? ⟨b, off + i * 2 + 1, none⟩ = some (.string (strB o.data)) := by
  obtain ⟨b, off, e, hbl, hc⟩ := h.at_ hn
  obtain ⟨h0, h1⟩ := lfCells_at l i o ho
  refine ⟨b, off, e, fun W' k => ?_⟩
  have hk := Dsk.below_trans' hb k
  exact ⟨(hk.cell (p := ⟨b, off + i * 2, none⟩) hbl).trans (hc _ _ h0), (hk.cell (p := ⟨b, off + i * 2 + 1, none⟩) hbl).trans (hc _ _ h1)⟩

/-- What lies in a round of home. -/
structure HRD (w V W : World) (x : Sh) (vs vw : Value) (d : DK) : Prop where
  b : HB3 w W x vs vw d
  k : Below V.heap.size V W
theorem HRD.more {w V W W' : World} {x : Sh} {vs vw : Value} {d : DK} (h : HRD w V W x vs vw d) (k : Below W.heap.size W W') : HRD w V W' x vs vw d := ⟨h.b.more k, Dsk.below_trans' h.k k⟩
theorem HRD.cells {w V W : World} {x : Sh} {vs vw : Value} {d : DK} (h : HRD w V W x vs vw d) :
    (W.cell? ⟨w.heap.size, 0, none⟩ = some vs ∧ W.cell? ⟨w.heap.size, 1, none⟩ = some vw ∧ W.cell? ⟨w.heap.size, 2, none⟩ = some (.bool d.dead) ∧ W.cell? ⟨w.heap.size, 3, none⟩ = some (.int .i64 d.left)) ∧
    W.cell? ⟨w.heap.size + 1, 0, none⟩ = some (.int .i64 x.pages) ∧ W.cell? ⟨w.heap.size + 1, 1, none⟩ = some (.int .i64 x.journal) :=
  ⟨(box4 h.b.dk).1, h.b.sh.c0, h.b.sh.c1⟩

def zeroBox : Obj := .cells #[.slice none 0 0, .slice none 0 0, .bool false, .int .i64 0] 27
/-- A box of no disk, laid in a round. -/
structure NB (V W : World) (g : Nat) : Prop where
  box : W.heap[g]? = some (.cells #[.slice none 0 0, .slice none 0 0, .bool false, .int .i64 0] 27 (0, 0))
  le : V.heap.size ≤ g
section
variable {w V W W' : World} {x : Sh} {vs vw : Value} {d e : DK} {g : Nat} {us uw : Value}
theorem NB.more (h : NB V W g) (k : Below W.heap.size W W') : NB V W' g := ⟨box_kept _ h.box k, h.le⟩
theorem NB.new (h : HRD w V W x vs vw d) : NB V (W.alloc (.cells #[.slice none 0 0, .slice none 0 0, .bool false, .int .i64 0] 27)) W.heap.size := ⟨heap_alloc_new W _, h.k.size⟩
/-- What lies behind a round's write: the boxes, and the disk in a box of its own. -/
structure NX (w V X : World) (x : Sh) (vs vw us uw : Value) (d e : DK) (g : Nat) : Prop where
  h : HRD w V X x vs vw d
  box : X.heap[g]? = some (.cells #[us, uw, .bool e.dead, .int .i64 e.left] 27 (0, 0))
  isd : IsDisk X (.agg #[us, uw, .bool e.dead, .int .i64 e.left]) e
theorem NX.fresh (h : HRD w V W x vs vw d) (hv : IsDisk W (.agg #[us, uw, .bool e.dead, .int .i64 e.left]) e) :
    ∃ X, W.alloc (.cells #[us, uw, .bool e.dead, .int .i64 e.left] 27) = X ∧ NX w V X x vs vw us uw d e W.heap.size :=
  ⟨_, rfl, h.more (below_one _ _), heap_alloc_new W _, hv.below (below_one _ _)⟩
theorem NX.store (h : HRD w V W x vs vw d) (z : NB V W g) (hv : IsDisk W (.agg #[us, uw, .bool e.dead, .int .i64 e.left]) e) (hV : w.heap.size + 2 < V.heap.size) :
    ∃ X, (((W.setCell ⟨g, 0, none⟩ us).setCell ⟨g, 1, none⟩ uw).setCell ⟨g, 2, none⟩ (.bool e.dead)).setCell ⟨g, 3, none⟩ (.int .i64 e.left) = X ∧ NX w V X x vs vw us uw d e g := by
  obtain ⟨X, hX, hb, hk, hB⟩ := box_store4 z.box us uw (.bool e.dead) (.int .i64 e.left)
  have hle := z.le
  refine ⟨X, hX, ⟨⟨(hk _ (by omega)).trans h.b.dk, h.b.isd.other z.box (by decide) (by decide) hk, h.b.sh.keep (hk _ (by omega)), (hk _ (by omega)).trans h.b.zr, hB _ _ h.b.below (by omega)⟩, hB _ _ h.k hle⟩, hb, hv.other z.box (by decide) (by decide) hk⟩
end

end Go.Proofs.YtgeiemccjionpaaGreat.Vlt

/- VOwn -/
namespace Go.Proofs.YtgeiemccjionpaaGreat.Vlt
open Go.RowKit Go.Sort
open Dsk

/-- A slice of the call's own that reads as these pages. -/
def OwnL (B : Nat) (w : World) (v : Value) (l : List Lf) : Prop := w.ownsRow B 98 2 v l.length (lfCells l)
section
variable {B : Nat} {w w' : World} {v : Value} {l : List Lf}
theorem OwnL.isLfs (h : OwnL B w v l) : IsLfs w v l := SL.of_own h
theorem OwnL.nil (B : Nat) (w : World) : OwnL B w (.slice none 0 0) [] := World.ownsRow_nil _ _ _ _
theorem OwnL.ge (h : OwnL B w v l) : ∀ k, v.ownBlock = some k → B ≤ k := fun k hk => (World.ownsRow.lt h k hk).1
theorem OwnL.below (h : OwnL B w v l) (hb : Below w.heap.size w w') : OwnL B w' v l := by
  refine ⟨h.1, ?_⟩
  rcases h.2 with hn | ⟨g, cap, cur, rfl, hg1, hg, rest⟩
  · exact .inl hn
  · exact .inr ⟨g, cap, cur, rfl, hg1, (hb.block g (Array.getElem?_eq_some_iff.1 hg).1).trans hg, rest⟩
theorem OwnL.form (h : OwnL B w v l) : ∃ A c, v = .slice A l.length c := by
  obtain ⟨A, n, c, e, hn, _⟩ := h.isLfs.open_
  subst hn
  exact ⟨A, c, e⟩
theorem ownL_snoc {x : Lf} (h : w.ownsRow B 98 2 v (l.length + 1) (lfCells l ++ [.int .i64 x.no, .string (strB x.data)])) : OwnL B w v (l ++ [x]) := by
  unfold OwnL
  rw [lfCells_append, lfCells_one, List.length_append]
  exact h
theorem newsL {W : World} (x : Lf) {g : Nat} (hg : W.heap.size = g) : ∀ (j : Nat) (u : Value), ([.int .i64 x.no, .string (strB x.data)] : List Value)[j]? = some u → (W.alloc (.cells #[.int .i64 x.no, .string (strB x.data)] 98)).cell? ((⟨g, 0, none⟩ : Addr).add j) = some u := by
  intro j u hj
  subst hg
  rw [Addr.add_lit, Nat.zero_add, cell_of_row _ _ _ _ _ _ (heap_alloc_new W _), ← hj]
  exact List.getElem?_toArray
theorem oneL (x : Lf) : ∀ u ∈ ([.int .i64 x.no, .string (strB x.data)] : List Value), u.oneCell' = true := by
  intro u hu
  simp only [List.mem_cons, List.not_mem_nil, or_false] at hu
  rcases hu with rfl | rfl <;> rfl
theorem info48 : (Tryz.prog.info? 98).map (fun i => (i.zero, i.size, i.bytes)) = some (some (.agg #[.int .i64 0, .string ⟨#[]⟩]), 2, 24) := by kernel_rfl
theorem below_grown {B : Nat} {a w w' : World} {row : Option Nat} (h : Below B a w) (k : w.grownBy w' row) (hr : ∀ i, row = some i → B ≤ i) (hB : B ≤ w.heap.size) : Below B a w' :=
  ⟨k.os.trans h.os, k.tape.trans h.tape, k.output.trans h.output, Nat.le_trans h.size k.size, fun i hi => (k.block i (by omega) (fun e => by have := hr i e.symm; omega)).trans (h.block i hi)⟩
end

end Go.Proofs.YtgeiemccjionpaaGreat.Vlt

/- HMem -/
namespace Go.Proofs.YtgeiemccjionpaaGreat.Chn
open Go.RowKit Go.Sort
open Dsk Vlt

/-- Numbers, as cells. -/
def intC (l : List Int) : List Value := l.map fun a => .int .i64 a
theorem intC_append (a b : List Int) : intC (a ++ b) = intC a ++ intC b := by simp [intC]
theorem intC_one (o : Int) : intC [o] = [.int .i64 o] := rfl
theorem intC_length (l : List Int) : (intC l).length = l.length * 1 := by simp [intC]
theorem intC_at (l : List Int) (k : Nat) (o : Int) (h : l[k]? = some o) : (intC l)[k]? = some (.int .i64 o) := by
  unfold intC
  rw [List.getElem?_map, h]
  rfl
theorem intC_take (l : List Int) (k : Nat) : intC (l.take k) = (intC l).take (k * 1) := by unfold intC; rw [List.map_take, Nat.mul_one]
theorem intC_drop (l : List Int) (k : Nat) : intC (l.drop k) = (intC l).drop (k * 1) := by unfold intC; rw [List.map_drop, Nat.mul_one]
theorem intC_all (l : List Int) : ∀ u ∈ intC l, u.oneCell' = true := by
  intro u hu
  obtain ⟨p, _, rfl⟩ := List.mem_map.1 hu
  rfl
/-- A slice reads as these numbers. -/
def IsInts (w : World) (v : Value) (l : List Int) : Prop := SL w 3 1 v l.length (intC l)
theorem IsInts.below {w w' : World} {v : Value} {l : List Int} (h : IsInts w v l) (hb : Below w.heap.size w w') : IsInts w' v l := SL.below h hb
theorem IsInts.nil (w : World) : IsInts w (.slice none 0 0) [] := SL.nil w 3 1
theorem IsInts.none_ (w : World) (A : Option Addr) (c : Nat) : IsInts w (.slice A 0 c) [] := ⟨A, c, rfl, Nat.zero_le _, rfl, fun h => absurd h (by simp)⟩
theorem IsInts.open_ {w : World} {v : Value} {l : List Int} (h : IsInts w v l) : ∃ A n c, v = .slice A n c ∧ n = l.length ∧ n ≤ c ∧ Reads w 3 1 A n (intC l) := by
  obtain ⟨A, c, rfl, hc, hr⟩ := h
  exact ⟨A, _, c, rfl, rfl, hc, hr⟩
/-- A number of it, in any world behind. -/
theorem int_at {w w' : World} {A : Option Addr} {n : Nat} {l : List Int} (h : Reads w 3 1 A n (intC l)) (hb : Below w.heap.size w w') {k : Nat} {o : Int} (ho : l[k]? = some o) (hn : 0 < n) :
    ∃ b off, A = some ⟨b, off, none⟩ ∧ w'.cell? ⟨b, off + k, none⟩ = some (.int .i64 o) := by
  obtain ⟨b, off, e, hbl, hc⟩ := h.at_ hn
  exact ⟨b, off, e, (hb.cell (p := ⟨b, off + k, none⟩) hbl).trans (hc _ _ (intC_at l k o ho))⟩
/-- A slice of the call's own that reads as these numbers. -/
def OwnI (B : Nat) (w : World) (v : Value) (l : List Int) : Prop := w.ownsRow B 3 1 v l.length (intC l)
section
variable {B : Nat} {w w' : World} {v : Value} {l : List Int}
theorem OwnI.isInts (h : OwnI B w v l) : IsInts w v l := SL.of_own h
theorem OwnI.nil (B : Nat) (w : World) : OwnI B w (.slice none 0 0) [] := World.ownsRow_nil _ _ _ _
theorem OwnI.ge (h : OwnI B w v l) : ∀ k, v.ownBlock = some k → B ≤ k := fun k hk => (World.ownsRow.lt h k hk).1
theorem OwnI.below (h : OwnI B w v l) (hb : Below w.heap.size w w') : OwnI B w' v l := by
  refine ⟨h.1, ?_⟩
  rcases h.2 with hn | ⟨g, cap, cur, rfl, hg1, hg, rest⟩
  · exact .inl hn
  · exact .inr ⟨g, cap, cur, rfl, hg1, (hb.block g (Array.getElem?_eq_some_iff.1 hg).1).trans hg, rest⟩
theorem OwnI.form (h : OwnI B w v l) : ∃ A c, v = .slice A l.length c := by
  obtain ⟨A, n, c, e, hn, _⟩ := h.isInts.open_
  subst hn
  exact ⟨A, c, e⟩
theorem ownI_snoc {x : Int} (h : w.ownsRow B 3 1 v (l.length + 1) (intC l ++ [.int .i64 x])) : OwnI B w v (l ++ [x]) := by
  unfold OwnI
  rw [intC_append, intC_one, List.length_append]
  exact h
theorem newsI {W : World} (x : Int) {g : Nat} (hg : W.heap.size = g) : ∀ (j : Nat) (u : Value), ([.int .i64 x] : List Value)[j]? = some u → (W.alloc (.cells #[.int .i64 x] 3)).cell? ((⟨g, 0, none⟩ : Addr).add j) = some u := by
  intro j u hj
  subst hg
  rw [Addr.add_lit, Nat.zero_add, cell_of_row _ _ _ _ _ _ (heap_alloc_new W _), ← hj]
  exact List.getElem?_toArray
theorem oneI (x : Int) : ∀ u ∈ ([.int .i64 x] : List Value), u.oneCell' = true := by
  intro u hu
  simp only [List.mem_cons, List.not_mem_nil, or_false] at hu
  subst hu
  rfl
theorem infoI : (Tryz.prog.info? 3).map (fun i => (i.zero, i.size, i.bytes)) = some (some (.int .i64 0), 1, 8) := by kernel_rfl
end

theorem slice_toI {w : World} {A : Option Addr} {n c : Nat} {l : List Int} (h : IsInts w (.slice A n c) l) (hn : n = l.length) {k : Nat} (hk : k ≤ n) :
    ∃ A1 c1, (∀ W, (Instr.slice 36 (.slice A n c) none (some (.int .i64 (k : Nat))) none).run Tryz.prog W = .ok (.slice A1 k c1) W) ∧ IsInts w (.slice A1 k c1) (l.take k) := by
  obtain ⟨A', c', e, hc, hr⟩ := h
  injection e with e1 e2 e3
  subst e1 e3
  refine ⟨if c = 0 then A else A.map (·.add (0 * 1)), c, fun W => ?_, ?_⟩
  · obtain ⟨i1, hi0, hz0, hz1, hz2⟩ := info_parts infoI
    have he : Tryz.prog.elem 36 = 3 := by simp [Program.elem, Tryz.underlying36]
    have ht : Tryz.prog.underlying 36 = some (.slice (Tryz.prog.elem 36)) := by rw [he]; exact Tryz.underlying36
    have hz : (Go.sizeOf 3).run Tryz.prog W = .ok 1 W := by simp [Go.sizeOf, typeInfo, hi0, hz1]
    rw [run_slice_h (P := Tryz.prog) W 36 A n c ht .i64 k (by omega) (by omega), he, hz]
    simp [sliced, Result.andThen]
  · by_cases h0 : k = 0
    · subst h0
      exact IsInts.none_ _ _ _
    · rw [if_neg (by omega)]
      obtain ⟨b, off, cur, fr, rfl, hb, hcl⟩ := hr.2 (by omega)
      refine ⟨some ⟨b, off + 0 * 1, none⟩, c, ?_, ?_, ?_, fun _ => ⟨b, off + 0 * 1, cur, fr, rfl, hb, fun j u hj => ?_⟩⟩
      · rw [List.length_take, Nat.min_eq_left (by omega), Option.map_some, Addr.add_lit]
      · rw [List.length_take]; omega
      · rw [intC_length]
      · rw [intC_take, List.getElem?_take] at hj
        split at hj
        · exact hcl j u hj
        · cases hj

theorem slice_fromI {w : World} {A : Option Addr} {n c : Nat} {l : List Int} (h : IsInts w (.slice A n c) l) (hn : n = l.length) {k : Nat} (hk : k ≤ n) :
    ∃ A1 c1, (∀ W, (Instr.slice 36 (.slice A n c) (some (.int .i64 (k : Nat))) none none).run Tryz.prog W = .ok (.slice A1 (n - k) c1) W) ∧ IsInts w (.slice A1 (n - k) c1) (l.drop k) := by
  obtain ⟨A', c', e, hc, hr⟩ := h
  injection e with e1 e2 e3
  subst e1 e3
  refine ⟨if c = k then A else A.map (·.add (k * 1)), c - k, fun W => ?_, ?_⟩
  · obtain ⟨i1, hi0, hz0, hz1, hz2⟩ := info_parts infoI
    have he : Tryz.prog.elem 36 = 3 := by simp [Program.elem, Tryz.underlying36]
    have ht : Tryz.prog.underlying 36 = some (.slice (Tryz.prog.elem 36)) := by rw [he]; exact Tryz.underlying36
    have hz : (Go.sizeOf 3).run Tryz.prog W = .ok 1 W := by simp [Go.sizeOf, typeInfo, hi0, hz1]
    rw [run_slice_l (P := Tryz.prog) W 36 A n c ht .i64 k (by omega) (by omega), he, hz]
    simp [sliced, Result.andThen]
  · by_cases h0 : k = n
    · have : l.drop k = [] := List.drop_of_length_le (by omega)
      rw [this, show n - k = 0 by omega]
      exact IsInts.none_ _ _ _
    · rw [if_neg (by omega)]
      obtain ⟨b, off, cur, fr, rfl, hb, hcl⟩ := hr.2 (by omega)
      refine ⟨some ⟨b, off + k * 1, none⟩, c - k, ?_, ?_, ?_, fun _ => ⟨b, off + k * 1, cur, fr, rfl, hb, fun j u hj => ?_⟩⟩
      · rw [List.length_drop, hn, Option.map_some, Addr.add_lit]
      · rw [List.length_drop]; omega
      · rw [intC_length]
      · rw [intC_drop, List.getElem?_drop] at hj
        rw [Nat.add_assoc]
        exact hcl _ u hj

/-- Pages as numbers. -/
def natI (l : List Nat) : List Int := l.map fun p : Nat => (p : Int)
theorem natI_len (l : List Nat) : (natI l).length = l.length := by simp [natI]
theorem natI_append (a b : List Nat) : natI (a ++ b) = natI a ++ natI b := by simp [natI]
theorem natI_at {l : List Nat} {k p : Nat} (h : l[k]? = some p) : (natI l)[k]? = some (p : Int) := by
  unfold natI
  rw [List.getElem?_map, h]
  rfl
theorem natI_take (l : List Nat) (k : Nat) : natI (l.take k) = (natI l).take k := by simp [natI, List.map_take]
theorem natI_drop (l : List Nat) (k : Nat) : natI (l.drop k) = (natI l).drop k := by simp [natI, List.map_drop]
theorem natI_inj {a b : List Nat} (h : natI a = natI b) : a = b := by
  unfold natI at h
  exact (List.map_inj_right (fun x y e => by omega)).1 h
/-- Numbers as runs of one. -/
def onesI (l : List Int) : List (Int × Int) := l.map fun p => (p, (1 : Int))
theorem ones_nat (l : List Nat) : onesI (natI l) = ones l := by simp [onesI, natI, ones]

theorem rise_few {n : Nat} : ∀ {l : List Lf} {a : Nat}, RiseL l → (∀ x ∈ l, (a : Int) ≤ x.no) → (∀ x ∈ l, x.no < (n : Int)) → l = [] ∨ a + l.length ≤ n
  | [], _, _, _, _ => .inl rfl
  | x :: l, a, h, h1, h2 => by
    rw [RiseL, List.pairwise_cons] at h
    have e1 := h1 x (by simp)
    have e2 := h2 x (by simp)
    rcases rise_few (n := n) (l := l) (a := a + 1) h.2 (fun y hy => by have := h.1 y hy; omega) (fun y hy => h2 y (by simp [hy])) with rfl | e
    · right; simp; omega
    · right; simp; omega
/-- A vault at rest, for the calls. -/
theorem Still.good {x : Sh} {k : VK} (hx : rightS x = true) (h : Still x k) : VGood k ∧ RiseL k.dirty ∧ k.disk.sure.length ≤ 1000000 ∧ k.disk.wet.length ≤ 1000000 ∧ k.dirty.length ≤ 1000000 ∧ k.shape = x := by
  obtain ⟨a, b, c, e, f, g⟩ := right_nat hx
  have hN : NN x ≤ 2000 := by unfold NN; omega
  have hl : k.dirty.length ≤ 512 := by
    have h1 := h.rise
    have h2 := h.lok
    rcases rise_few (n := PN x) (a := 0) h1 (fun y hy => by have := h2.lo y hy; omega) h2.hi with e | e
    · rw [e]; simp
    · omega
  have hp := h.pl
  refine ⟨⟨⟨NN x, 0, hp, hN, by omega⟩, by rw [h.shape, a]; omega, by omega⟩, h.rise, ?_, ?_, by omega, h.shape⟩
  · have := hp.good.sure
    omega
  · have := h.dry
    rw [this]
    simp
theorem CV_len {x : Sh} {k : VK} (h : Still x k) (j : Nat) : (CV k j).length = 208 := by
  unfold CV
  exact ovr_len h.lok.len (Ent.zer_len 208)
end Go.Proofs.YtgeiemccjionpaaGreat.Chn

/- VRWrite -/
namespace Go.Proofs.YtgeiemccjionpaaGreat.Vlt
open Go.RowKit Go.Sort
open Dsk

theorem tw_takeL {p : Lf} : ∀ (l : List Lf) (i : Nat), (∀ q x, q < i → l[q]? = some x → x.no < p.no) → (∀ x, l[i]? = some x → ¬ x.no < p.no) → i ≤ l.length →
    l.takeWhile (fun o => decide (o.no < p.no)) = l.take i ∧ l.dropWhile (fun o => decide (o.no < p.no)) = l.drop i
  | [], i, _, _, hi => by simp
  | y :: l, i, h1, h2, hi => by
    cases i with
    | zero =>
      have := h2 y rfl
      rw [List.takeWhile_cons_of_neg (by simpa using this), List.dropWhile_cons_of_neg (by simpa using this)]
      exact ⟨rfl, rfl⟩
    | succ i =>
      have h0 := h1 0 y (by omega) rfl
      obtain ⟨a, b⟩ := tw_takeL l i (fun q x hq hx => h1 (q + 1) x (by omega) (by simpa using hx)) (fun x hx => h2 x (by simpa using hx)) (by simpa using hi)
      rw [List.takeWhile_cons_of_pos (by simpa using h0), List.dropWhile_cons_of_pos (by simpa using h0), a, b]
      exact ⟨rfl, rfl⟩
theorem acc_nextL {l : List Lf} {i j : Nat} {o p : Lf} (h : i ≤ j) (ho : l[j]? = some o) :
    ((l.drop i).take (j + 1 - i)).filter (fun o => decide (o.no ≠ p.no)) = ((l.drop i).take (j - i)).filter (fun o => decide (o.no ≠ p.no)) ++ (if o.no = p.no then [] else [o]) := by
  have e : (l.drop i).take (j + 1 - i) = (l.drop i).take (j - i) ++ [o] := by
    rw [show j + 1 - i = j - i + 1 by omega, List.take_add_one, List.getElem?_drop, show i + (j - i) = j by omega, ho]
    rfl
  rw [e, List.filter_append]
  by_cases hn : o.no = p.no
  · simp [hn]
  · simp [hn]

/-- The world behind the store of a whole vault, under a name of its own. -/
theorem box_store8 {w : World} {g : Nat} {a0 a1 a2 a3 a4 a5 a6 a7 : Value} (h : w.heap[g]? = some (.cells #[a0, a1, a2, a3, a4, a5, a6, a7] 32 (0, 0))) (b0 b1 b2 b3 b4 b5 b6 b7 : Value) :
    ∃ X, (((((((w.setCell ⟨g, 0, none⟩ b0).setCell ⟨g, 1, none⟩ b1).setCell ⟨g, 2, none⟩ b2).setCell ⟨g, 3, none⟩ b3).setCell ⟨g, 4, none⟩ b4).setCell ⟨g, 5, none⟩ b5).setCell ⟨g, 6, none⟩ b6).setCell ⟨g, 7, none⟩ b7 = X ∧
      X.heap[g]? = some (.cells #[b0, b1, b2, b3, b4, b5, b6, b7] 32 (0, 0)) ∧ (∀ k : Nat, k ≠ g → X.heap[k]? = w.heap[k]?) ∧ (∀ (B : Nat) (a : World), Below B a w → B ≤ g → Below B a X) := by
  refine ⟨_, rfl, ?_, fun k hk => ?_, fun B a hb hg => ?_⟩
  · have h0 : (w.setCell ⟨g, 0, none⟩ b0).heap[g]? = some (.cells #[b0, a1, a2, a3, a4, a5, a6, a7] 32 (0, 0)) := heap_setCell_same w g 0 _ 32 _ h
    have h1 : ((w.setCell ⟨g, 0, none⟩ b0).setCell ⟨g, 1, none⟩ b1).heap[g]? = some (.cells #[b0, b1, a2, a3, a4, a5, a6, a7] 32 (0, 0)) := heap_setCell_same (w.setCell ⟨g, 0, none⟩ b0) g 1 _ 32 _ h0
    have h2 : (((w.setCell ⟨g, 0, none⟩ b0).setCell ⟨g, 1, none⟩ b1).setCell ⟨g, 2, none⟩ b2).heap[g]? = some (.cells #[b0, b1, b2, a3, a4, a5, a6, a7] 32 (0, 0)) := heap_setCell_same ((w.setCell ⟨g, 0, none⟩ b0).setCell ⟨g, 1, none⟩ b1) g 2 _ 32 _ h1
    have h3 : ((((w.setCell ⟨g, 0, none⟩ b0).setCell ⟨g, 1, none⟩ b1).setCell ⟨g, 2, none⟩ b2).setCell ⟨g, 3, none⟩ b3).heap[g]? = some (.cells #[b0, b1, b2, b3, a4, a5, a6, a7] 32 (0, 0)) := heap_setCell_same (((w.setCell ⟨g, 0, none⟩ b0).setCell ⟨g, 1, none⟩ b1).setCell ⟨g, 2, none⟩ b2) g 3 _ 32 _ h2
    have h4 : (((((w.setCell ⟨g, 0, none⟩ b0).setCell ⟨g, 1, none⟩ b1).setCell ⟨g, 2, none⟩ b2).setCell ⟨g, 3, none⟩ b3).setCell ⟨g, 4, none⟩ b4).heap[g]? = some (.cells #[b0, b1, b2, b3, b4, a5, a6, a7] 32 (0, 0)) := heap_setCell_same ((((w.setCell ⟨g, 0, none⟩ b0).setCell ⟨g, 1, none⟩ b1).setCell ⟨g, 2, none⟩ b2).setCell ⟨g, 3, none⟩ b3) g 4 _ 32 _ h3
    have h5 : ((((((w.setCell ⟨g, 0, none⟩ b0).setCell ⟨g, 1, none⟩ b1).setCell ⟨g, 2, none⟩ b2).setCell ⟨g, 3, none⟩ b3).setCell ⟨g, 4, none⟩ b4).setCell ⟨g, 5, none⟩ b5).heap[g]? = some (.cells #[b0, b1, b2, b3, b4, b5, a6, a7] 32 (0, 0)) := heap_setCell_same (((((w.setCell ⟨g, 0, none⟩ b0).setCell ⟨g, 1, none⟩ b1).setCell ⟨g, 2, none⟩ b2).setCell ⟨g, 3, none⟩ b3).setCell ⟨g, 4, none⟩ b4) g 5 _ 32 _ h4
    have h6 : (((((((w.setCell ⟨g, 0, none⟩ b0).setCell ⟨g, 1, none⟩ b1).setCell ⟨g, 2, none⟩ b2).setCell ⟨g, 3, none⟩ b3).setCell ⟨g, 4, none⟩ b4).setCell ⟨g, 5, none⟩ b5).setCell ⟨g, 6, none⟩ b6).heap[g]? = some (.cells #[b0, b1, b2, b3, b4, b5, b6, a7] 32 (0, 0)) := heap_setCell_same ((((((w.setCell ⟨g, 0, none⟩ b0).setCell ⟨g, 1, none⟩ b1).setCell ⟨g, 2, none⟩ b2).setCell ⟨g, 3, none⟩ b3).setCell ⟨g, 4, none⟩ b4).setCell ⟨g, 5, none⟩ b5) g 6 _ 32 _ h5
    have h7 : ((((((((w.setCell ⟨g, 0, none⟩ b0).setCell ⟨g, 1, none⟩ b1).setCell ⟨g, 2, none⟩ b2).setCell ⟨g, 3, none⟩ b3).setCell ⟨g, 4, none⟩ b4).setCell ⟨g, 5, none⟩ b5).setCell ⟨g, 6, none⟩ b6).setCell ⟨g, 7, none⟩ b7).heap[g]? = some (.cells #[b0, b1, b2, b3, b4, b5, b6, b7] 32 (0, 0)) := heap_setCell_same (((((((w.setCell ⟨g, 0, none⟩ b0).setCell ⟨g, 1, none⟩ b1).setCell ⟨g, 2, none⟩ b2).setCell ⟨g, 3, none⟩ b3).setCell ⟨g, 4, none⟩ b4).setCell ⟨g, 5, none⟩ b5).setCell ⟨g, 6, none⟩ b6) g 7 _ 32 _ h6
    exact h7
  · rw [Below.heap_setCell _ _ _ _ hk, Below.heap_setCell _ _ _ _ hk, Below.heap_setCell _ _ _ _ hk, Below.heap_setCell _ _ _ _ hk, Below.heap_setCell _ _ _ _ hk, Below.heap_setCell _ _ _ _ hk, Below.heap_setCell _ _ _ _ hk, Below.heap_setCell _ _ _ _ hk]
  · exact (((((((hb.setCell (p := ⟨g, 0, none⟩) hg _).setCell (p := ⟨g, 1, none⟩) hg _).setCell (p := ⟨g, 2, none⟩) hg _).setCell (p := ⟨g, 3, none⟩) hg _).setCell (p := ⟨g, 4, none⟩) hg _).setCell (p := ⟨g, 5, none⟩) hg _).setCell (p := ⟨g, 6, none⟩) hg _).setCell (p := ⟨g, 7, none⟩) hg _
theorem box8 {W : World} {g : Nat} {v0 v1 v2 v3 v4 v5 v6 v7 : Value} {t : TypeId} (h : W.heap[g]? = some (.cells #[v0, v1, v2, v3, v4, v5, v6, v7] t (0, 0))) :
    (W.cell? ⟨g, 0, none⟩ = some v0 ∧ W.cell? ⟨g, 1, none⟩ = some v1 ∧ W.cell? ⟨g, 2, none⟩ = some v2 ∧ W.cell? ⟨g, 3, none⟩ = some v3 ∧ W.cell? ⟨g, 4, none⟩ = some v4 ∧ W.cell? ⟨g, 5, none⟩ = some v5 ∧ W.cell? ⟨g, 6, none⟩ = some v6 ∧ W.cell? ⟨g, 7, none⟩ = some v7) ∧
    ∀ i : Nat, W.frozen? ⟨g, i, none⟩ = false := by
  refine ⟨⟨?_, ?_, ?_, ?_, ?_, ?_, ?_, ?_⟩, fun i => ?_⟩ <;> simp [World.cell?, World.frozen?, h]

theorem IsVault.other {w w' : World} {v : Value} {k : VK} (h : IsVault w v k) {g : Nat} {cur : Array Value} {fr : Nat × Nat} (hg : w.heap[g]? = some (.cells cur 32 fr)) (hk : ∀ b : Nat, b ≠ g → w'.heap[b]? = w.heap[b]?) : IsVault w' v k := by
  obtain ⟨vs, vw, vd, e, h1, h2⟩ := h
  exact ⟨vs, vw, vd, e, h1.other hg (by decide) (by decide) hk, SL.other h2 hg (by decide) hk⟩

/-- The boxes of Write: the vault's, the answer's. -/
structure WB (w W : World) (v0 v1 v7 : Value) (k : VK) : Prop where
  a : VBox W w.heap.size v0 v1 v7 k
  z : W.heap[w.heap.size + 1]? = some (.cells #[.slice none 0 0, .slice none 0 0, .bool false, .int .i64 0, .int .i64 0, .int .i64 0, .int .i64 0, .slice none 0 0] 32 (0, 0))
  below : Below w.heap.size w W
theorem WB.more {w W W' : World} {v0 v1 v7 : Value} {k : VK} (h : WB w W v0 v1 v7 k) (hb : Below W.heap.size W W') : WB w W' v0 v1 v7 k := ⟨h.a.below hb, box_kept _ h.z hb, Dsk.below_trans' h.below hb⟩
theorem WB.new (w : World) (v0 v1 v7 : Value) (k : VK) : ∃ Y, Y = (w.alloc (.cells #[v0, v1, .bool k.disk.dead, .int .i64 k.disk.left, .int .i64 k.shape.pages, .int .i64 k.shape.journal, .int .i64 k.seq, v7] 32)).alloc (.cells #[.slice none 0 0, .slice none 0 0, .bool false, .int .i64 0, .int .i64 0, .int .i64 0, .int .i64 0, .slice none 0 0] 32) ∧ WB w Y v0 v1 v7 k := by
  refine ⟨_, rfl, (VBox.new w v0 v1 v7 k).below (below_one _ _), ?_, Dsk.below_trans' (below_one _ _) (below_one _ _)⟩
  have := heap_alloc_new (w.alloc (.cells #[v0, v1, .bool k.disk.dead, .int .i64 k.disk.left, .int .i64 k.shape.pages, .int .i64 k.shape.journal, .int .i64 k.seq, v7] 32)) (.cells #[.slice none 0 0, .slice none 0 0, .bool false, .int .i64 0, .int .i64 0, .int .i64 0, .int .i64 0, .slice none 0 0] 32)
  simpa using this

set_option maxRecDepth 100000 in
set_option maxHeartbeats 8000000 in
/-- Refused. -/
theorem rwrite_no (v : Value) (k : VK) (no : Int) (data : List UInt8) (w : World) (hv : IsVault w v k) (E : Int) (hE : (¬ (hasP k no ∧ data.length ≤ 208) ∧ E = 1) ∨ ((hasP k no ∧ data.length ≤ 208) ∧ k.disk.dead = true ∧ E = 12)) :
    Calls Tryz.prog 42 #[v, .int .i64 no, .string (strB data)] w fun e w' => ∃ v', e = .returned (.tuple #[v', .int .i64 E]) ∧ IsVault w' v' k ∧ Below w.heap.size w w' := by
  obtain ⟨vs, vw, vd, rfl, h1, h2⟩ := id hv
  obtain ⟨A1, n1, c1, A2, n2, c2, e1⟩ := h1.parts
  obtain ⟨rfl, rfl⟩ : vs = .slice A1 n1 c1 ∧ vw = .slice A2 n2 c2 := by
    simp only [Value.agg.injEq, Array.mk.injEq, List.cons.injEq] at e1
    exact ⟨e1.1, e1.2.1⟩
  obtain ⟨A, n, c, rfl, hn, _, hr⟩ := h2.open_
  have HB : Hid (∀ o1 o2, Below w.heap.size w ((w.alloc o1).alloc o2)) := Lib.hid (fun o1 o2 => Dsk.below_trans' (below_one w o1) (below_one _ o2))
  have HF : Hid (∀ o1 o2, IsVault ((w.alloc o1).alloc o2) (.agg #[.slice A1 n1 c1, .slice A2 n2 c2, .bool k.disk.dead, .int .i64 k.disk.left, .int .i64 k.shape.pages, .int .i64 k.shape.journal, .int .i64 k.seq, .slice A n c]) k) := Lib.hid (fun o1 o2 => hv.below (HB.out o1 o2))
  have hsz := strB_size data
  clear h1 h2 hn hr hv e1
  rcases hE with ⟨hE, rfl⟩ | ⟨hE, hd, rfl⟩
  · by_cases hlo : no < 0
    · clear hE
      go_enter Tryz.func42, Tryz.ntmps42
      go_wp2_with fail
      exact bodyPost_ret (v := .tuple #[.agg #[.slice A1 n1 c1, .slice A2 n2 c2, .bool k.disk.dead, .int .i64 k.disk.left, .int .i64 k.shape.pages, .int .i64 k.shape.journal, .int .i64 k.seq, .slice A n c], .int .i64 1]) (by simp [results, Tryz.results42, go_sem]) rfl ⟨_, rfl, HF.out _ _, HB.out _ _⟩
    · have hlo' : 0 ≤ no := by omega
      by_cases hhi : k.shape.pages ≤ no
      · clear hE
        go_enter Tryz.func42, Tryz.ntmps42
        go_wp2_with fail
        exact bodyPost_ret (v := .tuple #[.agg #[.slice A1 n1 c1, .slice A2 n2 c2, .bool k.disk.dead, .int .i64 k.disk.left, .int .i64 k.shape.pages, .int .i64 k.shape.journal, .int .i64 k.seq, .slice A n c], .int .i64 1]) (by simp [results, Tryz.results42, go_sem]) rfl ⟨_, rfl, HF.out _ _, HB.out _ _⟩
      · have hl : 208 < data.length := by
          apply Classical.byContradiction
          intro h
          exact hE ⟨⟨hlo', by omega⟩, by omega⟩
        have hl2 : (208 : Int) < ((strB data).size : Int) := by omega
        have hl3 : 208 < (strB data).size := by omega
        have hhi' : no < k.shape.pages := by omega
        clear hE
        go_enter Tryz.func42, Tryz.ntmps42
        go_wp2_with fail
        exact bodyPost_ret (v := .tuple #[.agg #[.slice A1 n1 c1, .slice A2 n2 c2, .bool k.disk.dead, .int .i64 k.disk.left, .int .i64 k.shape.pages, .int .i64 k.shape.journal, .int .i64 k.seq, .slice A n c], .int .i64 1]) (by simp [results, Tryz.results42, go_sem]) rfl ⟨_, rfl, HF.out _ _, HB.out _ _⟩
  · obtain ⟨⟨h1, h2⟩, h3⟩ := hE
    have hl2 : ¬ (208 : Int) < ((strB data).size : Int) := by omega
    have hl3 : ¬ 208 < (strB data).size := by omega
    rw [hd] at HF ⊢
    go_enter Tryz.func42, Tryz.ntmps42
    go_wp2_with fail
    exact bodyPost_ret (v := .tuple #[.agg #[.slice A1 n1 c1, .slice A2 n2 c2, .bool true, .int .i64 k.disk.left, .int .i64 k.shape.pages, .int .i64 k.shape.journal, .int .i64 k.seq, .slice A n c], .int .i64 12]) (by simp [results, Tryz.results42, go_sem]) rfl ⟨_, rfl, HF.out _ _, HB.out _ _⟩


set_option maxRecDepth 100000 in
set_option maxHeartbeats 16000000 in
/-- Written. -/
theorem rwrite_ok (v : Value) (k : VK) (no : Int) (data : List UInt8) (w : World) (hv : IsVault w v k) (hg : VGood k) (hR : RiseL k.dirty) (hE : hasP k no ∧ data.length ≤ 208) (hd : k.disk.dead = false) :
    Calls Tryz.prog 42 #[v, .int .i64 no, .string (strB data)] w fun e w' => ∃ v', e = .returned (.tuple #[v', .int .i64 0]) ∧ IsVault w' v' { k with dirty := insL ⟨no, padP data⟩ k.dirty } ∧ Below w.heap.size w w' := by
  obtain ⟨vs, vw, vd, rfl, h1, h2⟩ := id hv
  obtain ⟨i1, hi0, hz0, hz1, hz2⟩ := info_parts info48
  obtain ⟨A1, n1, c1, A2, n2, c2, e1⟩ := h1.parts
  obtain ⟨rfl, rfl⟩ : vs = .slice A1 n1 c1 ∧ vw = .slice A2 n2 c2 := by
    simp only [Value.agg.injEq, Array.mk.injEq, List.cons.injEq] at e1
    exact ⟨e1.1, e1.2.1⟩
  obtain ⟨A, n, c, rfl, hn, _, hr⟩ := h2.open_
  obtain ⟨⟨hlo, hhi⟩, hlen⟩ := hE
  have hnm : n ≤ 1000 := by have := hg.dirty; omega
  obtain ⟨Y, hY, hB⟩ := WB.new w (.slice A1 n1 c1) (.slice A2 n2 c2) (.slice A n c) k
  obtain ⟨b, hb⟩ : ∃ b, b = 208 - data.length := ⟨_, rfl⟩
  obtain ⟨P, hP⟩ : ∃ P, P = padP data := ⟨_, rfl⟩
  have hsz := strB_size data
  have hm : (208 : Int) - ((strB data).size : Int) = (b : Nat) := by omega
  have hm1 : (0 : Int) ≤ 208 - ((strB data).size : Int) := by omega
  have hm2 : ((strB data).size : Int) ≤ 208 := by omega
  have hm3 : ¬ (208 : Int) < ((strB data).size : Int) := by omega
  have hm4 : ¬ 208 < (strB data).size := by omega
  have hz3 : (strB data).size + (strB (Ent.zer b)).size ≤ 5000 := by rw [strB_size, strB_size, Ent.zer_len]; omega
  have hz4 : ¬ 9223372036854775807 < (strB data).size + (strB (Ent.zer b)).size := fun h => absurd (Nat.lt_of_lt_of_le h hz3) (by decide)
  have hmk := Wire.make_zeros b (by omega)
  have hc : ∀ W : World, (convert 70 9 (.slice (some ⟨W.heap.size, 0, none⟩) b b)).run Tryz.prog (W.alloc (.cells (madeCells #[.int .u8 0] b) 5)) = .ok (.string (strB (Ent.zer b))) (W.alloc (.cells (madeCells #[.int .u8 0] b) 5)) := Wire.conv_zeros b
  have hf := Lib.hid (show strB data ++ strB (Ent.zer b) = strB P by rw [hP]; unfold padP; rw [strB_append, hb])
  have HP := Lib.hid hP
  have HY := Lib.hid hY
  have HWB := Lib.hid hB
  have HN := Lib.hid hn
  have HR := Lib.hid hr
  have HV := Lib.hid hv
  have HRI := Lib.hid hR
  have HI := Lib.hid (h1)
  have hhi' : ¬ k.shape.pages ≤ no := by omega
  have hlo' : ¬ no < 0 := by omega
  obtain ⟨Y2, hY2⟩ : ∃ Y2, Y2 = (Y.alloc (.cells (madeCells #[.int .u8 0] b) 5)).alloc (.cells #[.int .i64 no, .string (strB P)] 98) := ⟨_, rfl⟩
  have hB2 : Below Y.heap.size Y Y2 := by rw [hY2]; exact Dsk.below_trans' (below_one _ _) (below_one _ _)
  have hs2 : Y2.heap.size = Y.heap.size + 2 := by rw [hY2]; simp
  have hs1 : Y.heap.size = w.heap.size + 2 := by rw [hY]; simp
  have hleaf : Y2.heap[Y.heap.size + 1]? = some (.cells #[.int .i64 no, .string (strB P)] 98 (0, 0)) := by
    have := heap_alloc_new (Y.alloc (.cells (madeCells #[.int .u8 0] b) 5)) (.cells #[.int .i64 no, .string (strB P)] 98)
    rw [← hY2, show (Y.alloc (.cells (madeCells #[.int .u8 0] b) 5)).heap.size = Y.heap.size + 1 by simp] at this
    exact this
  have HY2 := Lib.hid hY2
  have HW2 := Lib.hid (hB.more hB2)
  have HLF := Lib.hid hleaf
  have HS2 := Lib.hid (show Y2.heap.size = w.heap.size + 4 by omega)
  rw [hd] at hv ⊢
  rw [hd] at HY
  clear hY hB hn hr hR h1 h2 hg hb hP hY2 hB2 hs2 hs1 hleaf e1 hz3 hlen hhi hv hsz
  go_enter Tryz.func42, Tryz.ntmps42
  go_upto_region 5 with (fail)
  rw [← HY.out]
  go_wp2_with fail
  rw [hf.out, ← HY2.out]
  clear HY2 hmk hc hf hm hm1 hm2 hm3 hm4 hz4
  obtain ⟨B, hB⟩ : ∃ B, B = Y2.heap.size := ⟨_, rfl⟩
  have HBB := Lib.hid hB
  clear hB
  go_loopw [9, 10] (fun s9 s10 wr => ∃ (i : Nat) (Z : Option Addr) (z : Nat), i ≤ n ∧ s10 = .int .i64 i ∧ s9 = .slice Z (k.dirty.take i).length z ∧ OwnL B wr (.slice Z (k.dirty.take i).length z) (k.dirty.take i) ∧ (∀ q x, q < i → k.dirty[q]? = some x → x.no < no) ∧ Below Y2.heap.size Y2 wr) (fun _ s10 _ => n - (intOf s10).toNat)
  case atStart => exact ⟨0, none, 0, Nat.zero_le _, rfl, rfl, OwnL.nil _ _, fun q x hq => absurd hq (by omega), Below.refl _ _⟩
  case round =>
    obtain ⟨i, Z, z, hi, rfl, rfl, how, hno, hbr⟩ := hrel
    have HOW := Lib.hid how
    have HNO := Lib.hid hno
    have HBR := Lib.hid hbr
    have htl : (k.dirty.take i).length ≤ 1000 := by rw [List.length_take]; omega
    have hBwr : B ≤ wr.heap.size := by rw [HBB.out]; exact hbr.size
    clear how hno hbr
    obtain ⟨i0, i1', i2, i3, i4, i5, i6, i7⟩ := (HW2.out.more HBR.out).a.at_
    rw [hd] at i2
    by_cases hgo : ∃ o, k.dirty[i]? = some o ∧ o.no < no
    · obtain ⟨o, ho, hlt⟩ := hgo
      have hin : i < n := by have := (List.getElem?_eq_some_iff.1 ho).1; have := HN.out; omega
      obtain ⟨bb, off, rfl, x0, x1⟩ := lf_at HR.out (Dsk.below_trans' HW2.out.below HBR.out) ho (by omega)
      have hi1 : (0 : Int) ≤ (i : Int) := by omega
      have hi2 : (i : Int) < (n : Int) := by omega
      have htk : k.dirty.take (i + 1) = k.dirty.take i ++ [o] := by rw [List.take_add_one, ho]; rfl
      have HTK := Lib.hid htk
      have HO := Lib.hid ho
      have HLT := Lib.hid hlt
      clear htk ho
      go_wp2_with (at_builtin; refine wpList_append_own_at _ (by rfl) (.tmp 58) (.tmp 64) 30 (by rfl) B 98 i1 _ 2 24 Tryz.underlying30 hi0 hz0 hz1 hz2 (by rfl) (by omega) _ (k.dirty.take i).length (lfCells (k.dirty.take i)) (by rfl) (by exact World.ownsRow.alloc HOW.out _) ⟨wr.heap.size, 0, none⟩ 1 1 [.int .i64 o.no, .string (strB o.data)] (by rfl) (by rfl) (by exact newsL o rfl) (oneL o) (Nat.le_trans (show (k.dirty.take i).length + 1 ≤ 1000000 by omega) (by decide)) (by omega) (by simp; omega) ?_; intro v' w' hown' hgrow' hnil' hat')
      obtain ⟨Z', z', hZ⟩ := (ownL_snoc (l := k.dirty.take i) (x := o) hown').form
      have HO5 : Hid (OwnL B w' v' (k.dirty.take (i + 1))) := Lib.hid (by rw [HTK.out]; exact ownL_snoc (l := k.dirty.take i) (x := o) hown')
      have HB5 : Hid (Below Y2.heap.size Y2 w') := Lib.hid (below_grown (Dsk.below_trans' HBR.out (below_one _ _)) hgrow' (fun i hi => by have := HOW.out.ge i hi; rw [HBB.out] at this; exact this) (by have := HBR.out.size; simp; omega))
      rw [← HTK.out] at hZ
      clear hown' hgrow' hnil' hat'
      subst hZ
      go_wp2_with fail
      refine ⟨⟨i + 1, Z', z', by omega, by go_num, rfl, HO5.out, fun q x hq hx => ?_, HB5.out⟩, by simp [intOf]; omega⟩
      by_cases e : q = i
      · subst e
        rw [HO.out] at hx
        injection hx with hx
        subst hx
        exact HLT.out
      · exact HNO.out q x (by omega) hx
    · have hstop : ∀ x, k.dirty[i]? = some x → ¬ x.no < no := fun x hx hl => hgo ⟨x, hx, hl⟩
      have htw := tw_takeL (p := ⟨no, P⟩) k.dirty i HNO.out hstop (by have := HN.out; omega)
      have HTW := Lib.hid htw
      obtain ⟨T, hT⟩ : ∃ T, T = k.dirty.take i := ⟨_, rfl⟩
      have HTi : Hid (T.length = i) := Lib.hid (by rw [hT, List.length_take]; have := HN.out; omega)
      have HT := Lib.hid hT
      have hTl : T.length ≤ 1000 := by rw [hT]; exact htl
      have HST := Lib.hid hstop
      rw [← hT] at HOW ⊢
      have hlf := box_kept _ HLF.out HBR.out
      have y0 : wr.cell? ⟨Y.heap.size + 1, 0, none⟩ = some (.int .i64 no) := by rw [cell_of_row wr _ _ _ _ _ hlf]; rfl
      have y1 : wr.cell? ⟨Y.heap.size + 1, 1, none⟩ = some (.string (strB P)) := by rw [cell_of_row wr _ _ _ _ _ hlf]; rfl
      clear htw hT htl hstop hgo hlf
      by_cases hin : i < n
      all_goals
        first
          | (obtain ⟨o, ho⟩ : ∃ o, k.dirty[i]? = some o := ⟨_, List.getElem?_eq_getElem (by have := HN.out; omega)⟩
             obtain ⟨bb, off, rfl, x0, x1⟩ := lf_at HR.out (Dsk.below_trans' HW2.out.below HBR.out) ho (by omega)
             have hi1 : (0 : Int) ≤ (i : Int) := by omega
             have hi2 : (i : Int) < (n : Int) := by omega
             have hge : ¬ o.no < no := HST.out o ho
             clear ho
             go_upto_region 11 with (fail))
          | (have hi2 : ¬ (i : Int) < (n : Int) := by omega
             go_upto_region 11 with (fail))
        go_wp2_with (at_builtin; refine wpList_append_own_at _ (by rfl) (.tmp 68) (.tmp 70) 30 (by rfl) B 98 i1 _ 2 24 Tryz.underlying30 hi0 hz0 hz1 hz2 (by rfl) (by omega) _ T.length (lfCells T) (by rfl) (by exact World.ownsRow.alloc HOW.out _) ⟨wr.heap.size, 0, none⟩ 1 1 [.int .i64 (⟨no, P⟩ : Lf).no, .string (strB (⟨no, P⟩ : Lf).data)] (by rfl) (by rfl) (by exact newsL (⟨no, P⟩ : Lf) rfl) (oneL (⟨no, P⟩ : Lf)) (Nat.le_trans (show T.length + 1 ≤ 1000000 by omega) (by decide)) (by omega) (by simp; omega) ?_; intro v' w' hown' hgrow' hnil' hat')
        obtain ⟨Z', z', hZ⟩ := (ownL_snoc (l := T) (x := ⟨no, P⟩) hown').form
        have HO5 : Hid (OwnL B w' v' (T ++ [⟨no, P⟩])) := Lib.hid (ownL_snoc (l := T) (x := ⟨no, P⟩) hown')
        have HB5 : Hid (Below Y2.heap.size Y2 w') := Lib.hid (below_grown (Dsk.below_trans' HBR.out (below_one _ _)) hgrow' (fun i hi => by have := HOW.out.ge i hi; rw [HBB.out] at this; exact this) (by have := HBR.out.size; simp; omega))
        clear hown' hgrow' hnil' hat'
        subst hZ
        go_wp2_with fail
        have HTL := Lib.hid hTl
        clear i0 i1' i2 i3 i4 i5 i6 i7 y0 y1 HOW HBR hBwr hTl
        go_loopw [9, 12] (fun s9 s12 wr => ∃ (j : Nat) (acc : List Lf) (Z2 : Option Addr) (z2 : Nat), T.length ≤ j ∧ j ≤ n ∧ s12 = .int .i64 j ∧ s9 = .slice Z2 acc.length z2 ∧ acc = T ++ [⟨no, P⟩] ++ ((k.dirty.drop i).take (j - i)).filter (fun o => decide (o.no ≠ no)) ∧ OwnL B wr (.slice Z2 acc.length z2) acc ∧ acc.length ≤ j + 1 ∧ Below Y2.heap.size Y2 wr) (fun _ s12 _ => n - (intOf s12).toNat)
        case atStart => exact ⟨T.length, T ++ [⟨no, P⟩], Z', z', Nat.le_refl _, by rw [HTi.out]; exact hi, rfl, rfl, by rw [HTi.out]; simp, HO5.out, by simp, HB5.out⟩
        case round =>
          obtain ⟨j, acc, Z2, z2, hj1, hj2, rfl, rfl, hacc, how, hal, hbr⟩ := hrel
          have HACC := Lib.hid hacc
          have HOW := Lib.hid how
          have HBR := Lib.hid hbr
          have HAL := Lib.hid hal
          have hij : i ≤ j := by have := HTi.out; omega
          have hBwr : B ≤ wr.heap.size := by rw [HBB.out]; exact hbr.size
          clear hacc how hbr hal
          have hWB := HW2.out.more HBR.out
          obtain ⟨i0, i1', i2, i3, i4, i5, i6, i7⟩ := hWB.a.at_
          rw [hd] at i2
          by_cases hjn : j < n
          · first
              | exact absurd (show i < n by have := HTi.out; omega) hin
              | (obtain ⟨o, ho⟩ : ∃ o, k.dirty[j]? = some o := ⟨_, List.getElem?_eq_getElem (by have := HN.out; omega)⟩
                 obtain ⟨b2, o2, eA, x0, x1⟩ := lf_at HR.out (Dsk.below_trans' HW2.out.below HBR.out) ho (by omega)
                 first
                   | subst eA
                   | (simp only [Option.some.injEq, Addr.mk.injEq] at eA; obtain ⟨rfl, rfl, _⟩ := eA)
                 have hi1 : (0 : Int) ≤ (j : Int) := by omega
                 have hi2 : (j : Int) < (n : Int) := by omega
                 have hnx := acc_nextL (p := ⟨no, P⟩) hij ho
                 have HNX := Lib.hid hnx
                 clear hnx ho hWB
                 by_cases ho : o.no = no
                 · have ho2 : (o.no == no) = true := by simpa using ho
                   have ho3 : (o.no != no) = false := by rw [bne, ho2]; rfl
                   have HO := Lib.hid ho
                   clear ho
                   go_wp2_with fail
                   exact ⟨⟨j + 1, acc, Z2, z2, by omega, by omega, by go_num, rfl, by have h := HNX.out; dsimp only at h; rw [h, if_pos HO.out, List.append_nil]; exact HACC.out, HOW.out, by have := HAL.out; omega, HBR.out⟩, by simp [intOf]; omega⟩
                 · have ho2 : (o.no == no) = false := by simpa using ho
                   have ho3 : (o.no != no) = true := by rw [bne, ho2]; rfl
                   have HO := Lib.hid ho
                   have hacl : acc.length ≤ 1001 := by have := HAL.out; omega
                   clear ho
                   go_wp2_with (at_builtin; refine wpList_append_own_at _ (by rfl) (.tmp 88) (.tmp 94) 30 (by rfl) B 98 i1 _ 2 24 Tryz.underlying30 hi0 hz0 hz1 hz2 (by rfl) (by omega) _ acc.length (lfCells acc) (by rfl) (by exact World.ownsRow.alloc HOW.out _) ⟨wr.heap.size, 0, none⟩ 1 1 [.int .i64 o.no, .string (strB o.data)] (by rfl) (by rfl) (by exact newsL o rfl) (oneL o) (Nat.le_trans (show acc.length + 1 ≤ 1000000 by omega) (by decide)) (by omega) (by simp; omega) ?_; intro v' w' hown' hgrow' hnil' hat')
                   obtain ⟨Z3, z3, hZ⟩ := (ownL_snoc (l := acc) (x := o) hown').form
                   have HO6 : Hid (OwnL B w' v' (acc ++ [o])) := Lib.hid (ownL_snoc (l := acc) (x := o) hown')
                   have HB6 : Hid (Below Y2.heap.size Y2 w') := Lib.hid (below_grown (Dsk.below_trans' HBR.out (below_one _ _)) hgrow' (fun i hi => by have := HOW.out.ge i hi; rw [HBB.out] at this; exact this) (by have := HBR.out.size; simp; omega))
                   clear hown' hgrow' hnil' hat'
                   subst hZ
                   go_wp2_with fail
                   have hE : acc ++ [o] = T ++ [⟨no, P⟩] ++ ((k.dirty.drop i).take (j + 1 - i)).filter (fun o => decide (o.no ≠ no)) := by have h := HNX.out; (try dsimp only at h); rw [h, if_neg HO.out, HACC.out]; simp only [List.append_assoc]
                   exact ⟨⟨j + 1, by omega, by omega, by go_num, acc ++ [o], Z3, z3, rfl, by simpa using hE, HO6.out, by have := HAL.out; simp; omega, HB6.out⟩, by simp [intOf]; omega⟩)
          · have hi2 : ¬ (j : Int) < (n : Int) := by omega
            have hjj : j = n := by omega
            have hfin : acc = insL ⟨no, P⟩ k.dirty := by
              have h := HACC.out
              rw [hjj, List.take_of_length_le (by rw [List.length_drop]; have := HN.out; omega)] at h
              unfold insL
              rw [HTW.out.1, HTW.out.2, ← HT.out, h]
              simp
            have HFI := Lib.hid hfin
            have kf := hWB.a.free
            obtain ⟨X1, hX1⟩ : ∃ X1, X1 = wr.setCell ⟨w.heap.size, 7, none⟩ (.slice Z2 acc.length z2) := ⟨_, rfl⟩
            have ha1 : X1.heap[w.heap.size]? = some (.cells #[.slice A1 n1 c1, .slice A2 n2 c2, .bool k.disk.dead, .int .i64 k.disk.left, .int .i64 k.shape.pages, .int .i64 k.shape.journal, .int .i64 k.seq, .slice Z2 acc.length z2] 32 (0, 0)) := by rw [hX1]; exact heap_setCell_same wr w.heap.size 7 _ 32 _ hWB.a
            have hk1 : ∀ q : Nat, q ≠ w.heap.size → X1.heap[q]? = wr.heap[q]? := fun q hq => by rw [hX1]; exact Below.heap_setCell _ _ _ _ hq
            have hz1' := (hk1 (w.heap.size + 1) (by omega)).trans hWB.z
            have hb1 : Below w.heap.size w X1 := by rw [hX1]; exact hWB.below.setCell (p := ⟨w.heap.size, 7, none⟩) (Nat.le_refl _) _
            obtain ⟨X2, hX2, hbX, hkX, hBX⟩ := box_store8 hz1' (.slice A1 n1 c1) (.slice A2 n2 c2) (.bool k.disk.dead) (.int .i64 k.disk.left) (.int .i64 k.shape.pages) (.int .i64 k.shape.journal) (.int .i64 k.seq) (.slice Z2 acc.length z2)
            have HX1 := Lib.hid hX1
            have HX2 := Lib.hid hX2
            have hvd := (HI.out.below hWB.below).other hWB.a (by decide) (by decide) hk1
            have hvd2 := hvd.other hz1' (by decide) (by decide) hkX
            have hl1 : IsLfs X1 (.slice Z2 acc.length z2) acc := SL.other HOW.out.isLfs hWB.a (by decide) hk1
            have hl2 : IsLfs X2 (.slice Z2 acc.length z2) acc := SL.other hl1 hz1' (by decide) hkX
            have HFIN : Hid (IsVault X2 (.agg #[.slice A1 n1 c1, .slice A2 n2 c2, .bool k.disk.dead, .int .i64 k.disk.left, .int .i64 k.shape.pages, .int .i64 k.shape.journal, .int .i64 k.seq, .slice Z2 acc.length z2]) { k with dirty := insL ⟨no, padP data⟩ k.dirty } ∧ Below w.heap.size w X2) := Lib.hid ⟨⟨_, _, _, rfl, hvd2, by rw [← HP.out, ← HFI.out]; exact hl2⟩, hBX _ _ hb1 (by omega)⟩
            have HA1 := Lib.hid (box8 ha1)
            have HZ1 := Lib.hid (box8 hz1')
            have HBX := Lib.hid (box8 hbX)
            rw [hd] at HFIN HA1 HBX HX2
            clear hfin hjj hX1 ha1 hk1 hz1' hb1 hX2 hbX hkX hBX hvd hvd2 hl1 hl2 hWB
            go_upto_region 19 with (fail)
            rw [← HX1.out]
            clear i0 i1' i2 i3 i4 i5 i6 i7 kf HX1
            obtain ⟨⟨i0, i1', i2, i3, i4, i5, i6, i7⟩, _⟩ := HA1.out
            obtain ⟨⟨z0, z1, z2', z3, z4, z5, z6, z7⟩, zf⟩ := HZ1.out
            go_wp2_with fail
            rw [HX2.out]
            clear i0 i1' i2 i3 i4 i5 i6 i7 z0 z1 z2' z3 z4 z5 z6 z7 zf
            obtain ⟨⟨z0, z1, z2', z3, z4, z5, z6, z7⟩, _⟩ := HBX.out
            exact bodyPost_ret (v := .tuple #[.agg #[.slice A1 n1 c1, .slice A2 n2 c2, .bool false, .int .i64 k.disk.left, .int .i64 k.shape.pages, .int .i64 k.shape.journal, .int .i64 k.seq, .slice Z2 acc.length z2], .int .i64 0]) (by simp [results, Tryz.results42, go_sem, z0, z1, z2', z3, z4, z5, z6, z7]) rfl ⟨_, rfl, HFIN.out.1, HFIN.out.2⟩

/-- Whatever is asked. -/
theorem rwrite_calls (v : Value) (k : VK) (no : Int) (data : List UInt8) (w : World) (hv : IsVault w v k) (hg : VGood k) (hR : RiseL k.dirty) :
    Calls Tryz.prog 42 #[v, .int .i64 no, .string (strB data)] w fun e w' => ∃ v', e = .returned (.tuple #[v', .int .i64 (writeV k no data).2]) ∧ IsVault w' v' (writeV k no data).1 ∧ Below w.heap.size w w' := by
  unfold writeV
  by_cases hE : hasP k no ∧ data.length ≤ 208
  · rw [if_neg (by simp [hE])]
    rcases Bool.eq_false_or_eq_true k.disk.dead with hd | hd
    · rw [if_pos hd]
      exact rwrite_no v k no data w hv 12 (.inr ⟨hE, hd, rfl⟩)
    · rw [if_neg (by simp [hd])]
      exact rwrite_ok v k no data w hv hg hR hE hd
  · rw [if_pos hE]
    exact rwrite_no v k no data w hv 1 (.inl ⟨hE, rfl⟩)

end Go.Proofs.YtgeiemccjionpaaGreat.Vlt
