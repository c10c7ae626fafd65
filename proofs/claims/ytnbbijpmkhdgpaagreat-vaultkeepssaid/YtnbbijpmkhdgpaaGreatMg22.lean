/- Contracts and plain mathematics that the statement's proof wants: no statement is proved here, nothing is assumed. -/
import Derived.Laws.StructEq
import Derived.Deep.RegionHeld3
import Derived.Deep.RegionWith
import Derived.Maps.AppendAt
import Derived.Laws.ResultCell
import Derived.Test.YtnbbijpmkhdgpaaGreatMg12
import Derived.Test.YtnbbijpmkhdgpaaGreatMg21
/- VMem -/
namespace Go.Proofs.YtnbbijpmkhdgpaaGreat.Vlt
open Go.RowKit
open Dsk

/-- Pages' cells. -/
def lfCells (l : List Lf) : List Value := l.flatMap fun p => [.int .i64 p.no, .string (strB p.data)]
theorem lfCells_append (a b : List Lf) : lfCells (a ++ b) = lfCells a ++ lfCells b := by simp [lfCells]
theorem lfCells_one (o : Lf) : lfCells [o] = [.int .i64 o.no, .string (strB o.data)] := by simp [lfCells]
theorem lfCells_length (l : List Lf) : (lfCells l).length = l.length * 2 := by
  induction l with
  | nil => rfl
  | cons a l ih => simp [lfCells] at ih ⊢; omega
theorem lfCells_at (l : List Lf) : ∀ (k : Nat) (o : Lf), l[k]? = some o → (lfCells l)[k * 2]? = some (.int .i64 o.no) ∧ (lfCells l)[k * 2 + 1]? = some (.string (strB o.data)) := by
  induction l with
  | nil => intro k o h; cases h
  | cons a l ih =>
    intro k o h
    have e : lfCells (a :: l) = .int .i64 a.no :: .string (strB a.data) :: lfCells l := by simp [lfCells]
    rw [e]
    cases k with
    | zero => simp at h; subst h; exact ⟨rfl, rfl⟩
    | succ k =>
      have := ih k o (by simpa using h)
      rw [show (k + 1) * 2 = k * 2 + 2 by omega]
      exact this

/-- A slice reads as these pages. -/
def IsLfs (w : World) (v : Value) (l : List Lf) : Prop := SL w 52 2 v l.length (lfCells l)
theorem IsLfs.below {w w' : World} {v : Value} {l : List Lf} (h : IsLfs w v l) (hb : Below w.heap.size w w') : IsLfs w' v l := SL.below h hb
theorem IsLfs.nil (w : World) : IsLfs w (.slice none 0 0) [] := SL.nil w 52 2
theorem IsLfs.open_ {w : World} {v : Value} {l : List Lf} (h : IsLfs w v l) : ∃ A n c, v = .slice A n c ∧ n = l.length ∧ n ≤ c ∧ Reads w 52 2 A n (lfCells l) := by
  obtain ⟨A, c, rfl, hc, hr⟩ := h
  exact ⟨A, _, c, rfl, rfl, hc, hr⟩
/-- A page of it, in any world behind. -/
theorem lf_at {w w' : World} {A : Option Addr} {n : Nat} {l : List Lf} (h : Reads w 52 2 A n (lfCells l)) (hb : Below w.heap.size w w') {k : Nat} {o : Lf} (ho : l[k]? = some o) (hn : 0 < n) :
    ∃ b off, A = some ⟨b, off, none⟩ ∧ w'.cell? ⟨b, off + k * 2, none⟩ = some (.int .i64 o.no) ∧ w'.cell? ⟨b, off + k * 2 + 1, none⟩ = some (.string (strB o.data)) := by
  obtain ⟨b, off, e, hbl, hc⟩ := h.at_ hn
  obtain ⟨h0, h1⟩ := lfCells_at l k o ho
  exact ⟨b, off, e, (hb.cell (p := ⟨b, off + k * 2, none⟩) hbl).trans (hc _ _ h0), (hb.cell (p := ⟨b, off + k * 2 + 1, none⟩) hbl).trans (hc _ _ h1)⟩

/-- The value v is a vault that reads as k. -/
def IsVault (w : World) (v : Value) (k : VK) : Prop :=
  ∃ vs vw vd, v = .agg #[vs, vw, .bool k.disk.dead, .int .i64 k.disk.left, .int .i64 k.shape.pages, .int .i64 k.shape.journal, .int .i64 k.seq, vd] ∧
    IsDisk w (.agg #[vs, vw, .bool k.disk.dead, .int .i64 k.disk.left]) k.disk ∧ IsLfs w vd k.dirty
theorem IsVault.below {w w' : World} {v : Value} {k : VK} (h : IsVault w v k) (hb : Below w.heap.size w w') : IsVault w' v k := by
  obtain ⟨vs, vw, vd, e, h1, h2⟩ := h
  exact ⟨vs, vw, vd, e, h1.below hb, h2.below hb⟩
/-- A disk's value, by its parts. -/
theorem disk_parts {w : World} {v : Value} {d : DK} (h : IsDisk w v d) : ∃ vs vw, v = .agg #[vs, vw, .bool d.dead, .int .i64 d.left] := by
  obtain ⟨vs, vw, e, _⟩ := h
  exact ⟨vs, vw, e⟩

/-- Equality of pages. -/
theorem Lf.dec (x y : Lf) : decide (x = y) = (x.no == y.no && x.data == y.data) := by
  rw [Bool.eq_iff_iff]
  simp [Lf.eq_iff]
def lfVal (x : Lf) : Value := .agg #[.int .i64 x.no, .string (strB x.data)]
theorem equalLf (x y : Lf) (w : World) : (Op.equalIn 10000 52 (lfVal x) (lfVal y)).run Tryz.prog w = .ok (decide (x = y)) w := by
  have k1 := strB_toList x.data
  have k2 := strB_toList y.data
  unfold lfVal
  rw [Lf.dec]
  cases h1 : (x.no == y.no) with
  | false => go_simp
  | true =>
    cases h2 : (x.data == y.data) with
    | false => go_simp
    | true => go_simp
theorem neqLf (x y : Lf) (w : World) : (binOp .neq 52 (lfVal x) (lfVal y)).run Tryz.prog w = .ok (.bool (!decide (x = y))) w := by
  have h := equalLf x y w
  unfold lfVal at h ⊢
  rw [run_neq_struct, h]
  rfl

/-- Boxes of a vault. -/
def VBox (w : World) (g : Nat) (vs vw vd : Value) (k : VK) : Prop :=
  w.heap[g]? = some (.cells #[vs, vw, .bool k.disk.dead, .int .i64 k.disk.left, .int .i64 k.shape.pages, .int .i64 k.shape.journal, .int .i64 k.seq, vd] 33 (0, 0))
structure At8 (w : World) (b : Nat) (vs vw vd : Value) (k : VK) : Prop where
  c0 : w.cell? ⟨b, 0, none⟩ = some vs
  c1 : w.cell? ⟨b, 1, none⟩ = some vw
  c2 : w.cell? ⟨b, 2, none⟩ = some (.bool k.disk.dead)
  c3 : w.cell? ⟨b, 3, none⟩ = some (.int .i64 k.disk.left)
  c4 : w.cell? ⟨b, 4, none⟩ = some (.int .i64 k.shape.pages)
  c5 : w.cell? ⟨b, 5, none⟩ = some (.int .i64 k.shape.journal)
  c6 : w.cell? ⟨b, 6, none⟩ = some (.int .i64 k.seq)
  c7 : w.cell? ⟨b, 7, none⟩ = some vd
section
variable {w w' : World} {g : Nat} {vs vw vd : Value} {k : VK}
theorem VBox.at_ (h : VBox w g vs vw vd k) : At8 w g vs vw vd k := by
  refine ⟨?_, ?_, ?_, ?_, ?_, ?_, ?_, ?_⟩ <;> (rw [cell_of_row w g _ _ _ _ h]; rfl)
theorem VBox.lt (h : VBox w g vs vw vd k) : g < w.heap.size := (Array.getElem?_eq_some_iff.1 h).1
theorem VBox.keep (h : VBox w g vs vw vd k) (e : w'.heap[g]? = w.heap[g]?) : VBox w' g vs vw vd k := e.trans h
theorem VBox.below (h : VBox w g vs vw vd k) (hb : Below w.heap.size w w') : VBox w' g vs vw vd k := (hb.block g h.lt).trans h
theorem VBox.new (w : World) (vs vw vd : Value) (k : VK) : VBox (w.alloc (.cells #[vs, vw, .bool k.disk.dead, .int .i64 k.disk.left, .int .i64 k.shape.pages, .int .i64 k.shape.journal, .int .i64 k.seq, vd] 33)) w.heap.size vs vw vd k := heap_alloc_new w _
theorem VBox.free (h : VBox w g vs vw vd k) (i : Nat) : w.frozen? ⟨g, i, none⟩ = false := by unfold VBox at h; simp [World.frozen?, h]
end

set_option maxRecDepth 100000 in
set_option maxHeartbeats 4000000 in
/-- The law's page. -/
theorem page_calls (s : List UInt8) (w : World) (hs : s.length ≤ 208) :
    Calls Tryz.prog 16 #[.string (strB s)] w fun e w' => e = .returned (.string (strB (padP s))) ∧ Below w.heap.size w w' := by
  obtain ⟨k, hk⟩ : ∃ k, k = 208 - s.length := ⟨_, rfl⟩
  have hsz := strB_size s
  have hm : (208 : Int) - ((strB s).size : Int) = (k : Nat) := by omega
  have hm1 : (0 : Int) ≤ 208 - ((strB s).size : Int) := by omega
  have hm2 : ((strB s).size : Int) ≤ 208 := by omega
  have hm3 : ¬ (208 : Int) < ((strB s).size : Int) := by omega
  have hz0 : (strB s).size + (strB (Ent.zer k)).size ≤ 5000 := by rw [strB_size, strB_size, Ent.zer_len]; omega
  have hz : ¬ 9223372036854775807 < (strB s).size + (strB (Ent.zer k)).size := fun h => absurd (Nat.lt_of_lt_of_le h hz0) (by decide)
  have hmk := Wire.make_zeros k (by omega)
  have hc : ∀ W : World, (convert 76 9 (.slice (some ⟨W.heap.size, 0, none⟩) k k)).run Tryz.prog (W.alloc (.cells (madeCells #[.int .u8 0] k) 5)) = .ok (.string (strB (Ent.zer k))) (W.alloc (.cells (madeCells #[.int .u8 0] k) 5)) := Wire.conv_zeros k
  have hf := Lib.hid (show strB s ++ strB (Ent.zer k) = strB (padP s) by unfold padP; rw [strB_append, hk])
  clear hk hs hsz hz0
  go_enter Tryz.func16, Tryz.ntmps16
  go_wp2_with fail
  go_ret
  exact ⟨ret_str hf.out, below_one _ _⟩

set_option maxRecDepth 100000 in
set_option maxHeartbeats 4000000 in
theorem sameLeaves_calls (v u : Value) (l : List Lf) (w : World) (hv : IsLfs w v l) (hu : IsLfs w u l) (hl : l.length ≤ 1000000) :
    Calls Tryz.prog 36 #[v, u] w fun e w' => e = .returned (.bool true) ∧ Below w.heap.size w w' := by
  obtain ⟨A, n, c, rfl, hn, _, hr⟩ := hv.open_
  obtain ⟨B, m, e, rfl, hm, _, hq⟩ := hu.open_
  obtain rfl : m = n := by omega
  have hmm : m ≤ 1000000 := by omega
  have HN := Lib.hid hn
  have HR := Lib.hid hr
  have HQ := Lib.hid hq
  clear hn hm hr hq hv hu
  go_enter Tryz.func36, Tryz.ntmps36
  go_wp2_with fail
  go_loopw [5] (fun u wr => ∃ i : Nat, i ≤ m ∧ u = .int .i64 i ∧ Below w.heap.size w wr) (fun u _ => m - (intOf u).toNat)
  case atStart => exact ⟨0, Nat.zero_le _, rfl, Below.refl _ _⟩
  case round =>
    obtain ⟨i, hi, rfl, hbr⟩ := hrel
    have HBR := Lib.hid hbr
    clear hbr
    by_cases hlt : i < m
    · obtain ⟨o, ho⟩ : ∃ o, l[i]? = some o := ⟨_, List.getElem?_eq_getElem (by have := HN.out; omega)⟩
      obtain ⟨b, off, rfl, x0, x1⟩ := lf_at HR.out HBR.out ho (by omega)
      obtain ⟨b', off', rfl, y0, y1⟩ := lf_at HQ.out HBR.out ho (by omega)
      have hi1 : (0 : Int) ≤ (i : Int) := by omega
      have hi2 : (i : Int) < (m : Int) := by omega
      have hne := neqLf o o
      rw [decide_eq_true rfl] at hne
      unfold lfVal at hne
      clear ho
      go_wp2_with fail
      go_quiet (fail)
      go_wp2_with fail
      exact ⟨⟨i + 1, by omega, by go_num, HBR.out.trans ⟨rfl, rfl, rfl, Nat.le_refl _, fun _ _ => rfl⟩⟩, by simp [intOf]; omega⟩
    · have hnl : decide ((i : Int) < (m : Int)) = false := by simp; omega
      go_wp2_with fail
      go_ret
      exact ⟨rfl, HBR.out⟩

set_option maxRecDepth 100000 in
set_option maxHeartbeats 4000000 in
theorem same_calls (v u : Value) (k : VK) (w : World) (hv : IsVault w v k) (hu : IsVault w u k) (hs : k.disk.sure.length ≤ 1000000) (hw : k.disk.wet.length ≤ 1000000) (hl : k.dirty.length ≤ 1000000) :
    Calls Tryz.prog 13 #[v, u] w fun e w' => e = .returned (.bool true) ∧ Below w.heap.size w w' := by
  obtain ⟨vs, vw, vd, rfl, h1, h2⟩ := hv
  obtain ⟨us, uw, ud, rfl, h3, h4⟩ := hu
  obtain ⟨Y, hY, b1, b2, hB⟩ : ∃ Y, Y = (w.alloc (.cells #[vs, vw, .bool k.disk.dead, .int .i64 k.disk.left, .int .i64 k.shape.pages, .int .i64 k.shape.journal, .int .i64 k.seq, vd] 33)).alloc (.cells #[us, uw, .bool k.disk.dead, .int .i64 k.disk.left, .int .i64 k.shape.pages, .int .i64 k.shape.journal, .int .i64 k.seq, ud] 33) ∧ VBox Y w.heap.size vs vw vd k ∧ VBox Y (w.heap.size + 1) us uw ud k ∧ Below w.heap.size w Y := by
    refine ⟨_, rfl, (VBox.new w vs vw vd k).below (below_one _ _), ?_, Dsk.below_trans' (below_one _ _) (below_one _ _)⟩
    have := VBox.new (w.alloc (.cells #[vs, vw, .bool k.disk.dead, .int .i64 k.disk.left, .int .i64 k.shape.pages, .int .i64 k.shape.journal, .int .i64 k.seq, vd] 33)) us uw ud k
    simpa using this
  have HY := Lib.hid hY
  have B1 := Lib.hid b1
  have B2 := Lib.hid b2
  have HB := Lib.hid hB
  have CS := Lib.hid (Dsk.rsame_calls _ _ k.disk Y (h1.below hB) (h3.below hB) hs hw)
  have CL := Lib.hid (fun W (hb : Below Y.heap.size Y W) => sameLeaves_calls vd ud k.dirty W ((h2.below hB).below hb) ((h4.below hB).below hb) hl)
  have hq := eql23 k.shape k.shape
  rw [decide_eq_true rfl] at hq
  unfold shV at hq
  obtain ⟨i0, i1, i2, i3, i4, i5, i6, i7⟩ := b1.at_
  obtain ⟨j0, j1, j2, j3, j4, j5, j6, j7⟩ := b2.at_
  clear hY b1 b2 hB h1 h2 h3 h4 hs hw hl
  go_enter Tryz.func13, Tryz.ntmps13
  go_wp2_with fail
  rw [← HY.out]
  go_wp2_with fail
  (with_reducible refine CS.out.mono ?_)
  rintro e w1 ⟨rfl, hB1⟩
  have HB1 := Lib.hid hB1
  clear i0 i1 i2 i3 i4 i5 i6 i7 j0 j1 j2 j3 j4 j5 j6 j7 hB1
  obtain ⟨i0, i1, i2, i3, i4, i5, i6, i7⟩ := (B1.out.below HB1.out).at_
  obtain ⟨j0, j1, j2, j3, j4, j5, j6, j7⟩ := (B2.out.below HB1.out).at_
  go_wp2_with fail
  (with_reducible refine (CL.out _ HB1.out).mono ?_)
  rintro e w2 ⟨rfl, hB2⟩
  go_wp2_with fail
  go_ret
  exact ⟨rfl, Dsk.below_trans' (Dsk.below_trans' HB.out HB1.out) hB2⟩

end Go.Proofs.YtnbbijpmkhdgpaaGreat.Vlt

/- VRRead -/
namespace Go.Proofs.YtnbbijpmkhdgpaaGreat.Vlt
open Go.RowKit Go.Sort
open Dsk
open Ent (homeB homeV)

/-- A vault that the calls are asked of. -/
structure VGood (k : VK) : Prop where
  pl : ∃ n i, Pl n i k.disk ∧ n ≤ 2000 ∧ i ≤ 2000
  pages : k.shape.pages ≤ 512
  dirty : k.dirty.length ≤ 1000
theorem VGood.ok {k : VK} (h : VGood k) : k.disk.ok ∧ Rising k.disk.wet ∧ WetIn k.disk := by
  obtain ⟨n, i, hp, h1, h2⟩ := h.pl
  exact ⟨hp.ok h1 h2, hp.rise, hp.inn⟩

theorem find_hitL {l : List Lf} {no : Int} {i : Nat} {o : Lf} (h : ∀ q x, q < i → l[q]? = some x → x.no ≠ no) (ho : l[i]? = some o) (hn : o.no = no) : findL l no = some o := by
  unfold findL
  induction l generalizing i with
  | nil => cases ho
  | cons y l ih =>
    cases i with
    | zero =>
      simp at ho
      subst ho
      rw [List.find?_cons_of_pos (by simpa using hn)]
    | succ i =>
      have h0 := h 0 y (by omega) rfl
      rw [List.find?_cons_of_neg (by simpa using h0)]
      exact ih (i := i) (fun q x hq hx => h (q + 1) x (by omega) (by simpa using hx)) (by simpa using ho)
theorem find_missL {l : List Lf} {no : Int} (h : ∀ (q : Nat) x, l[q]? = some x → x.no ≠ no) : findL l no = none := by
  unfold findL
  rw [List.find?_eq_none]
  intro x hx
  obtain ⟨q, hq, e⟩ := List.getElem_of_mem hx
  simpa using h q x (by rw [List.getElem?_eq_getElem hq, e])

theorem read_end {k : VK} {no : Int} {a : List UInt8} {b : Int} (h : readV k no = (a, b)) : Ending.returned (.tuple #[.string (strB a), .int .i64 b]) = .returned (.tuple #[.string (strB (readV k no).1), .int .i64 (readV k no).2]) := by rw [h]

set_option maxRecDepth 100000 in
set_option maxHeartbeats 16000000 in
theorem rread_calls (v : Value) (k : VK) (no : Int) (w : World) (hv : IsVault w v k) (hg : VGood k) :
    Calls Tryz.prog 39 #[v, .int .i64 no] w fun e w' => e = .returned (.tuple #[.string (strB (readV k no).1), .int .i64 (readV k no).2]) ∧ Below w.heap.size w w' := by
  obtain ⟨vs, vw, vd, rfl, h1, h2⟩ := hv
  obtain ⟨A, n, c, rfl, hn, _, hr⟩ := h2.open_
  obtain ⟨hok, hri, hin⟩ := hg.ok
  have hdl := hg.dirty
  have hpg := hg.pages
  obtain ⟨Y, hY, b1, hB⟩ : ∃ Y, Y = w.alloc (.cells #[vs, vw, .bool k.disk.dead, .int .i64 k.disk.left, .int .i64 k.shape.pages, .int .i64 k.shape.journal, .int .i64 k.seq, .slice A n c] 33) ∧ VBox Y w.heap.size vs vw (.slice A n c) k ∧ Below w.heap.size w Y := ⟨_, rfl, VBox.new _ _ _ _ _, below_one _ _⟩
  have HY := Lib.hid hY
  have B1 := Lib.hid b1
  have HB := Lib.hid hB
  obtain ⟨i0, i1, i2, i3, i4, i5, i6, i7⟩ := b1.at_
  rw [hY] at i0 i1 i2 i3 i4 i5 i6 i7
  have H1 := Lib.hid h1
  have HOK := Lib.hid (And.intro hok hri)
  have HR := Lib.hid hr
  have HN := Lib.hid hn
  clear hY b1 hB h1 h2 hok hri hin hr hn
  by_cases hlo : no < 0
  · have E : Hid (readV k no = ([], 1)) := Lib.hid (by unfold readV; rw [if_pos (by intro h; have := h.1; omega)])
    go_enter Tryz.func39, Tryz.ntmps39
    go_wp2_with fail
    exact bodyPost_ret (v := .tuple #[.string ⟨#[]⟩, .int .i64 1]) (by simp [results, Tryz.results39, go_sem]) rfl ⟨read_end E.out, below_one _ _⟩
  by_cases hhi : k.shape.pages ≤ no
  · have E : Hid (readV k no = ([], 1)) := Lib.hid (by unfold readV; rw [if_pos (by intro h; have := h.2; omega)])
    go_enter Tryz.func39, Tryz.ntmps39
    go_wp2_with fail
    exact bodyPost_ret (v := .tuple #[.string ⟨#[]⟩, .int .i64 1]) (by simp [results, Tryz.results39, go_sem]) rfl ⟨read_end E.out, below_one _ _⟩
  have hlo' : 0 ≤ no := by omega
  have hhi' : no < k.shape.pages := by omega
  have hH : hasP k no := ⟨hlo', hhi'⟩
  rcases Bool.eq_false_or_eq_true k.disk.dead with hd | hd
  · have E : Hid (readV k no = ([], 12)) := Lib.hid (by unfold readV; rw [if_neg (by simp [hH]), if_pos hd])
    rw [hd] at i2 ⊢
    clear hH
    go_enter Tryz.func39, Tryz.ntmps39
    go_wp2_with fail
    exact bodyPost_ret (v := .tuple #[.string ⟨#[]⟩, .int .i64 12]) (by simp [results, Tryz.results39, go_sem]) rfl ⟨read_end E.out, below_one _ _⟩
  have HHit : Hid (∀ o, findL k.dirty no = some o → readV k no = (o.data, 0)) := Lib.hid (fun o ho => by unfold readV; rw [if_neg (by simp [hH]), if_neg (by simp [hd]), ho])
  have HMiss : Hid (findL k.dirty no = none → readV k no = if rdE k.disk (placeN k.shape no) ≠ 0 then ([], rdE k.disk (placeN k.shape no)) else
      if homeB (rdS k.disk (placeN k.shape no)).data.toList no = true then (homeV (rdS k.disk (placeN k.shape no)).data.toList no, 0) else ([], 2)) := Lib.hid (fun ho => by unfold readV; rw [if_neg (by simp [hH]), if_neg (by simp [hd]), ho])
  have HD := Lib.hid hd
  rw [hd] at i2
  clear hH hd hg
  have hpage : no ≤ 511 := by omega
  rw [HD.out]
  rw [HD.out] at HY
  go_enter Tryz.func39, Tryz.ntmps39
  go_wp2_with fail
  rw [← HY.out]
  clear i0 i1 i2 i3 i4 i5 i6 i7
  go_loopw [6] (fun u wr => ∃ i : Nat, i ≤ n ∧ u = .int .i64 i ∧ Below Y.heap.size Y wr ∧ (∀ q x, q < i → k.dirty[q]? = some x → x.no ≠ no)) (fun u _ => n - (intOf u).toNat)
  case atStart => exact ⟨0, Nat.zero_le _, rfl, Below.refl _ _, fun q x hq => absurd hq (by omega)⟩
  case round =>
    obtain ⟨i, hi, rfl, hbr, hno⟩ := hrel
    have HBR := Lib.hid hbr
    have HNO := Lib.hid hno
    clear hbr hno
    obtain ⟨i0, i1, i2, i3, i4, i5, i6, i7⟩ := (B1.out.below HBR.out).at_
    rw [HD.out] at i2
    have hnm : n ≤ 1000 := by have := HN.out; omega
    by_cases hlt : i < n
    · obtain ⟨o, ho⟩ : ∃ o, k.dirty[i]? = some o := ⟨_, List.getElem?_eq_getElem (by have := HN.out; omega)⟩
      obtain ⟨b, off, rfl, x0, x1⟩ := lf_at HR.out (Dsk.below_trans' HB.out HBR.out) ho (by omega)
      have HO := Lib.hid ho
      have hi1 : (0 : Int) ≤ (i : Int) := by omega
      have hi2 : (i : Int) < (n : Int) := by omega
      clear ho
      by_cases ha : o.no = no
      · have ha2 : (o.no == no) = true := by simpa using ha
        have E := Lib.hid (HHit.out o (find_hitL HNO.out HO.out ha))
        clear ha
        go_wp2_with fail
        exact bodyPost_ret (v := .tuple #[.string (strB o.data), .int .i64 0]) (by simp [results, Tryz.results39, go_sem]) rfl ⟨read_end E.out, Dsk.below_trans' HB.out HBR.out⟩
      · have hf : (o.no == no) = false := by simpa using ha
        go_wp2_with fail
        refine ⟨⟨i + 1, by omega, by go_num, HBR.out, fun q x hq hx => ?_⟩, by simp [intOf]; omega⟩
        by_cases e : q = i
        · subst e
          rw [HO.out] at hx
          injection hx with hx
          subst hx
          exact ha
        · exact HNO.out q x (by omega) hx
    · have hnl : decide ((i : Int) < (n : Int)) = false := by simp; omega
      have E := Lib.hid (HMiss.out (find_missL fun q x hx => HNO.out q x (by have := (List.getElem?_eq_some_iff.1 hx).1; have := HN.out; omega) hx))
      have q := fun d os => Dsk.below_trans' HBR.out (below_regrown wr d os)
      have i0 := fun d os => ((B1.out.below (q d os)).at_).c0
      have i1 := fun d os => ((B1.out.below (q d os)).at_).c1
      have i2 := fun d os => ((B1.out.below (q d os)).at_).c2
      have i3 := fun d os => ((B1.out.below (q d os)).at_).c3
      have i4 := fun d os => ((B1.out.below (q d os)).at_).c4
      have i5 := fun d os => ((B1.out.below (q d os)).at_).c5
      rw [HD.out] at i2
      obtain ⟨PL, hPL⟩ : ∃ p, p = placeN k.shape no := ⟨_, rfl⟩
      have D1 := rg (rplace_calls k.shape no) wr
      unfold shV at D1
      rw [← hPL] at D1 E
      have D2 := fun d os => Calls.regrown_of (rrd_calls _ k.disk PL (grow (redrawn wr d) os) (H1.out.below (Dsk.below_trans' HB.out (q d os))) HOK.out.1 HOK.out.2)
      rw [HD.out] at D2
      have D1 := Lib.hid D1
      have D2 := Lib.hid D2
      clear q hPL
      go_wp2_with fail
      refine wp_region_quiet_below (by kernel_rfl) (by kernel_rfl) ?_
      (try simp only [List.append_eq, List.cons_append, List.nil_append])
      repeat (first | go_big_quiet_step (first | (with_reducible exact D1.out _ _) | (with_reducible exact D2.out _ _)))
      refine wpQuiet_nil ?_
      intro _ hw'
      obtain ⟨⟨dq, osq⟩, hw''⟩ := hw'
      subst hw''
      have HB2 := Lib.hid (Dsk.below_trans' (Dsk.below_trans' HB.out HBR.out) (below_regrown wr dq osq))
      generalize grow (redrawn wr dq) osq = W1 at *
      clear i0 i1 i2 i3 i4 i5 D1 D2
      by_cases he : rdE k.disk PL = 0
      · rw [if_neg (by omega)] at E
        rw [he]
        obtain ⟨S, hS⟩ : ∃ S, S = (rdS k.disk PL).data.toList := ⟨_, rfl⟩
        have hS2 : rdS k.disk PL = strB S := by rw [hS, strB_of]
        rw [← hS] at E
        rw [hS2]
        clear hS hS2
        go_wp2_with fail
        (with_reducible refine (Ent.rhome_calls S no _ hlo' hpage).mono ?_)
        rintro e w3 ⟨x, rfl, hx, hB3⟩
        have HX := Lib.hid hx
        clear hx
        rcases Bool.eq_false_or_eq_true (homeB S no) with hb | hb
        · rw [hb, if_pos rfl] at E
          rw [hb] at HX ⊢
          have hx := HX.out rfl
          subst hx
          go_wp2_with fail
          exact bodyPost_ret (v := .tuple #[.string (strB (homeV S no)), .int .i64 0]) (by simp [results, Tryz.results39, go_sem]) rfl ⟨read_end E.out, Dsk.below_trans' HB2.out hB3⟩
        · rw [hb, if_neg (by simp)] at E
          rw [hb]
          go_wp2_with fail
          exact bodyPost_ret (v := .tuple #[.string ⟨#[]⟩, .int .i64 2]) (by simp [results, Tryz.results39, go_sem]) rfl ⟨read_end E.out, Dsk.below_trans' HB2.out hB3⟩
      · rw [if_pos he] at E
        obtain ⟨R, hR⟩ : ∃ R, R = rdE k.disk PL := ⟨_, rfl⟩
        rw [← hR] at E he
        rw [← hR]
        have he2 : (R == 0) = false := by simpa using he
        clear hR
        go_wp2_with fail
        exact bodyPost_ret (v := .tuple #[.string ⟨#[]⟩, .int .i64 R]) (by simp [results, Tryz.results39, go_sem]) rfl ⟨read_end E.out, HB2.out⟩

end Go.Proofs.YtnbbijpmkhdgpaaGreat.Vlt

/- VRHome -/
namespace Go.Proofs.YtnbbijpmkhdgpaaGreat.Vlt
open Go.RowKit Go.Sort
open Dsk

theorem LOk.take {n : Int} {l : List Lf} (h : LOk n l) (i : Nat) : LOk n (l.take i) := ⟨fun x hx => h.lo x (List.mem_of_mem_take hx), fun x hx => h.hi x (List.mem_of_mem_take hx), fun x hx => h.len x (List.mem_of_mem_take hx)⟩
theorem home_take {x : Sh} {l : List Lf} {i : Nat} {o : Lf} (ho : l[i]? = some o) : homeW x (l.take (i + 1)) = homeW x (l.take i) ++ [(placeN x o.no, strB (Ent.leafL o.no o.data))] := by
  unfold homeW
  rw [List.take_add_one, ho]
  simp
/-- One write more. -/
theorem wrs_next {d : DK} {l : List (Int × ByteArray)} {a : Int} {b : ByteArray} (h : (wrsF d l).2 = 0) : wrsF d (l ++ [(a, b)]) = (wrD (wrsF d l).1 a b, wrE (wrsF d l).1 a b) := by rw [wrs_snoc, if_pos h]
theorem wrs_stop {d : DK} : ∀ {l : List (Int × ByteArray)} {k : Nat}, (wrsF d (l.take k)).2 ≠ 0 → wrsF d l = wrsF d (l.take k) := by
  intro l
  induction l generalizing d with
  | nil => intro k _; simp
  | cons p l ih =>
    intro k h
    cases k with
    | zero => exact absurd rfl h
    | succ k =>
      rw [List.take_succ_cons] at h ⊢
      unfold wrsF at h ⊢
      by_cases e : wrE d p.1 p.2 = 0
      · rw [if_pos e] at h ⊢
        rw [if_pos e]
        exact ih h
      · rw [if_neg e, if_neg e]
/-- What stands behind the first writes may be handed on. -/
theorem wrs_pl {n : Nat} : ∀ (l : List (Int × ByteArray)) {i : Nat} {d : DK}, Pl n i d → Pl n (i + l.length) (wrsF d l).1
  | [], _, _, h => h
  | p :: l, i, d, h => by
    have h1 := wrD_pl h p.1 p.2
    unfold wrsF
    split
    · have := wrs_pl l h1
      rw [show i + (p :: l).length = i + 1 + l.length by simp; omega]
      exact this
    · exact ⟨h1.good.more (by simp), h1.rise, h1.inn⟩

/-- The boxes of home, between rounds: the disk's, the shape's, the answer's. -/
structure HB3 (w W : World) (x : Sh) (vs vw : Value) (d : DK) : Prop where
  dk : W.heap[w.heap.size]? = some (.cells #[vs, vw, .bool d.dead, .int .i64 d.left] 28 (0, 0))
  isd : IsDisk W (.agg #[vs, vw, .bool d.dead, .int .i64 d.left]) d
  sh : SBox W (w.heap.size + 1) x
  zr : W.heap[w.heap.size + 2]? = some (.cells #[.slice none 0 0, .slice none 0 0, .bool false, .int .i64 0] 28 (0, 0))
  below : Below w.heap.size w W
section
variable {w W W' : World} {x : Sh} {vs vw us uw : Value} {d e : DK}
theorem HB3.more (h : HB3 w W x vs vw d) (k : Below W.heap.size W W') : HB3 w W' x vs vw d :=
  ⟨box_kept _ h.dk k, h.isd.below k, h.sh.below k, box_kept _ h.zr k, Dsk.below_trans' h.below k⟩
theorem HB3.new (w : World) (h : IsDisk w (.agg #[vs, vw, .bool d.dead, .int .i64 d.left]) d) (x : Sh) :
    ∃ Y, Y = ((w.alloc (.cells #[vs, vw, .bool d.dead, .int .i64 d.left] 28)).alloc (.cells #[.int .i64 x.pages, .int .i64 x.journal] 30)).alloc (.cells #[.slice none 0 0, .slice none 0 0, .bool false, .int .i64 0] 28) ∧ HB3 w Y x vs vw d := by
  have b1 := below_one w (.cells #[vs, vw, .bool d.dead, .int .i64 d.left] 28)
  have b2 := below_one (w.alloc (.cells #[vs, vw, .bool d.dead, .int .i64 d.left] 28)) (.cells #[.int .i64 x.pages, .int .i64 x.journal] 30)
  have b3 := below_one ((w.alloc (.cells #[vs, vw, .bool d.dead, .int .i64 d.left] 28)).alloc (.cells #[.int .i64 x.pages, .int .i64 x.journal] 30)) (.cells #[.slice none 0 0, .slice none 0 0, .bool false, .int .i64 0] 28)
  refine ⟨_, rfl, box_kept _ (box_kept _ (heap_alloc_new w _) b2) b3, ((h.below b1).below b2).below b3, ?_, ?_, Dsk.below_trans' (Dsk.below_trans' b1 b2) b3⟩
  · have := SBox.new (w.alloc (.cells #[vs, vw, .bool d.dead, .int .i64 d.left] 28)) x
    rw [show (w.alloc (.cells #[vs, vw, .bool d.dead, .int .i64 d.left] 28)).heap.size = w.heap.size + 1 by simp] at this
    exact this.below b3
  · have := heap_alloc_new ((w.alloc (.cells #[vs, vw, .bool d.dead, .int .i64 d.left] 28)).alloc (.cells #[.int .i64 x.pages, .int .i64 x.journal] 30)) (.cells #[.slice none 0 0, .slice none 0 0, .bool false, .int .i64 0] 28)
    simpa using this
/-- Another disk is stored into the first box. -/
theorem HB3.put (h : HB3 w W x vs vw d) (hv : IsDisk W (.agg #[us, uw, .bool e.dead, .int .i64 e.left]) e) :
    ∃ X, (((W.setCell ⟨w.heap.size, 0, none⟩ us).setCell ⟨w.heap.size, 1, none⟩ uw).setCell ⟨w.heap.size, 2, none⟩ (.bool e.dead)).setCell ⟨w.heap.size, 3, none⟩ (.int .i64 e.left) = X ∧ HB3 w X x us uw e := by
  obtain ⟨X, hX, hb, hk, hB⟩ := box_store4 h.dk us uw (.bool e.dead) (.int .i64 e.left)
  refine ⟨X, hX, hb, hv.other h.dk (by decide) (by decide) hk, h.sh.keep (hk _ (by omega)), (hk _ (by omega)).trans h.zr, hB _ _ h.below (Nat.le_refl _)⟩
end

theorem home_at {w W W' : World} {A : Option Addr} {n : Nat} {l : List Lf} {i : Nat} {o : Lf} (h : Reads w 52 2 A n (lfCells l)) (hb : Below w.heap.size w W) (ho : l[i]? = some o) (hn : 0 < n) :
    ∃ b off, A = some ⟨b, off, none⟩ ∧ ∀ W', Below W.heap.size W W' → W'.cell? ⟨b, off + i * 2, none⟩ = some (.int .i64 o.no) ∧ W'.cell? ⟨b, off + i * 2 + 1, none⟩ = some (.string (strB o.data)) := by
  obtain ⟨b, off, e, hbl, hc⟩ := h.at_ hn
  obtain ⟨h0, h1⟩ := lfCells_at l i o ho
  refine ⟨b, off, e, fun W' k => ?_⟩
  have hk := Dsk.below_trans' hb k
  exact ⟨(hk.cell (p := ⟨b, off + i * 2, none⟩) hbl).trans (hc _ _ h0), (hk.cell (p := ⟨b, off + i * 2 + 1, none⟩) hbl).trans (hc _ _ h1)⟩

/-- What lies in a round of home. -/
structure HRD (w V W : World) (x : Sh) (vs vw : Value) (d : DK) : Prop where
  b : HB3 w W x vs vw d
  k : Below V.heap.size V W
theorem HRD.more {w V W W' : World} {x : Sh} {vs vw : Value} {d : DK} (h : HRD w V W x vs vw d) (k : Below W.heap.size W W') : HRD w V W' x vs vw d := ⟨h.b.more k, Dsk.below_trans' h.k k⟩
theorem HRD.cells {w V W : World} {x : Sh} {vs vw : Value} {d : DK} (h : HRD w V W x vs vw d) :
    (W.cell? ⟨w.heap.size, 0, none⟩ = some vs ∧ W.cell? ⟨w.heap.size, 1, none⟩ = some vw ∧ W.cell? ⟨w.heap.size, 2, none⟩ = some (.bool d.dead) ∧ W.cell? ⟨w.heap.size, 3, none⟩ = some (.int .i64 d.left)) ∧
    W.cell? ⟨w.heap.size + 1, 0, none⟩ = some (.int .i64 x.pages) ∧ W.cell? ⟨w.heap.size + 1, 1, none⟩ = some (.int .i64 x.journal) :=
  ⟨(box4 h.b.dk).1, h.b.sh.c0, h.b.sh.c1⟩

def zeroBox : Obj := .cells #[.slice none 0 0, .slice none 0 0, .bool false, .int .i64 0] 28
/-- A box of no disk, laid in a round. -/
structure NB (V W : World) (g : Nat) : Prop where
  box : W.heap[g]? = some (.cells #[.slice none 0 0, .slice none 0 0, .bool false, .int .i64 0] 28 (0, 0))
  le : V.heap.size ≤ g
section
variable {w V W W' : World} {x : Sh} {vs vw : Value} {d e : DK} {g : Nat} {us uw : Value}
theorem NB.more (h : NB V W g) (k : Below W.heap.size W W') : NB V W' g := ⟨box_kept _ h.box k, h.le⟩
theorem NB.new (h : HRD w V W x vs vw d) : NB V (W.alloc (.cells #[.slice none 0 0, .slice none 0 0, .bool false, .int .i64 0] 28)) W.heap.size := ⟨heap_alloc_new W _, h.k.size⟩
/-- What lies behind a round's write: the boxes, and the disk in a box of its own. -/
structure NX (w V X : World) (x : Sh) (vs vw us uw : Value) (d e : DK) (g : Nat) : Prop where
  h : HRD w V X x vs vw d
  box : X.heap[g]? = some (.cells #[us, uw, .bool e.dead, .int .i64 e.left] 28 (0, 0))
  isd : IsDisk X (.agg #[us, uw, .bool e.dead, .int .i64 e.left]) e
theorem NX.fresh (h : HRD w V W x vs vw d) (hv : IsDisk W (.agg #[us, uw, .bool e.dead, .int .i64 e.left]) e) :
    ∃ X, W.alloc (.cells #[us, uw, .bool e.dead, .int .i64 e.left] 28) = X ∧ NX w V X x vs vw us uw d e W.heap.size :=
  ⟨_, rfl, h.more (below_one _ _), heap_alloc_new W _, hv.below (below_one _ _)⟩
theorem NX.store (h : HRD w V W x vs vw d) (z : NB V W g) (hv : IsDisk W (.agg #[us, uw, .bool e.dead, .int .i64 e.left]) e) (hV : w.heap.size + 2 < V.heap.size) :
    ∃ X, (((W.setCell ⟨g, 0, none⟩ us).setCell ⟨g, 1, none⟩ uw).setCell ⟨g, 2, none⟩ (.bool e.dead)).setCell ⟨g, 3, none⟩ (.int .i64 e.left) = X ∧ NX w V X x vs vw us uw d e g := by
  obtain ⟨X, hX, hb, hk, hB⟩ := box_store4 z.box us uw (.bool e.dead) (.int .i64 e.left)
  have hle := z.le
  refine ⟨X, hX, ⟨⟨(hk _ (by omega)).trans h.b.dk, h.b.isd.other z.box (by decide) (by decide) hk, h.b.sh.keep (hk _ (by omega)), (hk _ (by omega)).trans h.b.zr, hB _ _ h.b.below (by omega)⟩, hB _ _ h.k hle⟩, hb, hv.other z.box (by decide) (by decide) hk⟩
end

set_option maxRecDepth 100000 in
set_option maxHeartbeats 4000000 in
theorem rhome_calls (v vl : Value) (d : DK) (x : Sh) (l : List Lf) (w : World) {nn ii : Nat} (hv : IsDisk w v d) (hp : Pl nn ii d) (hnn : nn ≤ 2000) (hii : ii + l.length ≤ 2000)
    (hl : IsLfs w vl l) (hd : ∀ q ∈ l, q.data.length ≤ 240) :
    Calls Tryz.prog 72 #[v, shV x, vl] w fun e w' => ∃ v', e = .returned (.tuple #[v', .int .i64 (wfF d (homeW x l)).2]) ∧ IsDisk w' v' (wfF d (homeW x l)).1 ∧ Below w.heap.size w w' := by
  obtain ⟨X1, X2, X3, X4, X5, X6, rfl⟩ := hv.parts
  obtain ⟨A, n, c, rfl, hn, _, hr⟩ := hl.open_
  obtain ⟨Y, hY, hB⟩ := HB3.new w hv x
  have HY := Lib.hid hY
  have HB0 := Lib.hid hB
  have HN := Lib.hid hn
  have HR := Lib.hid hr
  have HP := Lib.hid hp
  have HDT := Lib.hid hd
  have hnm : n ≤ 2000 := by omega
  have HII := Lib.hid hii
  clear hY hB hn hr hp hd hii hv hl
  unfold shV
  go_enter Tryz.func72, Tryz.ntmps72
  go_wp2_with fail
  rw [← HY.out]
  clear HY
  go_loopw [8] (fun u wr => ∃ (i : Nat) (D : DK) (B1 : Option Addr) (B2 B3 : Nat) (B4 : Option Addr) (B5 B6 : Nat), i ≤ n ∧ u = .int .i64 i ∧ wrsF d (homeW x (l.take i)) = (D, 0) ∧ HB3 w wr x (.slice B1 B2 B3) (.slice B4 B5 B6) D) (fun u _ => n - (intOf u).toNat)
  case atStart => exact ⟨0, d, _, _, _, _, _, _, Nat.zero_le _, rfl, rfl, HB0.out⟩
  case round =>
    obtain ⟨i, D, B1, B2, B3, B4, B5, B6, hi, rfl, hw, hb⟩ := hrel
    have HW := Lib.hid hw
    have HT0 := Lib.hid hb
    clear hw hb HB0
    by_cases hlt : i < n
    · obtain ⟨o, ho⟩ : ∃ o, l[i]? = some o := ⟨_, List.getElem?_eq_getElem (by have := HN.out; omega)⟩
      obtain ⟨b, off, rfl, hc⟩ := home_at (W' := wr) HR.out HT0.out.below ho (by omega)
      have HC := Lib.hid hc
      have HO := Lib.hid ho
      have hi1 : (0 : Int) ≤ (i : Int) := by omega
      have hi2 : (i : Int) < (n : Int) := by omega
      have hDpl := wrs_pl (homeW x (l.take i)) HP.out
      rw [HW.out] at hDpl
      have hlen : (homeW x (l.take i)).length ≤ i := by simp [homeW]; omega
      have hDok : D.ok := hDpl.ok (by omega) (by have := HII.out; have := HN.out; omega)
      obtain ⟨PL, hPL⟩ : ∃ p, p = placeN x o.no := ⟨_, rfl⟩
      obtain ⟨S, hS⟩ : ∃ s, s = strB (Ent.leafL o.no o.data) := ⟨_, rfl⟩
      obtain ⟨D2, hD2⟩ : ∃ z, z = wrD D PL S := ⟨_, rfl⟩
      obtain ⟨E2, hE2⟩ : ∃ z, z = wrE D PL S := ⟨_, rfl⟩
      have CW : Hid (∀ v W, IsDisk W v D → Calls Tryz.prog 21 #[v, .int .i64 PL, .string S] W fun e w' => ∃ v', e = .returned (.tuple #[v', .int .i64 E2]) ∧ IsDisk w' v' D2 ∧ Below W.heap.size W w') := Lib.hid (fun v W h => by rw [hD2, hE2]; exact rwr_calls v D PL S W h hDok hDpl.rise)
      have C1 := rplace_calls x o.no
      have C2 := fun W => Ent.rleaf_calls o.no o.data W (HDT.out o (List.mem_of_getElem? ho))
      rw [← hPL] at C1
      rw [← hS] at C2
      unfold shV at C1
      unfold Ent.lfV at C2
      have C1 := Lib.hid C1
      have C2 := Lib.hid C2
      have hst := home_take (x := x) ho
      rw [← hPL, ← hS] at hst
      have hnx : wrsF d (homeW x (l.take (i + 1))) = (D2, E2) := by rw [hst, wrs_next (by rw [HW.out]), HW.out, hD2, hE2]
      have HNW := Lib.hid hnx
      have hstop : E2 ≠ 0 → wfF d (homeW x l) = (D2, E2) := fun he => by
        have e1 : homeW x (l.take (i + 1)) = (homeW x l).take (i + 1) := by unfold homeW; rw [List.map_take]
        rw [e1] at hnx
        have e2 := wrs_stop (d := d) (l := homeW x l) (k := i + 1) (by rw [hnx]; exact he)
        unfold wfF
        rw [e2, hnx, if_neg he]
      have HST := Lib.hid hstop
      have HT : Hid (HRD w wr wr.drew x (.slice B1 B2 B3) (.slice B4 B5 B6) D) := Lib.hid ⟨HT0.out.more (Below.refl _ _).drew, (Below.refl _ _).drew⟩
      have HVS : Hid (w.heap.size + 2 < wr.heap.size) := Lib.hid (Array.getElem?_eq_some_iff.1 HT0.out.zr).1
      have HTA : Hid (HRD w wr (wr.alloc (.cells #[.slice none 0 0, .slice none 0 0, .bool false, .int .i64 0] 28)).drew x (.slice B1 B2 B3) (.slice B4 B5 B6) D) := Lib.hid ⟨(HT0.out.more (below_one wr _)).more (Below.refl _ _).drew, Dsk.below_trans' (below_one wr _) (Below.refl _ _).drew⟩
      have HZA : Hid (NB wr (wr.alloc (.cells #[.slice none 0 0, .slice none 0 0, .bool false, .int .i64 0] 28)).drew wr.heap.size) := Lib.hid ⟨heap_alloc_new wr _, Nat.le_refl _⟩
      clear hc ho hDpl hlen hDok hst hPL hS hnx hstop hD2 hE2
      go_wp2_with fail
      go_region_held3 (fun W => ((W.cell? ⟨w.heap.size, 0, none⟩ = some (.slice B1 B2 B3) ∧ W.cell? ⟨w.heap.size, 1, none⟩ = some (.slice B4 B5 B6) ∧ W.cell? ⟨w.heap.size, 2, none⟩ = some (.bool D.dead) ∧ W.cell? ⟨w.heap.size, 3, none⟩ = some (.int .i64 D.left)) ∧
          W.cell? ⟨w.heap.size + 1, 0, none⟩ = some (.int .i64 x.pages) ∧ W.cell? ⟨w.heap.size + 1, 1, none⟩ = some (.int .i64 x.journal)) ∧
          W.cell? ⟨b, off + i * 2, none⟩ = some (.int .i64 o.no) ∧ W.cell? ⟨b, off + i * 2 + 1, none⟩ = some (.string (strB o.data))) (first | with_reducible exact ⟨HT.out.cells, HC.out _ HT.out.k⟩ | with_reducible exact ⟨(HT.out.more (below_one _ _)).cells, HC.out _ (HT.out.more (below_one _ _)).k⟩ | with_reducible exact ⟨HTA.out.cells, HC.out _ HTA.out.k⟩ | (obtain ⟨X, hX, hN⟩ := NX.store HT.out HZ.out HV.out HVS.out; rw [hX]; with_reducible exact ⟨hN.h.cells, HC.out _ hN.h.k⟩)) (first
        | (go_at_call 69; (with_reducible refine (C1.out _).mono ?_); rintro e wa ⟨rfl, hBa⟩; first
            | ((with_reducible replace HT := Lib.hid (HT.out.more hBa)); (try ((with_reducible replace HZ := Lib.hid (HZ.out.more hBa)); obtain ⟨⟨z0, z1, z2, z3⟩, e0, e1, e2, e3⟩ := box4 HZ.out.box)); clear hBa)
            | ((with_reducible have HZ := Lib.hid (HZA.out.more hBa)); (with_reducible replace HT := Lib.hid (HTA.out.more hBa)); obtain ⟨⟨z0, z1, z2, z3⟩, e0, e1, e2, e3⟩ := box4 HZ.out.box; clear hBa)
            | ((with_reducible have HZ := Lib.hid ((NB.new HT.out).more hBa)); (with_reducible replace HT := Lib.hid ((HT.out.more (below_one _ _)).more hBa)); obtain ⟨⟨z0, z1, z2, z3⟩, e0, e1, e2, e3⟩ := box4 HZ.out.box; clear hBa))
        | (go_at_call 19; (with_reducible refine (C2.out _).mono ?_); rintro e wa ⟨rfl, hBa⟩; first
            | ((with_reducible replace HT := Lib.hid (HT.out.more hBa)); (try ((with_reducible replace HZ := Lib.hid (HZ.out.more hBa)); obtain ⟨⟨z0, z1, z2, z3⟩, e0, e1, e2, e3⟩ := box4 HZ.out.box)); clear hBa)
            | ((with_reducible have HZ := Lib.hid (HZA.out.more hBa)); (with_reducible replace HT := Lib.hid (HTA.out.more hBa)); obtain ⟨⟨z0, z1, z2, z3⟩, e0, e1, e2, e3⟩ := box4 HZ.out.box; clear hBa)
            | ((with_reducible have HZ := Lib.hid ((NB.new HT.out).more hBa)); (with_reducible replace HT := Lib.hid ((HT.out.more (below_one _ _)).more hBa)); obtain ⟨⟨z0, z1, z2, z3⟩, e0, e1, e2, e3⟩ := box4 HZ.out.box; clear hBa))
        | (go_at_call 21; (with_reducible refine (CW.out _ _ HT.out.b.isd).mono ?_); rintro e wa ⟨v', rfl, hv', hBa⟩; (with_reducible replace HT := Lib.hid (HT.out.more hBa)); (try ((with_reducible replace HZ := Lib.hid (HZ.out.more hBa)); obtain ⟨⟨z0, z1, z2, z3⟩, e0, e1, e2, e3⟩ := box4 HZ.out.box)); obtain ⟨T1, T2, T3, T4, T5, T6, rfl⟩ := hv'.parts; have HV := Lib.hid hv'; clear hv' hBa)
        | (go_at_call 21; (with_reducible refine (CW.out _ _ (HT.out.more (below_one _ _)).b.isd).mono ?_); rintro e wa ⟨v', rfl, hv', hBa⟩; (with_reducible have HZ := Lib.hid ((NB.new HT.out).more hBa)); (with_reducible replace HT := Lib.hid ((HT.out.more (below_one _ _)).more hBa)); obtain ⟨⟨z0, z1, z2, z3⟩, e0, e1, e2, e3⟩ := box4 HZ.out.box; obtain ⟨T1, T2, T3, T4, T5, T6, rfl⟩ := hv'.parts; have HV := Lib.hid hv'; clear hv' hBa))
      all_goals
        (rename_i hheld; clear hheld)
        first
          | (obtain ⟨X, eX, hNX⟩ := NX.fresh HT.out HV.out; rw [eX])
          | (obtain ⟨X, eX, hNX⟩ := NX.store HT.out HZ.out HV.out HVS.out; rw [eX])
        have HNX := Lib.hid hNX
        clear eX hNX
        obtain ⟨⟨z0, z1, z2, z3⟩, _⟩ := box4 HNX.out.box
        obtain ⟨⟨p0, p1, p2, p3⟩, f0, f1, f2, f3⟩ := box4 HNX.out.h.b.dk
        obtain ⟨X6, e6, hb6⟩ := HNX.out.h.b.put HNX.out.isd
        have HX6 := Lib.hid e6
        have HB6 := Lib.hid hb6
        clear e6 hb6
        by_cases hE : E2 = 0
        · have hE1 : (E2 == 0) = true := by simpa using hE
          go_wp2_with fail
          rw [HX6.out]
          exact ⟨⟨i + 1, D2, _, _, _, _, _, _, by omega, by go_num, by rw [HNW.out, hE], HB6.out⟩, by simp [intOf]; omega⟩
        · have hE1 : (E2 == 0) = false := by simpa using hE
          obtain ⟨⟨q0, q1, q2, q3⟩, _⟩ := box4 HB6.out.dk
          obtain ⟨⟨r0, r1, r2, r3⟩, g0, g1, g2, g3⟩ := box4 HB6.out.zr
          obtain ⟨X7, e7, hb7, hk7, hB7⟩ := box_store4 HB6.out.zr (.slice T1 T2 T3) (.slice T4 T5 T6) (.bool D2.dead) (.int .i64 D2.left)
          have HX7 := Lib.hid e7
          have HB7 := Lib.hid (And.intro (HB6.out.isd.other HB6.out.zr (by decide) (by decide) hk7) (hB7 _ _ HB6.out.below (by omega)))
          obtain ⟨⟨s0, s1, s2, s3⟩, _⟩ := box4 hb7
          have hfin := HST.out hE
          have HF := Lib.hid hfin
          clear e7 hb7 hk7 hB7 hfin
          go_upto_region 6 with (fail)
          rw [HX6.out]
          clear z0 z1 z2 z3 p0 p1 p2 p3 f0 f1 f2 f3 HX6
          go_wp2_with fail
          rw [HX7.out]
          refine bodyPost_ret (v := .tuple #[.agg #[.slice T1 T2 T3, .slice T4 T5 T6, .bool D2.dead, .int .i64 D2.left], .int .i64 E2]) (by simp [results, Tryz.results72, go_sem, s0, s1, s2, s3]) rfl ⟨_, by rw [HF.out], by rw [HF.out]; exact HB7.out.1, HB7.out.2⟩
    · have hnl : decide ((i : Int) < (n : Int)) = false := by simp; omega
      have hin : i = n := by omega
      subst hin
      have hall : wrsF d (homeW x l) = (D, 0) := by
        have := HW.out
        rwa [show l.take i = l by rw [HN.out, List.take_length]] at this
      have hfin : wfF d (homeW x l) = (flD D, flE D) := by unfold wfF; rw [hall, if_pos rfl]
      have hDpl := wrs_pl (homeW x l) HP.out
      rw [hall] at hDpl
      have hlen : (homeW x l).length = l.length := by simp [homeW]
      have hDok : D.ok := hDpl.ok (by omega) (by have := HII.out; omega)
      have HF := Lib.hid hfin
      have CF := Lib.hid (fun v W (h : IsDisk W v D) => rfl_calls v D W h hDok hDpl.inn)
      obtain ⟨⟨p0, p1, p2, p3⟩, _⟩ := box4 HT0.out.dk
      clear hall hfin hDpl hlen hDok
      go_wp2_with fail
      (with_reducible refine (CF.out _ _ HT0.out.isd).mono ?_)
      rintro e wa ⟨v', rfl, hv', hBa⟩
      obtain ⟨T1, T2, T3, T4, T5, T6, rfl⟩ := hv'.parts
      have HT := Lib.hid (HT0.out.more hBa)
      have HV := Lib.hid hv'
      obtain ⟨⟨r0, r1, r2, r3⟩, g0, g1, g2, g3⟩ := box4 HT.out.zr
      obtain ⟨X7, e7, hb7, hk7, hB7⟩ := box_store4 HT.out.zr (.slice T1 T2 T3) (.slice T4 T5 T6) (.bool (flD D).dead) (.int .i64 (flD D).left)
      have HX7 := Lib.hid e7
      have HB7 := Lib.hid (And.intro (hv'.other HT.out.zr (by decide) (by decide) hk7) (hB7 _ _ HT.out.below (by omega)))
      obtain ⟨⟨s0, s1, s2, s3⟩, _⟩ := box4 hb7
      clear hv' hBa e7 hb7 hk7 hB7 p0 p1 p2 p3
      go_wp2_with fail
      rw [HX7.out]
      refine bodyPost_ret (v := .tuple #[.agg #[.slice T1 T2 T3, .slice T4 T5 T6, .bool (flD D).dead, .int .i64 (flD D).left], .int .i64 (flE D)]) (by simp [results, Tryz.results72, go_sem, s0, s1, s2, s3]) rfl ⟨_, by rw [HF.out], by rw [HF.out]; exact HB7.out.1, HB7.out.2⟩

end Go.Proofs.YtnbbijpmkhdgpaaGreat.Vlt

/- VOwn -/
namespace Go.Proofs.YtnbbijpmkhdgpaaGreat.Vlt
open Go.RowKit Go.Sort
open Dsk

/-- A slice of the call's own that reads as these pages. -/
def OwnL (B : Nat) (w : World) (v : Value) (l : List Lf) : Prop := w.ownsRow B 52 2 v l.length (lfCells l)
section
variable {B : Nat} {w w' : World} {v : Value} {l : List Lf}
theorem OwnL.isLfs (h : OwnL B w v l) : IsLfs w v l := SL.of_own h
theorem OwnL.nil (B : Nat) (w : World) : OwnL B w (.slice none 0 0) [] := World.ownsRow_nil _ _ _ _
theorem OwnL.ge (h : OwnL B w v l) : ∀ k, v.ownBlock = some k → B ≤ k := fun k hk => (World.ownsRow.lt h k hk).1
theorem OwnL.below (h : OwnL B w v l) (hb : Below w.heap.size w w') : OwnL B w' v l := by
  refine ⟨h.1, ?_⟩
  rcases h.2 with hn | ⟨g, cap, cur, rfl, hg1, hg, rest⟩
  · exact .inl hn
  · exact .inr ⟨g, cap, cur, rfl, hg1, (hb.block g (Array.getElem?_eq_some_iff.1 hg).1).trans hg, rest⟩
theorem OwnL.form (h : OwnL B w v l) : ∃ A c, v = .slice A l.length c := by
  obtain ⟨A, n, c, e, hn, _⟩ := h.isLfs.open_
  subst hn
  exact ⟨A, c, e⟩
theorem ownL_snoc {x : Lf} (h : w.ownsRow B 52 2 v (l.length + 1) (lfCells l ++ [.int .i64 x.no, .string (strB x.data)])) : OwnL B w v (l ++ [x]) := by
  unfold OwnL
  rw [lfCells_append, lfCells_one, List.length_append]
  exact h
theorem newsL {W : World} (x : Lf) {g : Nat} (hg : W.heap.size = g) : ∀ (j : Nat) (u : Value), ([.int .i64 x.no, .string (strB x.data)] : List Value)[j]? = some u → (W.alloc (.cells #[.int .i64 x.no, .string (strB x.data)] 52)).cell? ((⟨g, 0, none⟩ : Addr).add j) = some u := by
  intro j u hj
  subst hg
  rw [Addr.add_lit, Nat.zero_add, cell_of_row _ _ _ _ _ _ (heap_alloc_new W _), ← hj]
  exact List.getElem?_toArray
theorem oneL (x : Lf) : ∀ u ∈ ([.int .i64 x.no, .string (strB x.data)] : List Value), u.oneCell' = true := by
  intro u hu
  simp only [List.mem_cons, List.not_mem_nil, or_false] at hu
  rcases hu with rfl | rfl <;> rfl
theorem info48 : (Tryz.prog.info? 52).map (fun i => (i.zero, i.size, i.bytes)) = some (some (.agg #[.int .i64 0, .string ⟨#[]⟩]), 2, 24) := by kernel_rfl
theorem below_grown {B : Nat} {a w w' : World} {row : Option Nat} (h : Below B a w) (k : w.grownBy w' row) (hr : ∀ i, row = some i → B ≤ i) (hB : B ≤ w.heap.size) : Below B a w' :=
  ⟨k.os.trans h.os, k.tape.trans h.tape, k.output.trans h.output, Nat.le_trans h.size k.size, fun i hi => (k.block i (by omega) (fun e => by have := hr i e.symm; omega)).trans (h.block i hi)⟩
end

end Go.Proofs.YtnbbijpmkhdgpaaGreat.Vlt
