/- Contracts and plain mathematics that the statement's proof wants: no statement is proved here, nothing is assumed. -/
import Derived.Lib.QuietBelow
import Derived.BigQuiet
import Derived.BigRegion
import Derived.Deep.QuietTactic
import Derived.Test.YtgeiemccjionpaaGreatMg00
import Derived.Test.YtgeiemccjionpaaGreatMg01
import Derived.Test.YtgeiemccjionpaaGreatMg02
import Derived.Test.YtgeiemccjionpaaGreatMg05
import Derived.Test.YtgeiemccjionpaaGreatMg06
import Derived.Test.YtgeiemccjionpaaGreatMg07
import Derived.Test.YtgeiemccjionpaaGreatMg08
import Derived.Test.YtgeiemccjionpaaGreatMg09
/- AMem -/
namespace Go.Proofs.YtgeiemccjionpaaGreat
open Go.RowKit Go.Sort
open Wire (TK TP But twoL)
open Crc (sealB Only)

def shV (x : Sh) : Value := .agg #[.int .i64 x.pages, .int .i64 x.journal]

/-- A box that holds a shape. -/
def SBox (w : World) (g : Nat) (x : Sh) : Prop := w.heap[g]? = some (.cells #[.int .i64 x.pages, .int .i64 x.journal] 29 (0, 0))
section
variable {w w' : World} {g : Nat} {x : Sh}
theorem SBox.c0 (h : SBox w g x) : w.cell? ⟨g, 0, none⟩ = some (.int .i64 x.pages) := by rw [cell_of_row w g _ _ _ _ h]; rfl
theorem SBox.c1 (h : SBox w g x) : w.cell? ⟨g, 1, none⟩ = some (.int .i64 x.journal) := by rw [cell_of_row w g _ _ _ _ h]; rfl
theorem SBox.lt (h : SBox w g x) : g < w.heap.size := (Array.getElem?_eq_some_iff.1 h).1
theorem SBox.keep (h : SBox w g x) (e : w'.heap[g]? = w.heap[g]?) : SBox w' g x := e.trans h
theorem SBox.below (h : SBox w g x) (hb : Below w.heap.size w w') : SBox w' g x := (hb.block g h.lt).trans h
theorem SBox.but {b : Nat} (h : SBox w g x) (hb : But b w w') (hg : g ≠ b) : SBox w' g x := h.keep (hb.block g h.lt hg)
theorem SBox.only {b : Nat} (h : SBox w g x) (hb : Only b w w') (hg : g ≠ b) : SBox w' g x := h.keep (hb.block g hg)
theorem SBox.new (w : World) (x : Sh) : SBox (w.alloc (.cells #[.int .i64 x.pages, .int .i64 x.journal] 29)) w.heap.size x := heap_alloc_new w _
theorem SBox.free (h : SBox w g x) (i : Nat) : w.frozen? ⟨g, i, none⟩ = false := by unfold SBox at h; simp [World.frozen?, h]
theorem SBox.setPages (h : SBox w g x) (n : Int) : SBox (w.setCell ⟨g, 0, none⟩ (.int .i64 n)) g { x with pages := n } := heap_setCell_same w g 0 _ 29 _ h
theorem SBox.setJournal (h : SBox w g x) (n : Int) : SBox (w.setCell ⟨g, 1, none⟩ (.int .i64 n)) g { x with journal := n } := heap_setCell_same w g 1 _ 29 _ h
end

/-- The world behind the store of a whole shape, under a name of its own. -/
theorem store2 {w : World} {g : Nat} {x0 : Sh} (h : SBox w g x0) (x : Sh) :
    ∃ w2, (w.setCell ⟨g, 0, none⟩ (.int .i64 x.pages)).setCell ⟨g, 1, none⟩ (.int .i64 x.journal) = w2 ∧ SBox w2 g x ∧ Only g w w2 := by
  refine ⟨_, rfl, ?_, ((Only.refl g w).setCell _ rfl _).setCell _ rfl _⟩
  exact (h.setPages x.pages).setJournal x.journal
theorem Only.after {g : Nat} {u v w : World} (h : Below u.heap.size u v) (k : Only g v w) (hg : u.heap.size ≤ g) : Below u.heap.size u w := h.trans (k.below hg)

/-- A contract that lays blocks, in a world of the class. -/
theorem rg {f : FuncId} {args : Array Value} {v : Value} (h : ∀ W, Calls Tryz.prog f args W fun e w' => e = .returned v ∧ Below W.heap.size W w') (Y : World) :
    ∀ d os, Calls Tryz.prog f args (grow (redrawn Y d) os) fun e w'' => e = .returned v ∧ ∃ p : Regrown, w'' = grow (redrawn Y p.d) p.os :=
  fun _ _ => Calls.regrown_of (h _)
theorem rg0 {f : FuncId} {args : Array Value} {v : Value} (h : ∀ W, Calls Tryz.prog f args W fun e w' => e = .returned v ∧ w' = W) (Y : World) :
    ∀ d os, Calls Tryz.prog f args (grow (redrawn Y d) os) fun e w'' => e = .returned v ∧ ∃ p : Regrown, w'' = grow (redrawn Y p.d) p.os :=
  fun d os => (h _).mono fun _ _ ⟨he, hw⟩ => ⟨he, ⟨d, os⟩, hw⟩

theorem repeat_zer (n : Nat) : Lib.repeatL [0] n = zer n := by
  induction n with
  | zero => rfl
  | succ n ih => unfold Lib.repeatL; rw [ih]; rfl

theorem rep_calls (n : Nat) (w : World) (hn : n ≤ 1000) :
    Calls Tryz.prog 92 #[.string ⟨#[0]⟩, .int .i64 (n : Nat)] w fun e w' => e = .returned (.string (strB (zer n))) ∧ Below w.heap.size w w' := by
  have h := Tryz.strings_Repeat ⟨#[0]⟩ n w (by omega) (by show 1 * n ≤ _; omega)
  rw [show (⟨#[0]⟩ : ByteArray).data.toList = [0] from rfl, repeat_zer] at h
  exact h

set_option maxRecDepth 100000 in
set_option maxHeartbeats 8000000 in
theorem rright_calls (x : Sh) (w : World) :
    Calls Tryz.prog 28 #[shV x] w fun e w' => e = .returned (.bool (rightS x)) ∧ Below w.heap.size w w' := by
  unfold shV
  by_cases h0 : 16 ≤ x.pages
  rotate_left
  · have E : Hid (false = rightS x) := Lib.hid (by unfold rightS; simp [*])
    go_enter Tryz.func28, Tryz.ntmps28
    go_wp2_with fail
    go_ret
    exact ⟨ret_bool E.out, below_one _ _⟩
  by_cases h1 : x.pages ≤ 512
  rotate_left
  · have E : Hid (false = rightS x) := Lib.hid (by unfold rightS; simp [*])
    go_enter Tryz.func28, Tryz.ntmps28
    go_wp2_with fail
    go_ret
    exact ⟨ret_bool E.out, below_one _ _⟩
  by_cases h2 : 8 ≤ x.journal
  rotate_left
  · have E : Hid (false = rightS x) := Lib.hid (by unfold rightS; simp [*])
    go_enter Tryz.func28, Tryz.ntmps28
    go_wp2_with fail
    go_ret
    exact ⟨ret_bool E.out, below_one _ _⟩
  by_cases h3 : x.journal ≤ 256
  rotate_left
  · have E : Hid (false = rightS x) := Lib.hid (by unfold rightS; simp [*])
    go_enter Tryz.func28, Tryz.ntmps28
    go_wp2_with fail
    go_ret
    exact ⟨ret_bool E.out, below_one _ _⟩
  · have E : Hid (true = rightS x) := Lib.hid (by unfold rightS; simp [*])
    go_enter Tryz.func28, Tryz.ntmps28
    go_wp2_with fail
    go_ret
    exact ⟨ret_bool E.out, below_one _ _⟩

/-- Sectors' numbers, cut to what an int holds. -/
def logN (n : Int) : Int := wrap64 (1 + n)
def placeN (x : Sh) (n : Int) : Int := wrap64 (logN x.journal + n)

set_option maxRecDepth 100000 in
set_option maxHeartbeats 8000000 in
theorem log_calls (n : Int) (w : World) : Calls Tryz.prog 83 #[.int .i64 n] w fun e w' => e = .returned (.int .i64 (logN n)) ∧ w' = w := by
  go_enter Tryz.func83, Tryz.ntmps83
  go_wp2_with fail
  go_ret
  exact ⟨rfl, rfl⟩
set_option maxRecDepth 100000 in
set_option maxHeartbeats 8000000 in
theorem place_calls (x : Sh) (n : Int) (w : World) : Calls Tryz.prog 61 #[shV x, .int .i64 n] w fun e w' => e = .returned (.int .i64 (placeN x n)) ∧ Below w.heap.size w w' := by
  unfold shV
  go_enter Tryz.func61, Tryz.ntmps61
  go_wp2_with fail
  (with_reducible refine (log_calls _ _).mono ?_)
  rintro e w1 ⟨rfl, rfl⟩
  go_wp2_with fail
  go_ret
  exact ⟨rfl, below_one _ _⟩
set_option maxRecDepth 100000 in
set_option maxHeartbeats 8000000 in
theorem rplace_calls (x : Sh) (n : Int) (w : World) : Calls Tryz.prog 53 #[shV x, .int .i64 n] w fun e w' => e = .returned (.int .i64 (placeN x n)) ∧ Below w.heap.size w w' := by
  unfold shV
  go_enter Tryz.func53, Tryz.ntmps53
  go_wp2_with fail
  go_ret
  exact ⟨rfl, below_one _ _⟩
set_option maxRecDepth 100000 in
set_option maxHeartbeats 8000000 in
theorem rsize_calls (x : Sh) (w : World) : Calls Tryz.prog 30 #[shV x] w fun e w' => e = .returned (.int .i64 (placeN x x.pages)) ∧ Below w.heap.size w w' := by
  unfold shV
  go_enter Tryz.func30, Tryz.ntmps30
  go_wp2_with fail
  go_ret
  exact ⟨rfl, below_one _ _⟩

theorem str_head (x : Sh) : (⟨#[65, 82, 67, 72, 73, 86, 69, 49]⟩ : ByteArray) ++ strB (twoL x.pages) ++ strB (twoL x.journal) = strB (headL x) := by
  rw [show (⟨#[65, 82, 67, 72, 73, 86, 69, 49]⟩ : ByteArray) = strB archK from rfl]
  simp only [strB_append, headL, restL, List.append_assoc]

set_option maxRecDepth 100000 in
set_option maxHeartbeats 8000000 in
theorem rprint_calls (x : Sh) (w : World) :
    Calls Tryz.prog 32 #[shV x] w fun e w' => e = .returned (.string (strB (printL x))) ∧ Below w.heap.size w w' := by
  obtain ⟨Y, hY, hbY, hBY⟩ : ∃ Y, Y = w.alloc (.cells #[.int .i64 x.pages, .int .i64 x.journal] 29) ∧ SBox Y w.heap.size x ∧ Below w.heap.size w Y := ⟨_, rfl, SBox.new _ _, below_one _ _⟩
  have k0 := fun d os => cell_regrown hbY.c0 d os
  have k1 := fun d os => cell_regrown hbY.c1 d os
  have C4 := Lib.hid (rg (Wire.rtwo_calls x.pages) Y)
  have C5 := Lib.hid (rg (Wire.rtwo_calls x.journal) Y)
  have HY := Lib.hid hY
  have HB := Lib.hid hBY
  have HH := Lib.hid (str_head x)
  have g4 : (strB (twoL x.pages)).size ≤ 4 := by rw [strB_size, Wire.twoL_len]; omega
  have g5 : (strB (twoL x.journal)).size ≤ 4 := by rw [strB_size, Wire.twoL_len]; omega
  have hsz : (strB (headL x)).size = 12 := by rw [strB_size, headL_len]
  have hz : (strB (zer 240)).size = 240 := by rw [strB_size, zer_len]
  have hmk : ∀ W : World, (Instr.makeSlice 70 (.int .i64 240) (.int .i64 240)).run Tryz.prog W = .ok (.slice (some ⟨W.heap.size, 0, none⟩) 240 240) (W.alloc (.cells (madeCells #[.int .u8 0] 240) 5)) := Wire.make_zeros 240 (by omega)
  have hc : ∀ W : World, (convert 70 9 (.slice (some ⟨W.heap.size, 0, none⟩) 240 240)).run Tryz.prog (W.alloc (.cells (madeCells #[.int .u8 0] 240) 5)) = .ok (.string (strB (zer 240))) (W.alloc (.cells (madeCells #[.int .u8 0] 240) 5)) := Wire.conv_zeros 240
  have hf : strB (headL x) ++ strB (zer 240) = strB (fillL x) := by rw [strB_append]; rfl
  have HS := Lib.hid (Crc.ref_seal (strB (headL x) ++ strB (zer 240)))
  rw [hf, strB_data, ← hf] at HS
  have HF : Hid ((strB (headL x) ++ strB (zer 240)).size ≤ 9223372036854775000) := Lib.hid (by rw [hf, strB_size, fillL_len]; omega)
  clear hY hbY hBY hf
  unfold shV
  go_enter Tryz.func32, Tryz.ntmps32
  go_wp2_with fail
  rw [← HY.out]
  refine wp_region_quiet_below (by kernel_rfl) (by kernel_rfl) ?_
  (try simp only [List.append_eq, List.cons_append, List.nil_append])
  repeat (first | go_big_quiet_step (first | (with_reducible exact C4.out _ _) | (with_reducible exact C5.out _ _)))
  refine wpQuiet_nil ?_
  intro _ hw'
  obtain ⟨⟨dq, osq⟩, hw''⟩ := hw'
  subst hw''
  dsimp only
  rw [HH.out]
  have HB2 := Lib.hid (Below.trans HB.out ((below_regrown Y dq osq).mono HB.out.size))
  generalize grow (redrawn Y dq) osq = W1 at *
  clear k0 k1 g4 g5
  go_wp2_with fail
  (with_reducible refine (HS.out _ HF.out).mono ?_)
  rintro e w3 ⟨rfl, hB3⟩
  go_wp2_with fail
  go_ret
  exact ⟨rfl, below_trans' (below_trans' HB2.out (below_one _ _)) hB3⟩

end Go.Proofs.YtgeiemccjionpaaGreat

/- VModel -/
namespace Go.Proofs.YtgeiemccjionpaaGreat.Vlt
open Go.RowKit
open Dsk
open Ent (isE parseE leafL homeB homeV zer_len)

structure VK where
  disk : DK
  shape : Sh
  seq : Int
  dirty : List Lf

def zeroV : VK := ⟨zeroD, zeroS, 0, []⟩
def sizeX (x : Sh) : Int := placeN x x.pages
def padP (l : List UInt8) : List UInt8 := l ++ Ent.zer (208 - l.length)
def formatV (x : Sh) : VK := ⟨flD (wrD (newD (sizeX x).toNat) 0 (strB (printL x))), x, 1, []⟩

def findL (l : List Lf) (no : Int) : Option Lf := l.find? (fun p => p.no == no)
def insL (p : Lf) (l : List Lf) : List Lf := l.takeWhile (fun q => decide (q.no < p.no)) ++ p :: (l.dropWhile (fun q => decide (q.no < p.no))).filter (fun q => decide (q.no ≠ p.no))

def hasP (v : VK) (no : Int) : Prop := 0 ≤ no ∧ no < v.shape.pages
instance (v : VK) (no : Int) : Decidable (hasP v no) := by unfold hasP; infer_instance

/-- What a page is read as, and the error. -/
def readV (v : VK) (no : Int) : List UInt8 × Int :=
  if ¬ hasP v no then ([], 1) else if v.disk.dead = true then ([], 12) else
  match findL v.dirty no with
  | some p => (p.data, 0)
  | none =>
    if rdE v.disk (placeN v.shape no) ≠ 0 then ([], rdE v.disk (placeN v.shape no)) else
    if homeB (rdS v.disk (placeN v.shape no)).data.toList no = true then (homeV (rdS v.disk (placeN v.shape no)).data.toList no, 0) else ([], 2)
def writeV (v : VK) (no : Int) (data : List UInt8) : VK × Int :=
  if ¬ (hasP v no ∧ data.length ≤ 208) then (v, 1) else if v.disk.dead = true then (v, 12) else ({ v with dirty := insL ⟨no, padP data⟩ v.dirty }, 0)

/-- What is written into the journal, and into the pages' places. -/
def logL (s : Int) (l : List Lf) : List (Int × ByteArray) := (List.range (l.length + 1)).map fun k : Nat => ((1 : Int) + k, strB (Ent.printL (entK s l k)))
def homeW (x : Sh) (l : List Lf) : List (Int × ByteArray) := l.map fun p => (placeN x p.no, strB (leafL p.no p.data))

def commitV (v : VK) : VK × Int :=
  if v.disk.dead = true then (v, 12) else if v.dirty = [] then (v, 0) else if (v.dirty.length : Int) + 1 > v.shape.journal then ({ v with dirty := [] }, 8) else
  if (wfF v.disk (logL v.seq v.dirty)).2 ≠ 0 then ({ v with disk := (wfF v.disk (logL v.seq v.dirty)).1 }, (wfF v.disk (logL v.seq v.dirty)).2) else
  if (wfF (wfF v.disk (logL v.seq v.dirty)).1 (homeW v.shape v.dirty)).2 ≠ 0 then ({ v with disk := (wfF (wfF v.disk (logL v.seq v.dirty)).1 (homeW v.shape v.dirty)).1 }, (wfF (wfF v.disk (logL v.seq v.dirty)).1 (homeW v.shape v.dirty)).2) else
  (⟨(wfF (wfF v.disk (logL v.seq v.dirty)).1 (homeW v.shape v.dirty)).1, v.shape, v.seq + 1, []⟩, 0)

/-- The journal's sectors, as they are read. -/
def secK (d : DK) (k : Nat) : List UInt8 := (rdS d (1 + k)).data.toList
def headS (d : DK) : List UInt8 := (rdS d 0).data.toList
noncomputable def openV (d : DK) : VK × DK × Int :=
  if rdE d 0 = 12 then (zeroV, d, 12) else
  if ¬ (isS (headS d) = true ∧ (d.sure.length : Int) = sizeX (parseS (headS d))) then (zeroV, d, 14) else
  if 2147483647 ≤ mostF (secK d) (parseS (headS d)).journal.toNat then (zeroV, d, 14) else
  if jl (parseS (headS d)).pages (parseS (headS d)).journal.toNat (secK d) = [] then (⟨d, parseS (headS d), mostF (secK d) (parseS (headS d)).journal.toNat + 1, []⟩, d, 0) else
  if (wfF d (homeW (parseS (headS d)) (jl (parseS (headS d)).pages (parseS (headS d)).journal.toNat (secK d)))).2 ≠ 0 then
    (zeroV, (wfF d (homeW (parseS (headS d)) (jl (parseS (headS d)).pages (parseS (headS d)).journal.toNat (secK d)))).1, (wfF d (homeW (parseS (headS d)) (jl (parseS (headS d)).pages (parseS (headS d)).journal.toNat (secK d)))).2) else
  (⟨(wfF d (homeW (parseS (headS d)) (jl (parseS (headS d)).pages (parseS (headS d)).journal.toNat (secK d)))).1, parseS (headS d), mostF (secK d) (parseS (headS d)).journal.toNat + 1, []⟩, (wfF d (homeW (parseS (headS d)) (jl (parseS (headS d)).pages (parseS (headS d)).journal.toNat (secK d)))).1, 0)

/-- The same, with names for the parts. -/
theorem openV_is {d : DK} {x : Sh} {m : Int} {l : List Lf} {r : DK × Int} (hx : x = parseS (headS d)) (hm : m = mostF (secK d) x.journal.toNat) (hl : l = jl x.pages x.journal.toNat (secK d)) (hr : r = wfF d (homeW x l)) :
    openV d = if rdE d 0 = 12 then (zeroV, d, 12) else if ¬ (isS (headS d) = true ∧ (d.sure.length : Int) = sizeX x) then (zeroV, d, 14) else if 2147483647 ≤ m then (zeroV, d, 14) else
      if l = [] then (⟨d, x, m + 1, []⟩, d, 0) else if r.2 ≠ 0 then (zeroV, r.1, r.2) else (⟨r.1, x, m + 1, []⟩, r.1, 0) := by
  subst hx hm hl hr
  rfl

theorem rd_log (s : ByteArray) : s.data.toList = s.data.toList := rfl

section
variable {x : Sh}

def JN (x : Sh) : Nat := x.journal.toNat
def PN (x : Sh) : Nat := x.pages.toNat
def NN (x : Sh) : Nat := 1 + JN x + PN x
theorem right_nat (h : rightS x = true) : x.pages = (PN x : Nat) ∧ x.journal = (JN x : Nat) ∧ 16 ≤ PN x ∧ PN x ≤ 512 ∧ 8 ≤ JN x ∧ JN x ≤ 256 := by
  have := right_iff.1 h
  unfold PN JN
  omega
theorem place_nat (h : rightS x = true) {p : Nat} (hp : p ≤ PN x) : placeN x (p : Nat) = ((1 + JN x + p : Nat) : Int) := by
  obtain ⟨a, b, c, d, e, f⟩ := right_nat h
  unfold placeN logN wrap64
  omega
theorem size_nat (h : rightS x = true) : sizeX x = (NN x : Nat) := by
  obtain ⟨a, b, c, d, e, f⟩ := right_nat h
  unfold sizeX
  rw [a, place_nat h (Nat.le_refl _)]
  rfl

def jS (S : Nat → ByteArray) (k : Nat) : List UInt8 := (S (1 + k)).data.toList
def hS (x : Sh) (S : Nat → ByteArray) (p : Nat) : List UInt8 := (S (1 + JN x + p)).data.toList

/-- Sectors that come up as these pages. -/
structure Up (x : Sh) (P : Nat → List UInt8) (m : Int) (S : Nat → ByteArray) : Prop where
  head : S 0 = strB (printL x)
  recs : Recs (PN x) (JN x) (jS S) (hS x S) P
  seqs : ∀ k, k < JN x → isE (jS S k) = true → (parseE (jS S k)).seq ≤ m

theorem Up.more {P : Nat → List UInt8} {m m' : Int} {S : Nat → ByteArray} (h : Up x P m S) (hm : m ≤ m') : Up x P m' S := ⟨h.head, h.recs, fun k a b => by have := h.seqs k a b; omega⟩

/-- A vault at rest: its pages, but for what is Dirty. -/
structure Rest (x : Sh) (P : Nat → List UInt8) (m : Int) (v : VK) : Prop where
  pl : Pl (NN x) 0 v.disk
  up : v.disk.dead = false
  shape : v.shape = x
  head : sureB v.disk 0 = strB (printL x)
  homes : Homes (PN x) (hS x (sureB v.disk)) P
  recs : Recs (PN x) (JN x) (jS (sureB v.disk)) (hS x (sureB v.disk)) P
  seq : v.seq = mostF (jS (sureB v.disk)) (JN x) + 1
  low : v.seq ≤ m
  lok : LOk (PN x) v.dirty
  rise : List.Pairwise (fun a b : Lf => a.no < b.no) v.dirty

section
variable {P Q : Nat → List UInt8} {m m' : Int} {v : VK}
theorem Rest.dry (h : Rest x P m v) : v.disk.wet = [] := List.eq_nil_of_length_eq_zero (by have := h.pl.good.wet; omega)
theorem Rest.now (h : Rest x P m v) (j : Nat) : nowB v.disk j = sureB v.disk j := now_dry h.dry j
theorem Rest.more (h : Rest x P m v) (hm : m ≤ m') : Rest x P m' v := { h with low := by have := h.low; omega }
theorem Rest.clean (h : Rest x P m v) : Rest x P m { v with dirty := [] } := { h with lok := ⟨by simp, by simp, by simp⟩, rise := List.Pairwise.nil }
theorem Rest.seqs (h : Rest x P m v) : ∀ k, k < JN x → isE (jS (sureB v.disk) k) = true → (parseE (jS (sureB v.disk) k)).seq < v.seq := by
  intro k hk hs
  have := le_most (S := jS (sureB v.disk)) (JN x) k hk hs
  have := h.seq
  omega
theorem Rest.seq1 (h : Rest x P m v) : 1 ≤ v.seq := by
  have := most_nn (jS (sureB v.disk)) (JN x)
  have := h.seq
  omega
theorem Rest.isUp (h : Rest x P m v) : Up x P (m - 1) (sureB v.disk) := ⟨h.head, h.recs, fun k a b => by have := h.seqs k a b; have := h.low; omega⟩
theorem Rest.armed (h : Rest x P m v) (k : Int) (h1 : -1 ≤ k) (h2 : k ≤ 9223372036854775807) : Rest x P m { v with disk := { v.disk with left := k } } :=
  { h with pl := ⟨⟨h.pl.good.sure, h.pl.good.wet, h1, h2⟩, h.pl.rise, h.pl.inn⟩ }
end

/-- A disk without power: whatever stays comes up as the one, or the other. -/
structure Down (x : Sh) (P Q : Nat → List UInt8) (m : Int) (d : DK) : Prop where
  pl : ∃ i, Pl (NN x) i d ∧ i ≤ 300
  dead : d.dead = true
  mix : ∀ S : Nat → ByteArray, (∀ j, S j = sureB d j ∨ S j = nowB d j) → Up x P m S ∨ Up x Q m S

theorem updW_any (l : List (Int × ByteArray)) (f : Nat → ByteArray) (j : Nat) : updW l f j = f j ∨ ∃ p ∈ l, p.1 = (j : Int) ∧ updW l f j = p.2 := by
  unfold updW
  suffices ∀ b, l.foldl (fun b (p : Int × ByteArray) => if p.1 = (j : Int) then p.2 else b) b = b ∨ ∃ p ∈ l, p.1 = (j : Int) ∧ l.foldl (fun b (p : Int × ByteArray) => if p.1 = (j : Int) then p.2 else b) b = p.2 from this _
  induction l with
  | nil => intro b; exact .inl rfl
  | cons q l ih =>
    intro b
    rw [List.foldl_cons]
    rcases ih (if q.1 = (j : Int) then q.2 else b) with h | ⟨p, hp, h1, h2⟩
    · by_cases e : q.1 = (j : Int)
      · exact .inr ⟨q, by simp, e, by rw [h, if_pos e]⟩
      · exact .inl (by rw [h, if_neg e])
    · exact .inr ⟨p, by simp [hp], h1, h2⟩
/-- The last write alone counts: all have what they are to have. -/
theorem updW_all {l : List (Int × ByteArray)} {f : Nat → ByteArray} {j : Nat} {b : ByteArray} (h : ∃ p ∈ l, p.1 = (j : Int)) (hb : ∀ p ∈ l, p.1 = (j : Int) → p.2 = b) : updW l f j = b := by
  rcases updW_any l f j with e | ⟨p, hp, h1, h2⟩
  · obtain ⟨q, hq, h1⟩ := h
    unfold updW
    suffices ∀ c, (∃ p ∈ l, p.1 = (j : Int)) ∨ c = b → l.foldl (fun b (p : Int × ByteArray) => if p.1 = (j : Int) then p.2 else b) c = b from this _ (.inl ⟨q, hq, h1⟩)
    clear e hq h1 q
    induction l with
    | nil => intro c hc; rcases hc with ⟨_, h, _⟩ | h; cases h; exact h
    | cons q l ih =>
      intro c hc
      rw [List.foldl_cons]
      refine ih (fun p hp => hb p (by simp [hp])) _ ?_
      by_cases e : q.1 = (j : Int)
      · exact .inr (by rw [if_pos e]; exact hb q (by simp) e)
      · rw [if_neg e]
        rcases hc with ⟨p, hp, h1⟩ | h
        · rcases List.mem_cons.1 hp with rfl | hp
          · exact absurd h1 e
          · exact .inl ⟨p, hp, h1⟩
        · exact .inr h
  · rw [h2]; exact hb p hp h1

theorem mem_log {s : Int} {l : List Lf} {p : Int × ByteArray} (h : p ∈ logL s l) : ∃ k, k ≤ l.length ∧ p = ((1 : Int) + (k : Nat), strB (Ent.printL (entK s l k))) := by
  unfold logL at h
  obtain ⟨k, hk, e⟩ := List.mem_map.1 h
  rw [List.mem_range] at hk
  exact ⟨k, by omega, e.symm⟩
theorem log_len (s : Int) (l : List Lf) : (logL s l).length = l.length + 1 := by simp [logL]
theorem mem_log_of {s : Int} {l : List Lf} {k : Nat} (h : k ≤ l.length) : ((1 : Int) + (k : Nat), strB (Ent.printL (entK s l k))) ∈ logL s l := by
  unfold logL
  exact List.mem_map.2 ⟨k, by rw [List.mem_range]; omega, rfl⟩
theorem mem_home {x : Sh} {l : List Lf} {p : Int × ByteArray} (h : p ∈ homeW x l) : ∃ q ∈ l, p = (placeN x q.no, strB (leafL q.no q.data)) := by
  obtain ⟨q, hq, e⟩ := List.mem_map.1 h
  exact ⟨q, hq, e.symm⟩

theorem strB_toL (l : List UInt8) : (strB l).data.toList = l := strB_data l

section
variable {n s : Int} {l : List Lf} {P : Nat → List UInt8}

theorem log_ok (hx : rightS x = true) (hl : LOk (PN x) l) (h1 : 1 ≤ s) (h2 : s ≤ 2147483647) (hc : l.length < JN x) : WsOk (NN x) (logL s l) := by
  intro p hp
  obtain ⟨a, b, c, d, e, f⟩ := right_nat hx
  obtain ⟨k, hk, rfl⟩ := mem_log hp
  have hr := ent_right (n := PN x) hl (by omega) h1 h2 f hc hk
  refine ⟨by dsimp only; omega, by unfold NN; dsimp only; omega, ?_⟩
  rw [strB_size]
  exact Ent.print_len hr
theorem home_ok (hx : rightS x = true) (hl : LOk (PN x) l) : WsOk (NN x) (homeW x l) := by
  intro p hp
  obtain ⟨q, hq, rfl⟩ := mem_home hp
  have a := hl.lo q hq
  have b := hl.hi q hq
  have c := hl.len q hq
  obtain ⟨k, hk⟩ : ∃ k : Nat, q.no = (k : Int) := ⟨q.no.toNat, by omega⟩
  rw [hk, place_nat hx (by omega)]
  refine ⟨by dsimp only; omega, by unfold NN; dsimp only; omega, ?_⟩
  rw [strB_size]
  exact Ent.leaf_len (by omega)

/-- The journal's writes turn its own sectors alone. -/
theorem log_mix (_hc : l.length < JN x) (k : Nat) (f : Nat → ByteArray) (j : Nat) :
    updW ((logL s l).take k) f j = f j ∨ ∃ i, i ≤ l.length ∧ j = 1 + i ∧ updW ((logL s l).take k) f j = strB (Ent.printL (entK s l i)) := by
  rcases updW_any ((logL s l).take k) f j with e | ⟨p, hp, h1, h2⟩
  · exact .inl e
  · obtain ⟨i, hi, rfl⟩ := mem_log (List.mem_of_mem_take hp)
    exact .inr ⟨i, hi, by dsimp only at h1; omega, h2⟩
theorem log_all {f : Nat → ByteArray} {i : Nat} (hi : i ≤ l.length) : updW (logL s l) f (1 + i) = strB (Ent.printL (entK s l i)) := by
  refine updW_all ⟨_, mem_log_of hi, by dsimp only; omega⟩ fun p hp hj => ?_
  obtain ⟨k, hk, rfl⟩ := mem_log hp
  dsimp only at hj
  have : k = i := by omega
  rw [this]
theorem log_else {f : Nat → ByteArray} {j : Nat} (hj : j = 0 ∨ l.length + 1 < j) : updW (logL s l) f j = f j := by
  refine updW_out fun p hp h => ?_
  obtain ⟨k, hk, rfl⟩ := mem_log hp
  dsimp only at h
  omega

/-- The pages' writes turn these pages' sectors alone. -/
theorem home_mix (hx : rightS x = true) (hl : LOk (PN x) l) (k : Nat) (f : Nat → ByteArray) (j : Nat) :
    updW ((homeW x l).take k) f j = f j ∨ ∃ p q, q ∈ l ∧ q.no = (p : Nat) ∧ p < PN x ∧ j = 1 + JN x + p ∧ updW ((homeW x l).take k) f j = strB (leafL (p : Nat) q.data) := by
  rcases updW_any ((homeW x l).take k) f j with e | ⟨p, hp, h1, h2⟩
  · exact .inl e
  · obtain ⟨q, hq, rfl⟩ := mem_home (List.mem_of_mem_take hp)
    have a := hl.lo q hq
    have b := hl.hi q hq
    obtain ⟨i, hi⟩ : ∃ i : Nat, q.no = (i : Int) := ⟨q.no.toNat, by omega⟩
    dsimp only at h1 h2
    rw [hi] at h1 h2
    rw [place_nat hx (by omega)] at h1
    exact .inr ⟨i, q, hq, hi, by omega, by omega, h2⟩
theorem home_fold (hx : rightS x = true) {p : Nat} : ∀ (l : List Lf), LOk (PN x) l → ∀ (b : ByteArray) (c : List UInt8), ((∃ q ∈ l, q.no = (p : Int)) ∨ b = strB (leafL (p : Nat) c)) →
    l.foldl (fun b (q : Lf) => if placeN x q.no = ((1 + JN x + p : Nat) : Int) then strB (leafL q.no q.data) else b) b = strB (leafL (p : Nat) (l.foldl (fun b (q : Lf) => if q.no = (p : Int) then q.data else b) c))
  | [], _, b, c, h => by
    rcases h with ⟨_, h, _⟩ | h
    · cases h
    · exact h
  | q :: l, hl, b, c, h => by
    have a := hl.lo q (by simp)
    have d := hl.hi q (by simp)
    obtain ⟨i, hi⟩ : ∃ i : Nat, q.no = (i : Int) := ⟨q.no.toNat, by omega⟩
    have e := place_nat hx (p := i) (by omega)
    rw [List.foldl_cons, List.foldl_cons]
    refine home_fold hx l ⟨fun y hy => hl.lo y (by simp [hy]), fun y hy => hl.hi y (by simp [hy]), fun y hy => hl.len y (by simp [hy])⟩ _ _ ?_
    rw [hi, e]
    by_cases k : i = p
    · subst k
      rw [if_pos rfl, if_pos rfl]
      exact .inr rfl
    · rw [if_neg (by omega), if_neg (by omega)]
      rcases h with ⟨y, hy, hp⟩ | h
      · rcases List.mem_cons.1 hy with rfl | hy
        · omega
        · exact .inl ⟨y, hy, hp⟩
      · exact .inr h
theorem home_all (hx : rightS x = true) (hl : LOk (PN x) l) {f : Nat → ByteArray} {p : Nat} (Q : Nat → List UInt8) (h : ∃ q ∈ l, q.no = (p : Int)) :
    updW (homeW x l) f (1 + JN x + p) = strB (leafL (p : Nat) (ovr l Q p)) := by
  unfold updW ovr homeW
  rw [List.foldl_map]
  exact home_fold hx l hl _ _ (.inl h)
theorem home_else (hx : rightS x = true) (hl : LOk (PN x) l) {f : Nat → ByteArray} {j : Nat} (h : ∀ q ∈ l, ∀ p : Nat, q.no = (p : Int) → j ≠ 1 + JN x + p) : updW (homeW x l) f j = f j := by
  refine updW_out fun p hp e => ?_
  obtain ⟨q, hq, rfl⟩ := mem_home hp
  have a := hl.lo q hq
  have d := hl.hi q hq
  obtain ⟨i, hi⟩ : ∃ i : Nat, q.no = (i : Int) := ⟨q.no.toNat, by omega⟩
  dsimp only at e
  rw [hi, place_nat hx (by omega)] at e
  exact h q hq i hi (by omega)
end

section
variable {P : Nat → List UInt8} {m : Int} {v : VK} {l : List Lf} {s : Int}

/-- A commit behind its first half: the journal has it whole, pages are as they were. -/
structure Half (x : Sh) (P : Nat → List UInt8) (s : Int) (l : List Lf) (S : Nat → ByteArray) : Prop where
  head : S 0 = strB (printL x)
  homes : Homes (PN x) (hS x S) P
  jl : jl (PN x) (JN x) (jS S) = l
  seqs : ∀ k, k < JN x → isE (jS S k) = true → (parseE (jS S k)).seq ≤ s
  most : mostF (jS S) (JN x) = s

/-- Whatever stays of a journal that is being written. -/
theorem half_A (hx : rightS x = true) {S S' : Nat → ByteArray} (head : S 0 = strB (printL x)) (homes : Homes (PN x) (hS x S) P) (recs : Recs (PN x) (JN x) (jS S) (hS x S) P)
    (hold : ∀ k, k < JN x → isE (jS S k) = true → (parseE (jS S k)).seq < s) (hl : LOk (PN x) l) (h1 : 1 ≤ s) (h2 : s ≤ 2147483647) (hc : l.length < JN x)
    (hm : ∀ j, S' j = S j ∨ ∃ i, i ≤ l.length ∧ j = 1 + i ∧ S' j = strB (Ent.printL (entK s l i))) : Up x P s S' ∨ Up x (ovr l P) s S' := by
  obtain ⟨a, b, c, d, e, f⟩ := right_nat hx
  have hm1 : ∀ k, k < JN x → jS S' k = jS S k ∨ (k ≤ l.length ∧ jS S' k = Ent.printL (entK s l k)) := by
    intro k _
    unfold jS
    rcases hm (1 + k) with h | ⟨i, hi, hj, h⟩
    · exact .inl (by rw [h])
    · have : i = k := by omega
      subst this
      exact .inr ⟨hi, by rw [h, strB_toL]⟩
  have hm2 : ∀ p, p < PN x → hS x S' p = hS x S p := by
    intro p _
    unfold hS
    rcases hm (1 + JN x + p) with h | ⟨i, hi, hj, h⟩
    · rw [h]
    · omega
  have hd : S' 0 = strB (printL x) := by
    rcases hm 0 with h | ⟨i, hi, hj, h⟩
    · rw [h, head]
    · omega
  have hq := mix_seq (n := (PN x : Nat)) hl (by omega) h1 h2 f hc hold hm1
  have hr := recs_A (n := PN x) hl d h1 h2 f hc hold hm1 homes recs
  have hx1 : ∀ R, Recs (PN x) (JN x) (jS S') (hS x S) R → Recs (PN x) (JN x) (jS S') (hS x S') R := fun R ⟨Q, q1, q2⟩ => ⟨Q, q1.ext hm2, q2⟩
  rcases hr with hr | hr
  · exact .inl ⟨hd, hx1 _ hr, hq⟩
  · exact .inr ⟨hd, hx1 _ hr, hq⟩

/-- All of the journal is written. -/
theorem half_all (hx : rightS x = true) {S S' : Nat → ByteArray} (head : S 0 = strB (printL x)) (homes : Homes (PN x) (hS x S) P)
    (hold : ∀ k, k < JN x → isE (jS S k) = true → (parseE (jS S k)).seq < s) (hl : LOk (PN x) l) (h1 : 1 ≤ s) (h2 : s ≤ 2147483647) (hc : l.length < JN x)
    (hm : ∀ j, S' j = updW (logL s l) S j) : Half x P s l S' := by
  obtain ⟨a, b, c, d, e, f⟩ := right_nat hx
  have hA : ∀ k, k ≤ l.length → jS S' k = Ent.printL (entK s l k) := fun k hk => by unfold jS; rw [hm, log_all hk, strB_toL]
  have hm1 : ∀ k, k < JN x → jS S' k = jS S k ∨ (k ≤ l.length ∧ jS S' k = Ent.printL (entK s l k)) := by
    intro k _
    by_cases h : k ≤ l.length
    · exact .inr ⟨h, hA k h⟩
    · exact .inl (by unfold jS; rw [hm, log_else (by omega)])
  have hq := mix_seq (n := (PN x : Nat)) hl (by omega) h1 h2 f hc hold hm1
  refine ⟨by rw [hm, log_else (.inl rfl), head], homes.ext fun p _ => ?_, allE hl (by omega) h1 h2 f hc hA, hq, all_most hl (by omega) h1 h2 f hc hq (hA 0 (Nat.zero_le _))⟩
  unfold hS
  rw [hm, log_else (by omega)]

/-- Whatever stays of pages that come home. -/
theorem half_B (hx : rightS x = true) {S S' : Nat → ByteArray} (h : Half x P s l S) (hl : LOk (PN x) l)
    (hm : ∀ j, S' j = S j ∨ ∃ p q, q ∈ l ∧ q.no = (p : Nat) ∧ p < PN x ∧ j = 1 + JN x + p ∧ S' j = strB (leafL (p : Nat) q.data)) : Up x (ovr l P) s S' := by
  obtain ⟨a, b, c, d, e, f⟩ := right_nat hx
  have hj : ∀ k, k < JN x → jS S' k = jS S k := by
    intro k hk
    unfold jS
    rcases hm (1 + k) with g | ⟨p, q, _, _, _, g, _⟩
    · rw [g]
    · omega
  refine ⟨?_, ?_, fun k hk => by rw [hj k hk]; exact h.seqs k hk⟩
  · rcases hm 0 with g | ⟨p, q, _, _, _, g, _⟩
    · rw [g, h.head]
    · omega
  · refine recs_B ((jl_ext hj).trans h.jl) d hl.len h.homes fun p hp => ?_
    unfold hS
    rcases hm (1 + JN x + p) with g | ⟨i, q, hq, hi, _, g1, g2⟩
    · exact .inl (by rw [g])
    · have : i = p := by omega
      subst this
      exact .inr ⟨q, hq, hi, by rw [g2, strB_toL]⟩

/-- All pages have come home. -/
theorem half_C (hx : rightS x = true) {S S' : Nat → ByteArray} (h : Half x P s l S) (hl : LOk (PN x) l) (hm : ∀ j, S' j = updW (homeW x l) S j) :
    Half x (ovr l P) s l S' := by
  obtain ⟨a, b, c, d, e, f⟩ := right_nat hx
  have hn : ∀ j, (∀ q ∈ l, ∀ p : Nat, q.no = (p : Int) → j ≠ 1 + JN x + p) → S' j = S j := fun j g => by rw [hm, home_else hx hl g]
  have hj : ∀ k, k < JN x → jS S' k = jS S k := fun k hk => by unfold jS; rw [hn _ fun q _ p _ => by omega]
  refine ⟨by rw [hn 0 fun q _ p _ => by omega, h.head], ?_, (jl_ext hj).trans h.jl, fun k hk => by rw [hj k hk]; exact h.seqs k hk, by rw [most_ext _ hj, h.most]⟩
  refine homes_C d hl.len h.homes (fun p hp g => ?_) fun p hp g => ?_
  · unfold hS
    rw [hn _ fun q hq i hi => ?_]
    intro e
    have : i = p := by omega
    subst this
    exact g q hq hi
  · unfold hS
    rw [hm, home_all hx hl P g, strB_toL]

theorem Half.recs {S : Nat → ByteArray} (h : Half x P s l S) (hp : ∀ p, p < PN x → ovr l P p = P p) : Recs (PN x) (JN x) (jS S) (hS x S) P := ⟨P, h.homes, fun p g => by rw [h.jl]; exact hp p g⟩

/-- A commit at rest: refused, or done, or the power is gone, and all or nothing comes up. -/
theorem commit_is (hx : rightS x = true) (h : Rest x P m v) (hm : m ≤ 2147483647) :
    (v.dirty = [] ∧ commitV v = (v, 0)) ∨
    (v.dirty ≠ [] ∧ (JN x : Nat) < v.dirty.length + 1 ∧ commitV v = ({ v with dirty := [] }, 8)) ∨
    (v.dirty ≠ [] ∧ v.dirty.length + 1 ≤ JN x ∧ (commitV v).2 = 0 ∧ Rest x (ovr v.dirty P) (m + 1) (commitV v).1 ∧ (commitV v).1.dirty = [] ∧ (commitV v).1.seq = v.seq + 1) ∨
    (v.dirty ≠ [] ∧ v.dirty.length + 1 ≤ JN x ∧ (commitV v).2 = 12 ∧ Down x P (ovr v.dirty P) m (commitV v).1.disk ∧ (commitV v).1.dirty = v.dirty ∧ (commitV v).1.seq = v.seq ∧ (commitV v).1.shape = x) := by
  obtain ⟨a, b, c, d, e, f⟩ := right_nat hx
  have hs := h.shape
  have hup := h.up
  unfold commitV
  rw [if_neg (by simp [hup])]
  by_cases hd : v.dirty = []
  · exact .inl ⟨hd, by rw [if_pos hd]⟩
  refine .inr ?_
  rw [if_neg hd]
  by_cases hc : (JN x : Nat) < v.dirty.length + 1
  · refine .inl ⟨hd, hc, ?_⟩
    rw [if_pos (by rw [hs, b]; omega)]
  refine .inr ?_
  rw [if_neg (by rw [hs, b]; omega)]
  have hlow := h.low
  have h1 := h.seq1
  have hc' : v.dirty.length < JN x := by omega
  have hlw := log_ok (s := v.seq) hx h.lok h1 (by omega) hc'
  have hnow : ∀ j, nowB v.disk j = sureB v.disk j := h.now
  rcases wf_is h.pl hup hlw with ⟨g1, g2, g3, g4, g5, g6⟩ | ⟨g1, g2, k, gk, g3, g4, g5⟩
  · -- the journal is sure
    have hS1 : ∀ j, sureB (wfF v.disk (logL v.seq v.dirty)).1 j = updW (logL v.seq v.dirty) (sureB v.disk) j := fun j => (g5 j).trans (updW_ext (hnow j))
    have hN1 : ∀ j, nowB (wfF v.disk (logL v.seq v.dirty)).1 j = sureB (wfF v.disk (logL v.seq v.dirty)).1 j := fun j => (g6 j).trans (g5 j).symm
    have hH := half_all hx h.head h.homes h.seqs h.lok h1 (by omega) hc' hS1
    have hhw := home_ok hx h.lok
    rw [if_neg (by simp [g1]), hs]
    generalize wfF v.disk (logL v.seq v.dirty) = r1 at *
    rcases wf_is g4 g2 hhw with ⟨k1, k2, k3, k4, k5, k6⟩ | ⟨k1, k2, k, kk, k3, k4, k5⟩
    · refine .inl ⟨hd, by omega, ?_⟩
      rw [if_neg (by simp [k1])]
      have hC := half_C hx hH h.lok (S' := sureB (wfF r1.1 (homeW x v.dirty)).1) fun j => (k5 j).trans (updW_ext (hN1 j))
      refine ⟨rfl, ⟨k4, k2, rfl, hC.head, hC.homes, hC.recs fun p _ => ovr_again _ _ _, ?_, by dsimp only; omega, ⟨by simp, by simp, by simp⟩, List.Pairwise.nil⟩, rfl, rfl⟩
      dsimp only
      rw [hC.most]
    · refine .inr ⟨hd, by omega, ?_⟩
      rw [if_pos (by simp [k1])]
      refine ⟨k1, ⟨⟨_, k3, ?_⟩, k2, fun S' hS' => .inr ?_⟩, rfl, rfl, rfl⟩
      · have := h.lok
        have : (homeW x v.dirty).length = v.dirty.length := by simp [homeW]
        omega
      · refine (half_B hx hH h.lok fun j => ?_).more (by omega)
        rcases hS' j with q | q
        · exact .inl (by rw [q, k4])
        · rw [q, k5]
          rcases home_mix hx h.lok k (nowB r1.1) j with q | ⟨p, y, y1, y2, y3, y4, y5⟩
          · exact .inl (by rw [q]; exact hN1 j)
          · exact .inr ⟨p, y, y1, y2, y3, y4, y5⟩
  · refine .inr ⟨hd, by omega, ?_⟩
    rw [if_pos (by simp [g1])]
    refine ⟨g1, ⟨⟨_, g3, ?_⟩, g2, fun S' hS' => ?_⟩, rfl, rfl, hs⟩
    · have := log_len v.seq v.dirty
      omega
    · have := half_A hx (S' := S') h.head h.homes h.recs h.seqs h.lok h1 (by omega) hc' fun j => by
        rcases hS' j with q | q
        · exact .inl (by rw [q, g4])
        · rw [q, g5]
          rcases log_mix (s := v.seq) hc' k (nowB v.disk) j with q | q
          · exact .inl (by rw [q]; exact hnow j)
          · exact .inr q
      rcases this with q | q
      · exact .inl (q.more (by omega))
      · exact .inr (q.more (by omega))
end
end

end Go.Proofs.YtgeiemccjionpaaGreat.Vlt

/- VKeep -/
namespace Go.Proofs.YtgeiemccjionpaaGreat.Vlt
open Go.RowKit
open Dsk
open Ent (isE parseE leafL homeB homeV zer_len)

section
variable {x : Sh} {P : Nat → List UInt8} {m : Int} {v : VK} {d : DK}

theorem whole_ok {n : Int} {J : Nat} {S : Nat → List UInt8} {l : List Lf} (h : Whole n J S l) : LOk n l := by
  obtain ⟨q, h1, h2, h3⟩ := h
  have key : ∀ y ∈ l, 0 ≤ y.no ∧ y.no < n ∧ y.data.length = 208 := by
    intro y hy
    obtain ⟨k, hk, e⟩ := List.getElem_of_mem hy
    obtain ⟨a1, a2, a3, a4, a5, a6⟩ := h2 k hk
    rw [List.getD_eq_getElem?_getD, List.getElem?_eq_getElem hk, Option.getD_some, e] at a6
    have hr := Ent.right_iff.1 (is_right a1)
    rw [a6]
    refine ⟨hr.2.2.2.2.1, a5, ?_⟩
    have := hr.2.2.2.2.2.2
    rw [a4] at this
    exact this
  exact ⟨fun y hy => (key y hy).1, fun y hy => (key y hy).2.1, fun y hy => (key y hy).2.2⟩
theorem jl_ok (n : Int) (J : Nat) (S : Nat → List UInt8) : LOk n (jl n J S) := by
  by_cases h : ∃ l, Whole n J S l
  · obtain ⟨l, h⟩ := h
    rw [jl_is h]
    exact whole_ok h
  · rw [jl_none fun l k => h ⟨l, k⟩]
    exact ⟨by simp, by simp, by simp⟩

theorem Homes.to {n : Nat} {H P Q : Nat → List UInt8} (h : Homes n H P) (e : ∀ p, p < n → P p = Q p) : Homes n H Q := fun p hp => ⟨(h p hp).1, by rw [(h p hp).2, e p hp]⟩

theorem sec_is (hp : Pl (NN x) 0 d) (hup : d.dead = false) : (∀ k, k < JN x → secK d k = jS (sureB d) k) ∧ headS d = (sureB d 0).data.toList ∧ rdE d 0 = 0 := by
  have hdry : d.wet = [] := List.eq_nil_of_length_eq_zero (by have := hp.good.wet; omega)
  have h0 : (0 : Nat) < NN x := by unfold NN; omega
  have hr := rd_is hp hup h0
  refine ⟨fun k hk => ?_, ?_, hr.2⟩
  · have := (rd_is hp hup (a := 1 + k) (by unfold NN; omega)).1
    unfold secK jS
    rw [show ((1 : Int) + (k : Int)) = ((1 + k : Nat) : Int) by omega, this, now_dry hdry]
  · unfold headS
    rw [show (0 : Int) = ((0 : Nat) : Int) from rfl, hr.1, now_dry hdry]

/-- Sectors come up. -/
theorem open_is (hx : rightS x = true) (hp : Pl (NN x) 0 d) (hup : d.dead = false) (hleft : d.left = -1) (hu : Up x P m (sureB d)) (h0 : 0 ≤ m) (hm : m < 2147483647) :
    ∃ v, openV d = (v, v.disk, 0) ∧ Rest x P (m + 1) v ∧ v.dirty = [] ∧ v.disk.left = -1 ∧ v.seq = mostF (jS (sureB d)) (JN x) + 1 := by
  obtain ⟨a, b, c, e1, e2, f⟩ := right_nat hx
  obtain ⟨s1, s2, s3⟩ := sec_is hp hup
  have hh : headS d = printL x := by rw [s2, hu.head, strB_toL]
  have hps : x = parseS (headS d) := by rw [hh, parse_print hx]
  have his : isS (headS d) = true := by rw [hh]; exact is_print hx
  have hsz : (d.sure.length : Int) = sizeX x := by rw [size_nat hx, hp.good.sure]
  have hmo : mostF (jS (sureB d)) (JN x) = mostF (secK d) x.journal.toNat := (most_ext _ s1).symm
  have hjl : jl (PN x) (JN x) (jS (sureB d)) = jl x.pages x.journal.toNat (secK d) := by
    rw [← a]
    exact (jl_ext s1).symm
  have hle := most_le (S := jS (sureB d)) h0 (JN x) hu.seqs
  obtain ⟨Q, q1, q2⟩ := hu.recs
  obtain ⟨l, hl⟩ : ∃ l, l = jl (PN x) (JN x) (jS (sureB d)) := ⟨_, rfl⟩
  have hlo : LOk (PN x) l := by rw [hl]; exact jl_ok _ _ _
  rw [← hl] at q2
  rw [openV_is hps hmo (hl.trans hjl) rfl, s3, if_neg (by omega), if_neg (by simp [his, hsz]), if_neg (by omega)]
  by_cases hn : l = []
  · rw [if_pos hn]
    rw [hn] at q2
    exact ⟨_, rfl, ⟨hp, hup, rfl, hu.head, q1.to q2, hu.recs, rfl, by dsimp only; omega, ⟨by simp, by simp, by simp⟩, List.Pairwise.nil⟩, rfl, hleft, rfl⟩
  · rw [if_neg hn]
    have hok := home_ok hx hlo
    obtain ⟨w1, w2⟩ := wf_left hp hup hleft hok
    rw [if_neg (by simp [w1])]
    refine ⟨_, rfl, ?_, rfl, w2, rfl⟩
    rcases wf_is hp hup hok with ⟨k1, k2, k3, k4, k5, k6⟩ | ⟨k1, _⟩
    · have hdry : d.wet = [] := List.eq_nil_of_length_eq_zero (by have := hp.good.wet; omega)
      have hH : Half x Q (mostF (jS (sureB d)) (JN x)) l (sureB d) := ⟨hu.head, q1, hl.symm, fun k hk hs => le_most _ k hk hs, rfl⟩
      have hC := half_C hx hH hlo (S' := sureB (wfF d (homeW x l)).1) fun j => (k5 j).trans (updW_ext (now_dry hdry j))
      have hP := hC.homes.to q2
      refine ⟨k4, k2, rfl, hC.head, hP, ⟨P, hP, fun p g => ?_⟩, by dsimp only; rw [hC.most], by dsimp only; omega, ⟨by simp, by simp, by simp⟩, List.Pairwise.nil⟩
      rw [hC.jl, ← q2 p g, ← ovr_ext (q2 p g), ovr_again]
    · omega

/-- Started: whatever stays comes up. -/
theorem start_down {Q : Nat → List UInt8} (h : Down x P Q m d) (stay : Nat) : Pl (NN x) 0 (stD d stay) ∧ (stD d stay).dead = false ∧ (stD d stay).left = -1 ∧ (Up x P m (sureB (stD d stay)) ∨ Up x Q m (sureB (stD d stay))) := by
  obtain ⟨i, hp, _⟩ := h.pl
  obtain ⟨a, b, c, e, f⟩ := start_is hp stay
  exact ⟨stD_pl hp stay, a, b, h.mix _ f⟩
theorem start_rest (h : Rest x P m v) (stay : Nat) : Pl (NN x) 0 (stD v.disk stay) ∧ (stD v.disk stay).dead = false ∧ (stD v.disk stay).left = -1 ∧ Up x P (m - 1) (sureB (stD v.disk stay)) ∧ ∀ j, sureB (stD v.disk stay) j = sureB v.disk j := by
  obtain ⟨a, b, c, e, f⟩ := start_is h.pl stay
  have hs : ∀ j, sureB (stD v.disk stay) j = sureB v.disk j := by
    intro j
    rcases f j with g | g
    · exact g
    · rw [g]; exact h.now j
  have hu := h.isUp
  refine ⟨stD_pl h.pl stay, a, b, ⟨?_, ?_, ?_⟩, hs⟩
  · rw [hs]; exact hu.head
  · have e1 : jS (sureB (stD v.disk stay)) = jS (sureB v.disk) := by funext k; unfold jS; rw [hs]
    have e2 : hS x (sureB (stD v.disk stay)) = hS x (sureB v.disk) := by funext k; unfold hS; rw [hs]
    rw [e1, e2]; exact hu.recs
  · have e1 : jS (sureB (stD v.disk stay)) = jS (sureB v.disk) := by funext k; unfold jS; rw [hs]
    rw [e1]; exact hu.seqs

theorem ovr_eq {l : List Lf} {p : Nat} {b : List UInt8} (h : ∃ q ∈ l, q.no = (p : Int)) (hb : ∀ q ∈ l, q.no = (p : Int) → q.data = b) (P : Nat → List UInt8) : ovr l P p = b := by
  unfold ovr
  suffices ∀ c, (∃ q ∈ l, q.no = (p : Int)) ∨ c = b → l.foldl (fun b (q : Lf) => if q.no = (p : Int) then q.data else b) c = b from this _ (.inl h)
  clear h
  induction l with
  | nil => intro c hc; rcases hc with ⟨_, h, _⟩ | h; cases h; exact h
  | cons q l ih =>
    intro c hc
    rw [List.foldl_cons]
    refine ih (fun p hp => hb p (by simp [hp])) _ ?_
    by_cases e : q.no = (p : Int)
    · exact .inr (by rw [if_pos e]; exact hb q (by simp) e)
    · rw [if_neg e]
      rcases hc with ⟨y, hy, h1⟩ | h
      · rcases List.mem_cons.1 hy with rfl | hy
        · exact absurd h1 e
        · exact .inl ⟨y, hy, h1⟩
      · exact .inr h

def RiseL (l : List Lf) : Prop := List.Pairwise (fun a b : Lf => a.no < b.no) l
theorem rise_uniq {l : List Lf} (h : RiseL l) {a b : Lf} (ha : a ∈ l) (hb : b ∈ l) (e : a.no = b.no) : a = b := by
  induction l with
  | nil => cases ha
  | cons y l ih =>
    have hp := List.pairwise_cons.1 h
    rcases List.mem_cons.1 ha with h1 | h1
    · rcases List.mem_cons.1 hb with h2 | h2
      · rw [h1, h2]
      · have := hp.1 _ h2
        rw [← h1] at this
        omega
    · rcases List.mem_cons.1 hb with h2 | h2
      · have := hp.1 _ h1
        rw [← h2] at this
        omega
      · exact ih hp.2 h1 h2

theorem take_lt {p : Lf} : ∀ {l : List Lf}, ∀ o ∈ l.takeWhile (fun q => decide (q.no < p.no)), o.no < p.no
  | [], o, h => by cases h
  | y :: l, o, h => by
    rw [List.takeWhile_cons] at h
    split at h
    · rename_i hy
      rcases List.mem_cons.1 h with rfl | h
      · simpa using hy
      · exact take_lt o h
    · cases h
theorem drop_ge {p : Lf} : ∀ {l : List Lf}, RiseL l → ∀ o ∈ l.dropWhile (fun q => decide (q.no < p.no)), p.no ≤ o.no
  | [], _, o, h => by cases h
  | y :: l, hr, o, h => by
    have hp := List.pairwise_cons.1 hr
    rw [List.dropWhile_cons] at h
    split at h
    · exact drop_ge hp.2 o h
    · rename_i hy
      have hy' : p.no ≤ y.no := by simpa using hy
      rcases List.mem_cons.1 h with rfl | h
      · exact hy'
      · have := hp.1 _ h
        omega
theorem mem_ins {p y : Lf} {l : List Lf} (h : y ∈ insL p l) : y = p ∨ (y ∈ l ∧ y.no ≠ p.no) := by
  unfold insL at h
  rcases List.mem_append.1 h with k | k
  · have := take_lt y k
    exact .inr ⟨List.takeWhile_subset _ k, by omega⟩
  · rcases List.mem_cons.1 k with k | k
    · exact .inl k
    · obtain ⟨k1, k2⟩ := List.mem_filter.1 k
      exact .inr ⟨(List.dropWhile_sublist _).subset k1, by simpa using k2⟩
theorem ins_new {p : Lf} {l : List Lf} : p ∈ insL p l := by unfold insL; simp
theorem ins_old {p y : Lf} {l : List Lf} (h : y ∈ l) (hn : y.no ≠ p.no) : y ∈ insL p l := by
  unfold insL
  have : y ∈ l.takeWhile (fun o => decide (o.no < p.no)) ++ l.dropWhile (fun o => decide (o.no < p.no)) := by rw [List.takeWhile_append_dropWhile]; exact h
  rcases List.mem_append.1 this with k | k
  · simp [k]
  · refine List.mem_append.2 (.inr (List.mem_cons.2 (.inr (List.mem_filter.2 ⟨k, by simpa using hn⟩))))
theorem ins_rise {p : Lf} {l : List Lf} (h : RiseL l) : RiseL (insL p l) := by
  unfold insL RiseL
  rw [List.pairwise_append]
  have hs : List.Pairwise (fun a b : Lf => a.no < b.no) (l.takeWhile (fun o => decide (o.no < p.no)) ++ l.dropWhile (fun o => decide (o.no < p.no))) := by rw [List.takeWhile_append_dropWhile]; exact h
  rw [List.pairwise_append] at hs
  have hd : ∀ o ∈ (l.dropWhile (fun o => decide (o.no < p.no))).filter (fun o => decide (o.no ≠ p.no)), p.no < o.no := by
    intro o ho
    obtain ⟨k1, k2⟩ := List.mem_filter.1 ho
    have := drop_ge h o k1
    have k3 : o.no ≠ p.no := by simpa using k2
    omega
  refine ⟨hs.1, List.pairwise_cons.2 ⟨hd, hs.2.1.sublist List.filter_sublist⟩, fun a ha b hb => ?_⟩
  have := take_lt a ha
  rcases List.mem_cons.1 hb with rfl | hb
  · exact this
  · have := hd b hb
    omega
theorem ovr_ins {p : Lf} {l : List Lf} (h : RiseL l) (P : Nat → List UInt8) (j : Nat) : ovr (insL p l) P j = if p.no = (j : Int) then p.data else ovr l P j := by
  by_cases e : p.no = (j : Int)
  · rw [if_pos e]
    exact ovr_eq ⟨p, ins_new, e⟩ (fun q hq hj => by rw [rise_uniq (ins_rise h) hq ins_new (by omega)]) P
  · rw [if_neg e]
    by_cases k : ∃ q ∈ l, q.no = (j : Int)
    · obtain ⟨q, hq, hj⟩ := k
      rw [ovr_eq (l := l) ⟨q, hq, hj⟩ (b := q.data) fun y hy hz => by rw [rise_uniq h hy hq (by omega)]]
      refine ovr_eq ⟨q, ins_old hq (by omega), hj⟩ (fun y hy hz => ?_) P
      rw [rise_uniq (ins_rise h) hy (ins_old hq (by omega)) (by omega)]
    · have k1 : ∀ q ∈ l, q.no ≠ (j : Int) := fun q hq hj => k ⟨q, hq, hj⟩
      rw [ovr_out k1, ovr_out fun q hq => ?_]
      rcases mem_ins hq with rfl | ⟨h1, _⟩
      · exact e
      · exact k1 q h1

theorem padP_len {l : List UInt8} (h : l.length ≤ 208) : (padP l).length = 208 := by unfold padP; rw [List.length_append, Ent.zer_len]; omega

/-- A page is written at rest. -/
theorem write_rest (hx : rightS x = true) (h : Rest x P m v) {no : Nat} {data : List UInt8} (hn : no < PN x) (hd : data.length ≤ 208) :
    (writeV v no data).2 = 0 ∧ Rest x P m (writeV v no data).1 ∧ (writeV v no data).1.seq = v.seq ∧ (writeV v no data).1.disk = v.disk ∧ ∀ j, ovr (writeV v no data).1.dirty P j = if j = no then padP data else ovr v.dirty P j := by
  obtain ⟨a, b, c, e1, e2, f⟩ := right_nat hx
  have hs := h.shape
  have hok : hasP v no ∧ data.length ≤ 208 := ⟨⟨by omega, by rw [hs, a]; omega⟩, hd⟩
  unfold writeV
  rw [if_neg (by simp [hok]), if_neg (by simp [h.up])]
  refine ⟨rfl, ?_, rfl, rfl, fun j => ?_⟩
  · refine { h with lok := ⟨fun y hy => ?_, fun y hy => ?_, fun y hy => ?_⟩, rise := ins_rise h.rise }
    all_goals rcases mem_ins hy with rfl | ⟨h1, _⟩
    · dsimp only; omega
    · exact h.lok.lo y h1
    · dsimp only; omega
    · exact h.lok.hi y h1
    · exact padP_len hd
    · exact h.lok.len y h1
  · dsimp only
    rw [ovr_ins h.rise]
    by_cases e : j = no
    · rw [if_pos e, if_pos (by dsimp only; omega)]
    · rw [if_neg e, if_neg (by dsimp only; omega)]
/-- What is refused. -/
theorem write_no {no : Int} {data : List UInt8} (h : ¬ (hasP v no ∧ data.length ≤ 208)) : writeV v no data = (v, 1) := by unfold writeV; rw [if_pos h]

/-- A page is read at rest. -/
theorem read_rest (hx : rightS x = true) (h : Rest x P m v) {no : Nat} (hn : no < PN x) : readV v no = (ovr v.dirty P no, 0) := by
  obtain ⟨a, b, c, e1, e2, f⟩ := right_nat hx
  have hs := h.shape
  have hok : hasP v no := ⟨by omega, by rw [hs, a]; omega⟩
  unfold readV
  rw [if_neg (by simp [hok]), if_neg (by simp [h.up])]
  cases hf : findL v.dirty no with
  | some q =>
    have h1 : q.no = (no : Int) := by simpa using List.find?_some hf
    have h2 : q ∈ v.dirty := List.mem_of_find?_eq_some hf
    dsimp only
    rw [ovr_eq ⟨q, h2, h1⟩ (b := q.data) fun y hy hz => by rw [rise_uniq h.rise hy h2 (by omega)]]
  | none =>
    have h1 : ∀ q ∈ v.dirty, q.no ≠ (no : Int) := fun q hq => by simpa using List.find?_eq_none.1 hf q hq
    dsimp only
    have hr := rd_is h.pl h.up (a := 1 + JN x + no) (by unfold NN; omega)
    rw [hs, place_nat hx (by omega), hr.2, if_neg (by omega), hr.1, h.now]
    have hh := h.homes no hn
    have e : (sureB v.disk (1 + JN x + no)).data.toList = hS x (sureB v.disk) no := rfl
    rw [e, if_pos hh.1, hh.2, ovr_out h1]

theorem pad_nil : padB ⟨#[]⟩ = strB (Ent.zer 256) := by decide +kernel
theorem zer_blank : isE (Ent.zer 256) = false := Ent.is_zer 256

/-- A new vault. -/
theorem format_rest (hx : rightS x = true) : Rest x (fun _ => Ent.zer 208) 1 (formatV x) ∧ (formatV x).dirty = [] ∧ (formatV x).disk.left = -1 ∧ (formatV x).seq = 1 := by
  obtain ⟨a, b, c, e1, e2, f⟩ := right_nat hx
  have hN : (sizeX x).toNat = NN x := by rw [size_nat hx]; rfl
  obtain ⟨D0, hD0⟩ : ∃ D, D = newD (NN x) := ⟨_, rfl⟩
  have hp0 : Pl (NN x) 0 D0 := by rw [hD0]; exact ⟨newD_good _, rising_nil, wetIn_nil rfl⟩
  have h00 : D0.dead = false ∧ D0.left = -1 ∧ D0.wet = [] := by rw [hD0]; exact ⟨rfl, rfl, rfl⟩
  have hs0 : ∀ j, j < NN x → sureB D0 j = strB (Ent.zer 256) := by
    intro j hj
    rw [hD0]
    unfold sureB newD
    dsimp only
    rw [pad_nil, List.getD_eq_getElem?_getD, List.getElem?_replicate, if_pos hj]
    rfl
  have hw : WsOk (NN x) [((0 : Int), strB (printL x))] := by
    intro p hp
    rw [List.mem_singleton.1 hp]
    exact ⟨Int.le_refl _, by unfold NN; dsimp only; omega, by rw [strB_size, print_len]⟩
  have hfm : (formatV x).disk = (wfF D0 [((0 : Int), strB (printL x))]).1 := by
    obtain ⟨w1, _⟩ := wrs_left [((0 : Int), strB (printL x))] hp0 h00.1 h00.2.1 hw
    unfold wfF
    rw [if_pos w1]
    unfold formatV
    rw [hN, ← hD0]
    dsimp only
    have : (wrsF D0 [((0 : Int), strB (printL x))]).1 = wrD D0 0 (strB (printL x)) := by
      unfold wrsF
      split <;> rfl
    rw [this]
  obtain ⟨w1, w2⟩ := wf_left hp0 h00.1 h00.2.1 hw
  rcases wf_is hp0 h00.1 hw with ⟨k1, k2, k3, k4, k5, k6⟩ | ⟨k1, _⟩
  · have hSS : ∀ j, sureB (formatV x).disk j = if j = 0 then strB (printL x) else sureB D0 j := by
      intro j
      rw [hfm, k5]
      unfold updW
      rw [List.foldl_cons, List.foldl_nil, now_dry h00.2.2]
      by_cases e : j = 0
      · rw [if_pos e, if_pos (by dsimp only; omega)]
      · rw [if_neg e, if_neg (by dsimp only; omega)]
    have hj : ∀ k, k < JN x → jS (sureB (formatV x).disk) k = Ent.zer 256 := by
      intro k hk
      unfold jS
      rw [hSS, if_neg (by omega), hs0 _ (by unfold NN; omega), strB_toL]
    have hh : ∀ p, p < PN x → hS x (sureB (formatV x).disk) p = Ent.zer 256 := by
      intro p hp
      unfold hS
      rw [hSS, if_neg (by omega), hs0 _ (by unfold NN; omega), strB_toL]
    have hjn : jl (PN x) (JN x) (jS (sureB (formatV x).disk)) = [] := by
      refine jl_none fun l hw => ?_
      obtain ⟨q, g1, g2, g3⟩ := hw
      have := g3.1
      rw [hj _ g1, zer_blank] at this
      cases this
    have hmo : mostF (jS (sureB (formatV x).disk)) (JN x) = 0 := by
      have a1 := most_le (S := jS (sureB (formatV x).disk)) (m := 0) (Int.le_refl _) (JN x) fun k hk hs => by rw [hj k hk, zer_blank] at hs; cases hs
      have a2 := most_nn (jS (sureB (formatV x).disk)) (JN x)
      omega
    have hH : Homes (PN x) (hS x (sureB (formatV x).disk)) (fun _ => Ent.zer 208) := (homes_blank _).ext hh
    refine ⟨⟨by rw [hfm]; exact k4, by rw [hfm]; exact k2, rfl, by rw [hSS, if_pos rfl], hH, ⟨_, hH, fun p _ => by rw [hjn]; rfl⟩, by rw [hmo]; rfl, Int.le_refl _, ⟨by simp [formatV], by simp [formatV], by simp [formatV]⟩, List.Pairwise.nil⟩, rfl, by rw [hfm]; exact w2, rfl⟩
  · omega
end

end Go.Proofs.YtgeiemccjionpaaGreat.Vlt

/- HVault -/
namespace Go.Proofs.YtgeiemccjionpaaGreat.Chn
open Vlt

/-- A vault that was formatted, and whose pages were written: never committed, never armed. -/
def Still (x : Sh) (v : VK) : Prop := Vlt.Rest x (fun _ => Ent.zer 208) 1 v
/-- What its pages are. -/
def CV (v : VK) (j : Nat) : List UInt8 := ovr v.dirty (fun _ => Ent.zer 208) j
theorem pad_is (l : List UInt8) : padP l = pad l := rfl
theorem Still.read {x : Sh} {v : VK} (hx : rightS x = true) (h : Still x v) {k : Nat} (hk : k < PN x) : readV v k = (CV v k, 0) := read_rest hx h hk
theorem Still.write {x : Sh} {v : VK} (hx : rightS x = true) (h : Still x v) {k : Nat} (hk : k < PN x) {data : List UInt8} (hd : data.length ≤ 208) :
    (writeV v k data).2 = 0 ∧ Still x (writeV v k data).1 ∧ ∀ j, CV (writeV v k data).1 j = if j = k then pad data else CV v j := by
  obtain ⟨a, b, _, _, c⟩ := write_rest hx h hk hd
  exact ⟨a, b, c⟩
theorem Still.format {x : Sh} (hx : rightS x = true) : Still x (formatV x) ∧ ∀ j, CV (formatV x) j = Ent.zer 208 := by
  obtain ⟨r, d, _, _⟩ := format_rest hx
  exact ⟨r, fun j => by unfold CV; rw [d]; rfl⟩

/-- The pages of a text are written, the first i: the vault. -/
def partD (l : List Nat) (t : List UInt8) (i : Nat) : List UInt8 := two (l.getD (i + 1) 0) ++ two (chunk t i).length ++ chunk t i
theorem partD_len (l : List Nat) (t : List UInt8) (i : Nat) : (partD l t i).length ≤ 208 := by
  have := chunk_len t i
  unfold partD two
  simp only [List.length_append, List.length_cons, List.length_nil]
  omega
def wrV (v : VK) (l : List Nat) (t : List UInt8) : Nat → VK
  | 0 => v
  | i + 1 => (writeV (wrV v l t i) (l.getD i 0 : Nat) (partD l t i)).1
theorem wrV_is {x : Sh} {v : VK} (hx : rightS x = true) (h : Still x v) {l : List Nat} (hl : ∀ p ∈ l, p < PN x) (t : List UInt8) : ∀ m, m ≤ l.length → Still x (wrV v l t m) ∧ ∀ j, CV (wrV v l t m) j = wrC (CV v) l t m j
  | 0, _ => ⟨h, fun _ => rfl⟩
  | i + 1, hm => by
    obtain ⟨a, b⟩ := wrV_is hx h hl t i (by omega)
    obtain ⟨p, hp⟩ : ∃ p, l[i]? = some p := ⟨_, List.getElem?_eq_getElem (by omega)⟩
    have e : l.getD i 0 = p := by rw [List.getD_eq_getElem?_getD, hp]; rfl
    obtain ⟨_, c, d⟩ := a.write hx (k := p) (hl p (List.mem_of_getElem? hp)) (partD_len l t i)
    refine ⟨by show Still x (writeV (wrV v l t i) (l.getD i 0 : Nat) (partD l t i)).1; rw [e]; exact c, fun j => ?_⟩
    show CV (writeV (wrV v l t i) (l.getD i 0 : Nat) (partD l t i)).1 j = if j = l.getD i 0 then pageB (l.getD (i + 1) 0) (chunk t i) else wrC (CV v) l t i j
    rw [e, d j, b j]
    rfl
/-- A Put's vault. -/
def putV (v : VK) (n : Nat) (old : List Nat) (t : List UInt8) : VK := (writeV (wrV v (allC (CV v) n old (needC t.length)) t (needC t.length)) 0 (m2C (CV v) n old (needC t.length))).1
theorem putV_is {x : Sh} {v : VK} (hx : rightS x = true) (h : Still x v) {A O B : List (List Nat × List UInt8)} {old : List Nat} (t : List UInt8) (hi : Inv (CV v) (PN x) (A ++ O ++ B)) (hO : (O = [] ∧ old = []) ∨ ∃ t0, O = [(old, t0)]) (hf : fitC (CV v) (PN x) old (needC t.length)) :
    Still x (putV v (PN x) old t) ∧ ∀ j, CV (putV v (PN x) old t) j = putC (CV v) (PN x) old t j := by
  obtain ⟨p1, p2, p3⟩ := put_inv hi hO hf
  have hlt : ∀ p ∈ allC (CV v) (PN x) old (needC t.length), 1 ≤ p ∧ p < PN x := fun p hp => p1.inn (allC (CV v) (PN x) old (needC t.length), t) (by simp) p hp
  obtain ⟨a, b⟩ := wrV_is hx h (fun p hp => (hlt p hp).2) t (needC t.length) (by omega)
  have hlen : (m2C (CV v) (PN x) old (needC t.length)).length = 208 := by
    unfold m2C
    rw [Bit.markL_len, m1_len]
    exact hi.z
  obtain ⟨_, c, d⟩ := a.write hx (k := 0) (by have := hi.n1; omega) (data := m2C (CV v) (PN x) old (needC t.length)) (by omega)
  refine ⟨c, fun j => ?_⟩
  show CV (writeV (wrV v (allC (CV v) (PN x) old (needC t.length)) t (needC t.length)) ((0 : Nat) : Int) (m2C (CV v) (PN x) old (needC t.length))).1 j = _
  rw [d j]
  unfold putC
  by_cases h0 : j = 0
  · rw [if_pos h0, if_pos h0]
    unfold pad
    rw [hlen]
    simp
  · rw [if_neg h0, if_neg h0, b j]

end Go.Proofs.YtgeiemccjionpaaGreat.Chn

/- VLaws -/
namespace Go.Proofs.YtgeiemccjionpaaGreat.Vlt
open Go.RowKit
open Dsk
open Ent (isE parseE leafL homeB homeV)

section
variable {x : Sh} {P Q : Nat → List UInt8} {m : Int} {v : VK}

theorem home_len {s : List UInt8} {no : Int} (h : homeB s no = true) : (homeV s no).length = 208 := by
  unfold homeB at h
  unfold homeV
  split
  · exact Ent.zer_len _
  · rename_i hz
    have hz' : (s == Ent.zer 256) = false := by simpa using hz
    rw [hz', Bool.false_or] at h
    rw [if_pos h]
    rw [Bool.and_eq_true, beq_iff_eq] at h
    obtain ⟨hb, hl⟩ := h
    unfold Ent.dataH at *
    rw [List.length_take]
    have hgood : s.length = 256 := by
      rw [← hl]
      exact Ent.leaf_len (by rw [List.length_take]; omega)
    have : 250 ≤ (Ent.tapeH s no).rest.length := by
      unfold Ent.tapeH at hb ⊢
      have hm : Wire.markS Ent.leafK ⟨s, false⟩ = ⟨s.drop 4, false⟩ := by
        by_cases e : s.take 4 = Ent.leafK
        · exact Ent.mark_good (by show 4 ≤ _; omega) e
        · have := Ent.num_bad (k := 2) (lo := no) (hi := no) (Ent.mark_bad (m := Ent.leafK) (s := s) e)
          rw [this] at hb
          cases hb
      rw [hm]
      unfold Wire.numS
      split
      · show 250 ≤ ((s.drop 4).drop 2).length
        rw [List.length_drop, List.length_drop]; omega
      · show 250 ≤ (s.drop 4).length
        rw [List.length_drop]; omega
    omega

/-- The law's knowledge of a vault, live or without power. -/
inductive KInv (x : Sh) (m : Int) (v : VK) (now sure maybe : Nat → List UInt8) : Prop where
  | live (r : Rest x sure m v) (n : ∀ p, p < PN x → ovr v.dirty sure p = now p) : KInv x m v now sure maybe
  | down (d : Down x sure maybe m v.disk) (s : v.shape = x) (y : v.dirty = []) (n : ∀ p, p < PN x → now p = sure p) : KInv x m v now sure maybe

theorem Rest.to (h : Rest x P m v) (e : ∀ p, p < PN x → P p = Q p) : Rest x Q m v :=
  { h with homes := h.homes.to e, recs := by obtain ⟨R, r1, r2⟩ := h.recs; exact ⟨R, r1, fun p g => (r2 p g).trans (e p g)⟩ }
theorem Up.to {S : Nat → ByteArray} (h : Up x P m S) (e : ∀ p, p < PN x → P p = Q p) : Up x Q m S :=
  ⟨h.head, by obtain ⟨R, r1, r2⟩ := h.recs; exact ⟨R, r1, fun p g => (r2 p g).trans (e p g)⟩, h.seqs⟩
theorem Down.to {P' Q' : Nat → List UInt8} {d : DK} (h : Down x P Q m d) (e : ∀ p, p < PN x → P p = P' p) (f : ∀ p, p < PN x → Q p = Q' p) : Down x P' Q' m d :=
  ⟨h.pl, h.dead, fun S hS => by
    rcases h.mix S hS with u | u
    · exact .inl (u.to e)
    · exact .inr (u.to f)⟩
theorem Down.more {d : DK} {m' : Int} (h : Down x P Q m d) (hm : m ≤ m') : Down x P Q m' d :=
  ⟨h.pl, h.dead, fun S hS => by
    rcases h.mix S hS with u | u
    · exact .inl (u.more hm)
    · exact .inr (u.more hm)⟩
theorem Down.armed {d : DK} (h : Down x P Q m d) (k : Int) (h1 : -1 ≤ k) (h2 : k ≤ 9223372036854775807) : Down x P Q m { d with left := k } := by
  obtain ⟨i, hp, hi⟩ := h.pl
  exact ⟨⟨i, ⟨⟨hp.good.sure, hp.good.wet, h1, h2⟩, hp.rise, hp.inn⟩, hi⟩, h.dead, h.mix⟩

theorem read_down {no : Int} (h : v.disk.dead = true) : (readV v no).2 = 1 ∨ (readV v no).2 = 12 := by
  unfold readV
  split
  · exact .inl rfl
  · first | exact .inr rfl | (rw [if_pos h]; exact .inr rfl)
theorem write_down {no : Int} {data : List UInt8} (h : v.disk.dead = true) : (writeV v no data).1 = v ∧ ((writeV v no data).2 = 1 ∨ (writeV v no data).2 = 12) := by
  unfold writeV
  split
  · exact ⟨rfl, .inl rfl⟩
  · first | exact ⟨rfl, .inr rfl⟩ | (rw [if_pos h]; exact ⟨rfl, .inr rfl⟩)
theorem commit_down (h : v.disk.dead = true) : commitV v = (v, 12) := by unfold commitV; rw [if_pos h]

/-- A page is written, or refused. -/
theorem write_any (hx : rightS x = true) (h : Rest x P m v) (no : Int) (data : List UInt8) :
    ((writeV v no data).2 = 0 ∧ ∃ k : Nat, no = k ∧ k < PN x ∧ data.length ≤ 208 ∧ Rest x P m (writeV v no data).1 ∧ (writeV v no data).1.seq = v.seq ∧ (writeV v no data).1.disk = v.disk ∧ ∀ j, ovr (writeV v no data).1.dirty P j = if j = k then padP data else ovr v.dirty P j) ∨
    ((writeV v no data).2 = 1 ∧ (writeV v no data).1 = v) := by
  obtain ⟨a, b, c, e1, e2, f⟩ := right_nat hx
  by_cases hc : hasP v no ∧ data.length ≤ 208
  · obtain ⟨k, rfl⟩ : ∃ k : Nat, no = (k : Int) := ⟨no.toNat, by have := hc.1.1; omega⟩
    have hk : k < PN x := by
      have := hc.1.2
      rw [h.shape, a] at this
      omega
    obtain ⟨g1, g2, g3, g4, g5⟩ := write_rest hx h hk hc.2
    exact .inl ⟨g1, k, rfl, hk, hc.2, g2, g3, g4, g5⟩
  · rw [write_no hc]
    exact .inr ⟨rfl, rfl⟩
theorem read_any (hx : rightS x = true) (h : Rest x P m v) (no : Int) :
    ((readV v no).2 = 0 ∧ ∃ k : Nat, no = k ∧ k < PN x ∧ (readV v no).1 = ovr v.dirty P k) ∨ (readV v no).2 = 1 := by
  obtain ⟨a, b, c, e1, e2, f⟩ := right_nat hx
  by_cases hc : hasP v no
  · obtain ⟨k, rfl⟩ : ∃ k : Nat, no = (k : Int) := ⟨no.toNat, by have := hc.1; omega⟩
    have hk : k < PN x := by
      have := hc.2
      rw [h.shape, a] at this
      omega
    rw [read_rest hx h hk]
    exact .inl ⟨rfl, k, rfl, hk, rfl⟩
  · unfold readV
    rw [if_pos hc]
    exact .inr rfl

/-- It never dies that may do any number of deeds. -/
theorem commit_left (hx : rightS x = true) (h : Rest x P m v) (hm : m ≤ 2147483647) (hl : v.disk.left = -1) : (commitV v).2 ≠ 12 ∧ (commitV v).1.disk.left = -1 := by
  have hs := h.shape
  obtain ⟨a, b, c, d, e, f⟩ := right_nat hx
  unfold commitV
  rw [if_neg (by simp [h.up])]
  by_cases hd : v.dirty = []
  · rw [if_pos hd]; exact ⟨by simp, hl⟩
  rw [if_neg hd]
  by_cases hc : (v.dirty.length : Int) + 1 > v.shape.journal
  · rw [if_pos hc]; exact ⟨by simp, hl⟩
  rw [if_neg hc]
  have hc' : v.dirty.length < JN x := by rw [hs, b] at hc; omega
  have hlow := h.low
  have hlw := log_ok (s := v.seq) hx h.lok h.seq1 (by omega) hc'
  obtain ⟨w1, w2⟩ := wf_left h.pl h.up hl hlw
  rw [if_neg (by simp [w1]), hs]
  rcases wf_is h.pl h.up hlw with ⟨g1, g2, g3, g4, g5, g6⟩ | ⟨g1, _⟩
  · obtain ⟨u1, u2⟩ := wf_left g4 g2 w2 (home_ok hx h.lok)
    rw [if_neg (by simp [u1])]
    exact ⟨by simp, u2⟩
  · omega

/-- Whatever stands on a disk that has its shape. -/
theorem open_any {d : DK} (hx : rightS x = true) (hp : Pl (NN x) 0 d) (hup : d.dead = false) (hleft : d.left = -1) (hh : sureB d 0 = strB (printL x)) :
    (openV d = (zeroV, d, 14)) ∨ ∃ v, openV d = (v, v.disk, 0) ∧ v.shape = x ∧ v.dirty = [] ∧ 1 ≤ v.seq ∧ v.seq ≤ 2147483647 ∧ Pl (NN x) 0 v.disk ∧ v.disk.dead = false := by
  obtain ⟨a, b, c, e1, e2, f⟩ := right_nat hx
  obtain ⟨s1, s2, s3⟩ := sec_is hp hup
  have hh : headS d = printL x := by rw [s2, hh, strB_toL]
  have hps : x = parseS (headS d) := by rw [hh, parse_print hx]
  have his : isS (headS d) = true := by rw [hh]; exact is_print hx
  have hsz : (d.sure.length : Int) = sizeX x := by rw [size_nat hx, hp.good.sure]
  obtain ⟨mo, hmo⟩ : ∃ mo, mo = mostF (secK d) x.journal.toNat := ⟨_, rfl⟩
  obtain ⟨l, hl⟩ : ∃ l, l = jl x.pages x.journal.toNat (secK d) := ⟨_, rfl⟩
  have hm0 : 0 ≤ mo := by rw [hmo]; exact most_nn _ _
  have hlo : LOk (PN x) l := by rw [hl, a]; exact jl_ok _ _ _
  rw [openV_is hps hmo hl rfl, s3, if_neg (by omega), if_neg (by simp [his, hsz])]
  by_cases hm : 2147483647 ≤ mo
  · rw [if_pos hm]; exact .inl rfl
  rw [if_neg hm]
  refine .inr ?_
  by_cases hn : l = []
  · rw [if_pos hn]
    exact ⟨_, rfl, rfl, rfl, by dsimp only; omega, by dsimp only; omega, hp, hup⟩
  · rw [if_neg hn]
    have hok := home_ok hx hlo
    obtain ⟨w1, w2⟩ := wf_left hp hup hleft hok
    rw [if_neg (by simp [w1])]
    rcases wf_is hp hup hok with ⟨k1, k2, k3, k4, k5, k6⟩ | ⟨k1, _⟩
    · exact ⟨_, rfl, rfl, rfl, by dsimp only; omega, by dsimp only; omega, k4, k2⟩
    · omega
/-- What is read of it. -/
theorem read_opened {no : Nat} (hx : rightS x = true) (hs : v.shape = x) (hd : v.dirty = []) (hp : Pl (NN x) 0 v.disk) (hup : v.disk.dead = false) (hn : no < PN x) :
    ((readV v no).2 = 0 ∧ (readV v no).1.length = 208) ∨ (readV v no).2 = 2 := by
  obtain ⟨a, b, c, e1, e2, f⟩ := right_nat hx
  have hok : hasP v no := ⟨by omega, by rw [hs, a]; omega⟩
  have hf : findL v.dirty no = none := by rw [hd]; rfl
  have hr := rd_is hp hup (a := 1 + JN x + no) (by unfold NN; omega)
  have e : readV v no = if homeB (nowB v.disk (1 + JN x + no)).data.toList no = true then (homeV (nowB v.disk (1 + JN x + no)).data.toList no, 0) else ([], 2) := by
    unfold readV
    rw [if_neg (by simp [hok]), if_neg (by simp [hup]), hf]
    dsimp only
    rw [hs, place_nat hx (by omega), hr.2, if_neg (by omega), hr.1]
  rw [e]
  split
  · rename_i h
    exact .inl ⟨rfl, home_len h⟩
  · exact .inr rfl

/-- VaultKeeps' steps, live. -/
theorem keep_write {now sure maybe : Nat → List UInt8} (hx : rightS x = true) (h : KInv x m v now sure maybe) (no : Int) (data : List UInt8) :
    (((writeV v no data).2 = 0 ∧ ∃ k : Nat, no = k ∧ k < PN x ∧ data.length ≤ 208 ∧ KInv x m (writeV v no data).1 (fun j => if j = k then padP data else now j) sure maybe) ∨
    ((writeV v no data).2 ≠ 0 ∧ (writeV v no data).1 = v)) ∧ (writeV v no data).1.disk.dead = v.disk.dead := by
  cases h with
  | live r n =>
    rcases write_any hx r no data with ⟨e, k, e1, e2, e3, e4, e5, e6, e7⟩ | ⟨e, e1⟩
    · refine ⟨.inl ⟨e, k, e1, e2, e3, .live e4 fun p hp => ?_⟩, by rw [e6]⟩
      rw [e7]
      split
      · rfl
      · exact n p hp
    · exact ⟨.inr ⟨by omega, e1⟩, by rw [e1]⟩
  | down d s y n =>
    obtain ⟨e1, e2⟩ := write_down (v := v) (no := no) (data := data) d.dead
    exact ⟨.inr ⟨by omega, e1⟩, by rw [e1]⟩
theorem keep_read {now sure maybe : Nat → List UInt8} (hx : rightS x = true) (h : KInv x m v now sure maybe) (no : Int) :
    ((readV v no).2 = 0 ∧ ∃ k : Nat, no = k ∧ k < PN x ∧ (readV v no).1 = now k) ∨ (readV v no).2 ≠ 0 := by
  cases h with
  | live r n =>
    rcases read_any hx r no with ⟨e, k, e1, e2, e3⟩ | e
    · exact .inl ⟨e, k, e1, e2, e3.trans (n k e2)⟩
    · exact .inr (by omega)
  | down d s y n =>
    have := read_down (v := v) (no := no) d.dead
    exact .inr (by omega)
/-- A commit: done (0), refused (8), or the power gone (12). -/
theorem keep_commit {now sure maybe : Nat → List UInt8} (hx : rightS x = true) (h : KInv x m v now sure maybe) (hm : m ≤ 2147483647) :
    ((commitV v).2 = 0 ∧ (commitV v).1.disk.dead = false ∧ KInv x (m + 1) (commitV v).1 now now now) ∨
    ((commitV v).2 = 8 ∧ (commitV v).1.disk.dead = false ∧ KInv x (m + 1) (commitV v).1 sure sure maybe) ∨
    ((commitV v).2 = 12 ∧ v.disk.dead = false ∧ (commitV v).1.disk.dead = true ∧ KInv x (m + 1) { (commitV v).1 with dirty := [] } sure sure now) ∨
    ((commitV v).2 = 12 ∧ v.disk.dead = true ∧ (commitV v).1 = v) := by
  cases h with
  | live r n =>
    rcases commit_is hx r hm with ⟨a, b⟩ | ⟨a, b, c⟩ | ⟨a, b, c, d, e, f⟩ | ⟨a, b, c, d, e, f, g⟩
    · rw [b]
      refine .inl ⟨rfl, r.up, .live ((r.to (Q := now) fun p hp => ?_).more (by omega)) fun p hp => ?_⟩
      · rw [← n p hp, a]; rfl
      · rw [a]; rfl
    · rw [c]
      exact .inr (.inl ⟨rfl, r.up, .live (r.clean.more (by omega)) fun p hp => rfl⟩)
    · exact .inl ⟨c, d.up, .live (d.to (Q := now) n) fun p hp => by rw [e]; rfl⟩
    · exact .inr (.inr (.inl ⟨c, r.up, d.dead, .down ((d.to (fun _ _ => rfl) n).more (by omega)) g rfl fun p hp => rfl⟩))
  | down d s y n =>
    rw [commit_down d.dead]
    exact .inr (.inr (.inr ⟨rfl, d.dead, rfl⟩))
theorem keep_arm {now sure maybe : Nat → List UInt8} (h : KInv x m v now sure maybe) (k : Int) (h1 : -1 ≤ k) (h2 : k ≤ 9223372036854775807) : KInv x m { v with disk := { v.disk with left := k } } now sure maybe := by
  cases h with
  | live r n => exact .live (r.armed k h1 h2) n
  | down d s y n => exact .down (d.armed k h1 h2) s y n
/-- Started and opened: as was sure, or as may be. -/
theorem keep_open {now sure maybe : Nat → List UInt8} (hx : rightS x = true) (h : KInv x m v now sure maybe) (h0 : 1 ≤ m) (hm : m < 2147483647) (stay : Nat) :
    ∃ u, openV (stD v.disk stay) = (u, u.disk, 0) ∧ u.disk.dead = false ∧ ∃ got : Nat → List UInt8, ((∀ p, p < PN x → got p = sure p) ∨ (∀ p, p < PN x → got p = maybe p)) ∧ KInv x (m + 1) u got got got ∧ (∀ k, k < PN x → readV u k = (got k, 0)) := by
  cases h with
  | live r n =>
    obtain ⟨a, b, c, d, e⟩ := start_rest r stay
    obtain ⟨u, u1, u2, u3, u4, u5⟩ := open_is hx a b c d (by omega) (by omega)
    refine ⟨u, u1, u2.up, sure, .inl fun _ _ => rfl, .live (u2.more (by omega)) fun p hp => by rw [u3]; rfl, fun k hk => ?_⟩
    rw [read_rest hx u2 hk, u3]; rfl
  | down d s y n =>
    obtain ⟨a, b, c, e⟩ := start_down d stay
    rcases e with e | e
    · obtain ⟨u, u1, u2, u3, u4, u5⟩ := open_is hx a b c e (by omega) (by omega)
      refine ⟨u, u1, u2.up, sure, .inl fun _ _ => rfl, .live (u2.more (by omega)) fun p hp => by rw [u3]; rfl, fun k hk => ?_⟩
      rw [read_rest hx u2 hk, u3]; rfl
    · obtain ⟨u, u1, u2, u3, u4, u5⟩ := open_is hx a b c e (by omega) (by omega)
      refine ⟨u, u1, u2.up, maybe, .inr fun _ _ => rfl, .live (u2.more (by omega)) fun p hp => by rw [u3]; rfl, fun k hk => ?_⟩
      rw [read_rest hx u2 hk, u3]; rfl
theorem KInv.more {now sure maybe : Nat → List UInt8} {m' : Int} (h : KInv x m v now sure maybe) (hm : m ≤ m') : KInv x m' v now sure maybe := by
  cases h with
  | live r n => exact .live (r.more hm) n
  | down d s y n => exact .down (d.more hm) s y n
end

end Go.Proofs.YtgeiemccjionpaaGreat.Vlt

/- EMem -/
namespace Go.Proofs.YtgeiemccjionpaaGreat.Ent
open Go.RowKit Go.Sort
open Wire (TK TP But twoL fourL)
open Crc (sealB Only)

def enV (x : En) : Value := .agg #[.int .i64 x.seq, .int .i64 x.index, .bool x.last, .int .i64 x.no, .string (strB x.data)]
def enC (x : En) : Array Value := #[.int .i64 x.seq, .int .i64 x.index, .bool x.last, .int .i64 x.no, .string (strB x.data)]

structure At5 (w : World) (b : Nat) (x : En) : Prop where
  c0 : w.cell? ⟨b, 0, none⟩ = some (.int .i64 x.seq)
  c1 : w.cell? ⟨b, 1, none⟩ = some (.int .i64 x.index)
  c2 : w.cell? ⟨b, 2, none⟩ = some (.bool x.last)
  c3 : w.cell? ⟨b, 3, none⟩ = some (.int .i64 x.no)
  c4 : w.cell? ⟨b, 4, none⟩ = some (.string (strB x.data))

/-- A box that holds an entry. -/
def EBox (w : World) (g : Nat) (x : En) : Prop := w.heap[g]? = some (.cells (enC x) 0 (0, 0))
section
variable {w w' : World} {g : Nat} {x : En}
theorem EBox.at_ (h : EBox w g x) : At5 w g x := by
  refine ⟨?_, ?_, ?_, ?_, ?_⟩ <;> (rw [cell_of_row w g _ _ _ _ h]; rfl)
theorem EBox.lt (h : EBox w g x) : g < w.heap.size := (Array.getElem?_eq_some_iff.1 h).1
theorem EBox.keep (h : EBox w g x) (e : w'.heap[g]? = w.heap[g]?) : EBox w' g x := e.trans h
theorem EBox.below (h : EBox w g x) (hb : Below w.heap.size w w') : EBox w' g x := (hb.block g h.lt).trans h
theorem EBox.belowB {B : Nat} (h : EBox w g x) (hb : Below B w w') (hg : g < B) : EBox w' g x := (hb.block g hg).trans h
theorem EBox.but {b : Nat} (h : EBox w g x) (hb : But b w w') (hg : g ≠ b) : EBox w' g x := h.keep (hb.block g h.lt hg)
theorem EBox.only {b : Nat} (h : EBox w g x) (hb : Only b w w') (hg : g ≠ b) : EBox w' g x := h.keep (hb.block g hg)
theorem EBox.new (w : World) (x : En) : EBox (w.alloc (.cells (enC x) 0)) w.heap.size x := heap_alloc_new w _
theorem EBox.free (h : EBox w g x) (i : Nat) : w.frozen? ⟨g, i, none⟩ = false := by unfold EBox at h; simp [World.frozen?, h]
theorem EBox.setSeq (h : EBox w g x) (n : Int) : EBox (w.setCell ⟨g, 0, none⟩ (.int .i64 n)) g { x with seq := n } := heap_setCell_same w g 0 _ 0 _ h
theorem EBox.setIndex (h : EBox w g x) (n : Int) : EBox (w.setCell ⟨g, 1, none⟩ (.int .i64 n)) g { x with index := n } := heap_setCell_same w g 1 _ 0 _ h
theorem EBox.setLast (h : EBox w g x) (b : Bool) : EBox (w.setCell ⟨g, 2, none⟩ (.bool b)) g { x with last := b } := heap_setCell_same w g 2 _ 0 _ h
theorem EBox.setNo (h : EBox w g x) (n : Int) : EBox (w.setCell ⟨g, 3, none⟩ (.int .i64 n)) g { x with no := n } := heap_setCell_same w g 3 _ 0 _ h
theorem EBox.setData (h : EBox w g x) (l : List UInt8) : EBox (w.setCell ⟨g, 4, none⟩ (.string (strB l))) g { x with data := l } := heap_setCell_same w g 4 _ 0 _ h
end

/-- The world behind the store of a whole entry, under a name of its own. -/
theorem store5 {w : World} {g : Nat} {x0 : En} (h : EBox w g x0) (x : En) :
    ∃ w2, ((((w.setCell ⟨g, 0, none⟩ (.int .i64 x.seq)).setCell ⟨g, 1, none⟩ (.int .i64 x.index)).setCell ⟨g, 2, none⟩ (.bool x.last)).setCell ⟨g, 3, none⟩ (.int .i64 x.no)).setCell ⟨g, 4, none⟩ (.string (strB x.data)) = w2 ∧ EBox w2 g x ∧ Only g w w2 := by
  refine ⟨_, rfl, ?_, (((((Only.refl g w).setCell _ rfl _).setCell _ rfl _).setCell _ rfl _).setCell _ rfl _).setCell _ rfl _⟩
  exact ((((h.setSeq x.seq).setIndex x.index).setLast x.last).setNo x.no).setData x.data
theorem Only.after {g : Nat} {u v w : World} (h : Below u.heap.size u v) (k : Only g v w) (hg : u.heap.size ≤ g) : Below u.heap.size u w := h.trans (k.below hg)

/-- A page, and a box that holds one. -/
def lfV (no : Int) (d : List UInt8) : Value := .agg #[.int .i64 no, .string (strB d)]
def LBox (w : World) (g : Nat) (no : Int) (d : List UInt8) : Prop := w.heap[g]? = some (.cells #[.int .i64 no, .string (strB d)] 98 (0, 0))
section
variable {w w' : World} {g : Nat} {no : Int} {d : List UInt8}
theorem LBox.c0 (h : LBox w g no d) : w.cell? ⟨g, 0, none⟩ = some (.int .i64 no) := by rw [cell_of_row w g _ _ _ _ h]; rfl
theorem LBox.c1 (h : LBox w g no d) : w.cell? ⟨g, 1, none⟩ = some (.string (strB d)) := by rw [cell_of_row w g _ _ _ _ h]; rfl
theorem LBox.lt (h : LBox w g no d) : g < w.heap.size := (Array.getElem?_eq_some_iff.1 h).1
theorem LBox.below (h : LBox w g no d) (hb : Below w.heap.size w w') : LBox w' g no d := (hb.block g h.lt).trans h
theorem LBox.new (w : World) (no : Int) (d : List UInt8) : LBox (w.alloc (.cells #[.int .i64 no, .string (strB d)] 98)) w.heap.size no d := heap_alloc_new w _
theorem LBox.free (h : LBox w g no d) (i : Nat) : w.frozen? ⟨g, i, none⟩ = false := by unfold LBox at h; simp [World.frozen?, h]
theorem LBox.setData (h : LBox w g no d) (l : List UInt8) : LBox (w.setCell ⟨g, 1, none⟩ (.string (strB l))) g no l := heap_setCell_same w g 1 _ 98 _ h
end

/-- A contract that lays blocks, in a world of the class. -/
theorem rg {f : FuncId} {args : Array Value} {v : Value} (h : ∀ W, Calls Tryz.prog f args W fun e w' => e = .returned v ∧ Below W.heap.size W w') (Y : World) :
    ∀ d os, Calls Tryz.prog f args (grow (redrawn Y d) os) fun e w'' => e = .returned v ∧ ∃ p : Regrown, w'' = grow (redrawn Y p.d) p.os :=
  fun _ _ => Calls.regrown_of (h _)
theorem rg0 {f : FuncId} {args : Array Value} {v : Value} (h : ∀ W, Calls Tryz.prog f args W fun e w' => e = .returned v ∧ w' = W) (Y : World) :
    ∀ d os, Calls Tryz.prog f args (grow (redrawn Y d) os) fun e w'' => e = .returned v ∧ ∃ p : Regrown, w'' = grow (redrawn Y p.d) p.os :=
  fun d os => (h _).mono fun _ _ ⟨he, hw⟩ => ⟨he, ⟨d, os⟩, hw⟩

theorem repeat_zer (n : Nat) : Lib.repeatL [0] n = zer n := by
  induction n with
  | zero => rfl
  | succ n ih => unfold Lib.repeatL; rw [ih]; rfl

theorem rep_calls (n : Nat) (w : World) (hn : n ≤ 1000) :
    Calls Tryz.prog 92 #[.string ⟨#[0]⟩, .int .i64 (n : Nat)] w fun e w' => e = .returned (.string (strB (zer n))) ∧ Below w.heap.size w w' := by
  have h := Tryz.strings_Repeat ⟨#[0]⟩ n w (by omega) (by show 1 * n ≤ _; omega)
  rw [show (⟨#[0]⟩ : ByteArray).data.toList = [0] from rfl, repeat_zer] at h
  exact h

set_option maxRecDepth 100000 in
set_option maxHeartbeats 1000000 in
theorem noughts_calls (n : Nat) (w : World) (hn : n ≤ 1000) :
    Calls Tryz.prog 84 #[.int .i64 (n : Nat)] w fun e w' => e = .returned (.string (strB (zer n))) ∧ Below w.heap.size w w' := by
  go_enter Tryz.func84, Tryz.ntmps84
  go_wp2_with fail
  (with_reducible refine (rep_calls n _ hn).mono ?_)
  rintro e w1 ⟨rfl, hB⟩
  go_wp2_with fail
  go_ret
  exact ⟨rfl, hB⟩

set_option maxRecDepth 100000 in
set_option maxHeartbeats 1000000 in
theorem first_calls (l : List UInt8) (n : Nat) (w : World) (hn : n ≤ 1000) : Calls Tryz.prog 86 #[.string (strB l), .int .i64 (n : Nat)] w fun e w' => e = .returned (.string (strB (l.take n))) ∧ w' = w := by
  have hs := strB_size l
  by_cases h : n ≤ l.length
  · have h1 : (n : Int) ≤ ((strB l).size : Int) := by omega
    have h2 : n ≤ (strB l).size := by omega
    clear hs
    go_enter Tryz.func86, Tryz.ntmps86
    go_wp2_with fail
    go_ret
    exact ⟨ret_str (by rw [strB_extract, List.drop_zero, show (min (n : Int) ((strB l).size : Int)).toNat = n by omega]), rfl⟩
  · have h1 : ¬ (n : Int) ≤ ((strB l).size : Int) := by omega
    have h3 : ((strB l).size : Int) ≤ (n : Int) := by omega
    clear hs
    go_enter Tryz.func86, Tryz.ntmps86
    go_wp2_with fail
    go_ret
    exact ⟨ret_str (by rw [strB_extract, List.drop_zero, List.take_of_length_le (by rw [strB_size]; omega), List.take_of_length_le (by omega)]), rfl⟩

end Go.Proofs.YtgeiemccjionpaaGreat.Ent
