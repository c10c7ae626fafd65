/- Entries and pages in memory; the small functions of entry: what each call does. No statement is proved here. -/
import Derived.Test.YtompckbcaccmiaaEPlain
import Derived.Test.YtompckbcaccmiaaShelf
import Derived.Test.YtompckbcaccmiaaCRSeal
import Derived.Test.YtompckbcaccmiaaWRWr
import Derived.Test.YtompckbcaccmiaaWRTape
import Derived.Test.YtompckbcaccmiaaNStr
import Derived.Lib.QuietBelow
import Derived.BigQuiet
import Derived.Deep.QuietTactic
namespace Go.Proofs.Ytompckbcaccmiaa
open Go.RowKit Go.Sort
open Wire (TK TP But twoL fourL)
open Crc (sealB Only)

def enV (x : En) : Value := .agg #[.int .i64 x.seq, .int .i64 x.index, .bool x.last, .int .i64 x.no, .string (strB x.data)]
def enC (x : En) : Array Value := #[.int .i64 x.seq, .int .i64 x.index, .bool x.last, .int .i64 x.no, .string (strB x.data)]

structure At5 (w : World) (b : Nat) (x : En) : Prop where
  c0 : w.cell? ⟨b, 0, none⟩ = some (.int .i64 x.seq)
  c1 : w.cell? ⟨b, 1, none⟩ = some (.int .i64 x.index)
  c2 : w.cell? ⟨b, 2, none⟩ = some (.bool x.last)
  c3 : w.cell? ⟨b, 3, none⟩ = some (.int .i64 x.no)
  c4 : w.cell? ⟨b, 4, none⟩ = some (.string (strB x.data))

/-- A box that holds an entry. -/
def EBox (w : World) (g : Nat) (x : En) : Prop := w.heap[g]? = some (.cells (enC x) 23 (0, 0))
section
variable {w w' : World} {g : Nat} {x : En}
theorem EBox.at_ (h : EBox w g x) : At5 w g x := by
  refine ⟨?_, ?_, ?_, ?_, ?_⟩ <;> (rw [cell_of_row w g _ _ _ _ h]; rfl)
theorem EBox.lt (h : EBox w g x) : g < w.heap.size := (Array.getElem?_eq_some_iff.1 h).1
theorem EBox.keep (h : EBox w g x) (e : w'.heap[g]? = w.heap[g]?) : EBox w' g x := e.trans h
theorem EBox.below (h : EBox w g x) (hb : Below w.heap.size w w') : EBox w' g x := (hb.block g h.lt).trans h
theorem EBox.belowB {B : Nat} (h : EBox w g x) (hb : Below B w w') (hg : g < B) : EBox w' g x := (hb.block g hg).trans h
theorem EBox.but {b : Nat} (h : EBox w g x) (hb : But b w w') (hg : g ≠ b) : EBox w' g x := h.keep (hb.block g h.lt hg)
theorem EBox.only {b : Nat} (h : EBox w g x) (hb : Only b w w') (hg : g ≠ b) : EBox w' g x := h.keep (hb.block g hg)
theorem EBox.new (w : World) (x : En) : EBox (w.alloc (.cells (enC x) 23)) w.heap.size x := heap_alloc_new w _
theorem EBox.free (h : EBox w g x) (i : Nat) : w.frozen? ⟨g, i, none⟩ = false := by unfold EBox at h; simp [World.frozen?, h]
theorem EBox.setSeq (h : EBox w g x) (n : Int) : EBox (w.setCell ⟨g, 0, none⟩ (.int .i64 n)) g { x with seq := n } := heap_setCell_same w g 0 _ 23 _ h
theorem EBox.setIndex (h : EBox w g x) (n : Int) : EBox (w.setCell ⟨g, 1, none⟩ (.int .i64 n)) g { x with index := n } := heap_setCell_same w g 1 _ 23 _ h
theorem EBox.setLast (h : EBox w g x) (b : Bool) : EBox (w.setCell ⟨g, 2, none⟩ (.bool b)) g { x with last := b } := heap_setCell_same w g 2 _ 23 _ h
theorem EBox.setNo (h : EBox w g x) (n : Int) : EBox (w.setCell ⟨g, 3, none⟩ (.int .i64 n)) g { x with no := n } := heap_setCell_same w g 3 _ 23 _ h
theorem EBox.setData (h : EBox w g x) (l : List UInt8) : EBox (w.setCell ⟨g, 4, none⟩ (.string (strB l))) g { x with data := l } := heap_setCell_same w g 4 _ 23 _ h
end

/-- The world behind the store of a whole entry, under a name of its own. -/
theorem store5 {w : World} {g : Nat} {x0 : En} (h : EBox w g x0) (x : En) :
    ∃ w2, ((((w.setCell ⟨g, 0, none⟩ (.int .i64 x.seq)).setCell ⟨g, 1, none⟩ (.int .i64 x.index)).setCell ⟨g, 2, none⟩ (.bool x.last)).setCell ⟨g, 3, none⟩ (.int .i64 x.no)).setCell ⟨g, 4, none⟩ (.string (strB x.data)) = w2 ∧ EBox w2 g x ∧ Only g w w2 := by
  refine ⟨_, rfl, ?_, (((((Only.refl g w).setCell _ rfl _).setCell _ rfl _).setCell _ rfl _).setCell _ rfl _).setCell _ rfl _⟩
  exact ((((h.setSeq x.seq).setIndex x.index).setLast x.last).setNo x.no).setData x.data
theorem Only.after {g : Nat} {u v w : World} (h : Below u.heap.size u v) (k : Only g v w) (hg : u.heap.size ≤ g) : Below u.heap.size u w := h.trans (k.below hg)

/-- A page, and a box that holds one. -/
def lfV (no : Int) (d : List UInt8) : Value := .agg #[.int .i64 no, .string (strB d)]
def LBox (w : World) (g : Nat) (no : Int) (d : List UInt8) : Prop := w.heap[g]? = some (.cells #[.int .i64 no, .string (strB d)] 31 (0, 0))
section
variable {w w' : World} {g : Nat} {no : Int} {d : List UInt8}
theorem LBox.c0 (h : LBox w g no d) : w.cell? ⟨g, 0, none⟩ = some (.int .i64 no) := by rw [cell_of_row w g _ _ _ _ h]; rfl
theorem LBox.c1 (h : LBox w g no d) : w.cell? ⟨g, 1, none⟩ = some (.string (strB d)) := by rw [cell_of_row w g _ _ _ _ h]; rfl
theorem LBox.lt (h : LBox w g no d) : g < w.heap.size := (Array.getElem?_eq_some_iff.1 h).1
theorem LBox.below (h : LBox w g no d) (hb : Below w.heap.size w w') : LBox w' g no d := (hb.block g h.lt).trans h
theorem LBox.new (w : World) (no : Int) (d : List UInt8) : LBox (w.alloc (.cells #[.int .i64 no, .string (strB d)] 31)) w.heap.size no d := heap_alloc_new w _
theorem LBox.free (h : LBox w g no d) (i : Nat) : w.frozen? ⟨g, i, none⟩ = false := by unfold LBox at h; simp [World.frozen?, h]
theorem LBox.setData (h : LBox w g no d) (l : List UInt8) : LBox (w.setCell ⟨g, 1, none⟩ (.string (strB l))) g no l := heap_setCell_same w g 1 _ 31 _ h
end

/-- A contract that lays blocks, in a world of the class. -/
theorem rg {f : FuncId} {args : Array Value} {v : Value} (h : ∀ W, Calls Try.prog f args W fun e w' => e = .returned v ∧ Below W.heap.size W w') (Y : World) :
    ∀ d os, Calls Try.prog f args (grow (redrawn Y d) os) fun e w'' => e = .returned v ∧ ∃ p : Regrown, w'' = grow (redrawn Y p.d) p.os :=
  fun _ _ => Calls.regrown_of (h _)
theorem rg0 {f : FuncId} {args : Array Value} {v : Value} (h : ∀ W, Calls Try.prog f args W fun e w' => e = .returned v ∧ w' = W) (Y : World) :
    ∀ d os, Calls Try.prog f args (grow (redrawn Y d) os) fun e w'' => e = .returned v ∧ ∃ p : Regrown, w'' = grow (redrawn Y p.d) p.os :=
  fun d os => (h _).mono fun _ _ ⟨he, hw⟩ => ⟨he, ⟨d, os⟩, hw⟩

theorem repeat_zer (n : Nat) : Lib.repeatL [0] n = zer n := by
  induction n with
  | zero => rfl
  | succ n ih => unfold Lib.repeatL; rw [ih]; rfl

theorem rep_calls (n : Nat) (w : World) (hn : n ≤ 1000) :
    Calls Try.prog 39 #[.string ⟨#[0]⟩, .int .i64 (n : Nat)] w fun e w' => e = .returned (.string (strB (zer n))) ∧ Below w.heap.size w w' := by
  have h := Try.strings_Repeat ⟨#[0]⟩ n w (by omega) (by show 1 * n ≤ _; omega)
  rw [show (⟨#[0]⟩ : ByteArray).data.toList = [0] from rfl, repeat_zer] at h
  exact h

set_option maxHeartbeats 1000000 in
theorem noughts_calls (n : Nat) (w : World) (hn : n ≤ 1000) :
    Calls Try.prog 30 #[.int .i64 (n : Nat)] w fun e w' => e = .returned (.string (strB (zer n))) ∧ Below w.heap.size w w' := by
  go_enter Try.func30, Try.ntmps30
  go_wp2_with fail
  (with_reducible refine (rep_calls n _ hn).mono ?_)
  rintro e w1 ⟨rfl, hB⟩
  go_wp2_with fail
  go_ret
  exact ⟨rfl, hB⟩

set_option maxHeartbeats 1000000 in
theorem dataBytes_calls (b : Bool) (w : World) : Calls Try.prog 19 #[.bool b] w fun e w' => e = .returned (.int .i64 (dataN b : Nat)) ∧ w' = w := by
  cases b
  all_goals
    go_enter Try.func19, Try.ntmps19
    go_wp2_with fail
    go_ret
    exact ⟨rfl, rfl⟩

set_option maxHeartbeats 1000000 in
theorem kind_calls (b : Bool) (w : World) : Calls Try.prog 24 #[.bool b] w fun e w' => e = .returned (.string (strB (kindL b))) ∧ w' = w := by
  cases b
  all_goals
    go_enter Try.func24, Try.ntmps24
    go_wp2_with fail
    go_ret
    exact ⟨rfl, rfl⟩

set_option maxHeartbeats 1000000 in
theorem first_calls (l : List UInt8) (n : Nat) (w : World) (hn : n ≤ 1000) : Calls Try.prog 33 #[.string (strB l), .int .i64 (n : Nat)] w fun e w' => e = .returned (.string (strB (l.take n))) ∧ w' = w := by
  have hs := strB_size l
  by_cases h : n ≤ l.length
  · have h1 : (n : Int) ≤ ((strB l).size : Int) := by omega
    have h2 : n ≤ (strB l).size := by omega
    clear hs
    go_enter Try.func33, Try.ntmps33
    go_wp2_with fail
    go_ret
    exact ⟨ret_str (by rw [strB_extract, List.drop_zero, show (min (n : Int) ((strB l).size : Int)).toNat = n by omega]), rfl⟩
  · have h1 : ¬ (n : Int) ≤ ((strB l).size : Int) := by omega
    have h3 : ((strB l).size : Int) ≤ (n : Int) := by omega
    clear hs
    go_enter Try.func33, Try.ntmps33
    go_wp2_with fail
    go_ret
    exact ⟨ret_str (by rw [strB_extract, List.drop_zero, List.take_of_length_le (by rw [strB_size]; omega), List.take_of_length_le (by omega)]), rfl⟩

end Go.Proofs.Ytompckbcaccmiaa
