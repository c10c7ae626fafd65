/- Items, and lists of items: plain mathematics. No statement is proved here. -/
import Derived.Test.YtkfjbhikibidiaaStr
import Derived.WalkKit
import Derived.Lib.Hide
import Derived.Lib.Bytealg
namespace Go.Proofs.Ytkfjbhikibidiaa.Itm
open Go.RowKit

/-- A key that may be. -/
def keyOK (l : List UInt8) : Bool := !l.isEmpty && (decide (l.length ≤ 24) && !decide (0 ≤ Lib.indexByte l 0))

theorem index_ge (l : List UInt8) : decide (0 ≤ Lib.indexByte l 0) = l.contains 0 := by
  induction l with
  | nil => rfl
  | cons b l ih =>
    unfold Lib.indexByte
    have hg := Lib.indexByte_ge l 0
    by_cases hb : b = 0
    · subst hb
      rfl
    · have e1 : (b == 0) = false := by simpa using hb
      have e2 : ((0 : UInt8) == b) = false := by simpa using fun h => hb h.symm
      rw [e1, List.contains_cons, e2, Bool.false_or, ← ih]
      by_cases hn : Lib.indexByte l 0 = -1
      · rw [hn]
        rfl
      · have e3 : (Lib.indexByte l 0 == -1) = false := by simpa using hn
        rw [e3, decide_eq_decide]
        simp only [Bool.false_eq_true, if_false]
        omega
theorem keyOK_is (l : List UInt8) : keyOK l = true ↔ 1 ≤ l.length ∧ l.length ≤ 24 ∧ ∀ b ∈ l, b ≠ 0 := by
  unfold keyOK
  rw [index_ge, Bool.and_eq_true, Bool.and_eq_true, decide_eq_true_iff, Bool.not_eq_true', Bool.not_eq_true', List.isEmpty_eq_false_iff, ← List.length_pos_iff]
  constructor
  · rintro ⟨a, b, c⟩
    refine ⟨a, b, ?_⟩
    rintro x hx rfl
    rw [List.contains_iff_mem.2 hx] at c
    cases c
  · rintro ⟨a, b, c⟩
    refine ⟨a, b, ?_⟩
    rw [Bool.eq_false_iff]
    intro h
    exact c 0 (List.contains_iff_mem.1 h) rfl

/-- An object's version. -/
structure It where
  key : List UInt8
  seq : Int
  ver : Int
  mark : Bool
  mt : List UInt8
  tag : List UInt8
  body : List UInt8

theorem It.eq_iff (x y : It) : x = y ↔ x.key = y.key ∧ x.seq = y.seq ∧ x.ver = y.ver ∧ x.mark = y.mark ∧ x.mt = y.mt ∧ x.tag = y.tag ∧ x.body = y.body := by
  cases x; cases y; simp

instance : DecidableEq It := fun x y => decidable_of_iff _ (It.eq_iff x y).symm

/-- It has numbers that may be. -/
def numOK (x : It) : Bool := decide (1 ≤ x.seq) && (decide (x.seq ≤ 2147483647) && (decide (x.ver = 0) || decide (x.ver = x.seq)))
/-- It has texts that may be. -/
def fillOK (x : It) : Bool := if x.mark then x.mt.isEmpty && (x.tag.isEmpty && x.body.isEmpty) else decide (x.mt.length ≤ 40) && (decide (16 ≤ x.tag.length) && (decide (x.tag.length ≤ 24) && decide (x.body.length ≤ 1500)))
def rightB (x : It) : Bool := keyOK x.key && (numOK x && fillOK x)

/-- x stands ahead of y. -/
def less (x y : It) : Bool := if x.key = y.key then decide (y.seq < x.seq) else Op.bytesLess x.key y.key

def stays (k : List UInt8) (s : Int) (x : It) : Bool := decide (x.key ≠ k) || decide (x.seq ≠ s)
def dropL (k : List UInt8) (s : Int) (l : List It) : List It := l.filter (stays k s)
def ofL (k : List UInt8) (l : List It) : List It := l.filter (fun x => decide (x.key = k))
def insL (x : It) (l : List It) : List It := l.takeWhile (fun o => less o x) ++ x :: l.dropWhile (fun o => less o x)
def putL (x : It) (l : List It) : List It := insL x (dropL x.key x.seq l)
def orderedB : List It → Bool
  | [] => true
  | [x] => rightB x
  | x :: y :: l => rightB x && (less x y && orderedB (y :: l))

end Go.Proofs.Ytkfjbhikibidiaa.Itm
