/- Numbers and texts as bytes, and a tape that reads them: plain mathematics. No statement is proved here. -/
import Derived.Test.YtibgimlfhpjeeaaStr
import Derived.WalkKit
import Derived.Laws.BitsAllLaws
import Derived.Lib.Hide
namespace Go.Proofs.Ytibgimlfhpjeeaa.Wire
open Go.RowKit

/-- A number's lowest byte. -/
def b8 (n : Int) : UInt8 := UInt8.ofNat (n % 256).toNat
def twoL (n : Int) : List UInt8 := [b8 (n / 256), b8 n]
def fourL (n : Int) : List UInt8 := twoL (n / 65536) ++ twoL n
def textL (l : List UInt8) : List UInt8 := twoL (min l.length 65535 : Nat) ++ l.take 65535

theorem twoL_len (n : Int) : (twoL n).length = 2 := rfl
theorem fourL_len (n : Int) : (fourL n).length = 4 := rfl
theorem textL_len (l : List UInt8) : (textL l).length = min l.length 65535 + 2 := by
  simp only [textL, List.length_append, twoL_len, List.length_take]; omega

theorem b8_toNat (n : Int) : (b8 n).toNat = (n % 256).toNat := by
  unfold b8
  rw [UInt8.toNat_ofNat']
  omega

/-- The number of so many bytes. -/
def numL (l : List UInt8) : Nat := l.foldl (fun n b => n * 256 + b.toNat) 0

theorem numL_two (a b : UInt8) : numL [a, b] = a.toNat * 256 + b.toNat := by simp [numL]
theorem numL_four (a b c d : UInt8) : numL [a, b, c, d] = ((a.toNat * 256 + b.toNat) * 256 + c.toNat) * 256 + d.toNat := by simp [numL]
theorem numL_snoc (l : List UInt8) (b : UInt8) : numL (l ++ [b]) = numL l * 256 + b.toNat := by simp [numL]
theorem numL_lt (l : List UInt8) : numL l < 256 ^ l.length := by
  suffices ∀ n, l.foldl (fun n b => n * 256 + b.toNat) n < (n + 1) * 256 ^ l.length by simpa [numL] using this 0
  induction l with
  | nil => intro n; simp
  | cons a l ih =>
    intro n
    have h := ih (n * 256 + a.toNat)
    have ha := a.toNat_lt
    simp only [List.foldl_cons, List.length_cons]
    refine Nat.lt_of_lt_of_le h ?_
    rw [Nat.pow_succ, Nat.mul_comm (256 ^ l.length) 256, ← Nat.mul_assoc]
    exact Nat.mul_le_mul_right _ (by omega)

theorem numL_twoL (n : Int) : (numL (twoL n) : Int) = n % 65536 := by
  unfold twoL
  rw [numL_two, b8_toNat, b8_toNat]
  omega
theorem numL_fourL (n : Int) : (numL (fourL n) : Int) = n % 4294967296 := by
  show (numL [b8 (n / 65536 / 256), b8 (n / 65536), b8 (n / 256), b8 n] : Int) = _
  rw [numL_four, b8_toNat, b8_toNat, b8_toNat, b8_toNat]
  omega

/-- A tape: what is left, and whether something went wrong. -/
structure TK where
  rest : List UInt8
  bad : Bool

def good (k : Nat) (t : TK) : Bool := !t.bad && decide (k ≤ t.rest.length)
def takeS (k : Nat) (t : TK) : TK := if good k t then ⟨t.rest.drop k, false⟩ else ⟨t.rest, true⟩
def takeV (k : Nat) (t : TK) : List UInt8 := if good k t then t.rest.take k else []
def inside (k : Nat) (low high : Int) (t : TK) : Bool := good k t && (decide (low ≤ (numL (t.rest.take k) : Int)) && decide ((numL (t.rest.take k) : Int) ≤ high))
def numV (k : Nat) (low high : Int) (t : TK) : Nat := if inside k low high t then numL (t.rest.take k) else 0
def numS (k : Nat) (low high : Int) (t : TK) : TK := if good k t then ⟨t.rest.drop k, !inside k low high t⟩ else ⟨t.rest, true⟩
def txtV (most : Int) (t : TK) : List UInt8 := if inside 2 0 most t then takeV (numV 2 0 most t) (numS 2 0 most t) else []
def txtS (most : Int) (t : TK) : TK := if inside 2 0 most t then takeS (numV 2 0 most t) (numS 2 0 most t) else numS 2 0 most t
def markS (m : List UInt8) (t : TK) : TK := if good m.length t then ⟨t.rest.drop m.length, !(t.rest.take m.length == m)⟩ else ⟨t.rest, true⟩
def doneV (t : TK) : Bool := !t.bad && (t.rest == [])

theorem numV_lt (k : Nat) (low high : Int) (t : TK) : numV k low high t < 256 ^ k := by
  unfold numV
  split
  · refine Nat.lt_of_lt_of_le (numL_lt _) (Nat.pow_le_pow_right (by omega) (by simp; omega))
  · exact Nat.pow_pos (by omega)

end Go.Proofs.Ytibgimlfhpjeeaa.Wire
