/- Shapes and their bytes: plain mathematics. No statement is proved here. -/
import Derived.Test.YtibgimlfhpjeeaaWBack
import Derived.Test.YtibgimlfhpjeeaaCTurn
import Derived.Test.YtibgimlfhpjeeaaNPlain
namespace Go.Proofs.Ytibgimlfhpjeeaa
open Go.RowKit
open Wire (TK twoL numL numV numS inside good markS)
open Crc (sealB opens bur oth bur_opens)

/-- A shape. -/
structure Sh where
  pages : Int
  journal : Int

theorem Sh.eq_iff (x y : Sh) : x = y ↔ x.pages = y.pages ∧ x.journal = y.journal := by
  cases x; cases y; simp

instance : DecidableEq Sh := fun x y => decidable_of_iff _ (Sh.eq_iff x y).symm

def zeroS : Sh := ⟨0, 0⟩
def archK : List UInt8 := [65, 82, 67, 72, 73, 86, 69, 49]
def rightS (x : Sh) : Bool := decide (16 ≤ x.pages) && (decide (x.pages ≤ 512) && (decide (8 ≤ x.journal) && decide (x.journal ≤ 256)))
theorem right_iff {x : Sh} : rightS x = true ↔ 16 ≤ x.pages ∧ x.pages ≤ 512 ∧ 8 ≤ x.journal ∧ x.journal ≤ 256 := by
  unfold rightS
  simp only [Bool.and_eq_true, decide_eq_true_eq]

def zer (k : Nat) : List UInt8 := List.replicate k 0
theorem zer_len (k : Nat) : (zer k).length = k := by simp [zer]
def restL (x : Sh) : List UInt8 := twoL x.pages ++ twoL x.journal
def headL (x : Sh) : List UInt8 := archK ++ restL x
def fillL (x : Sh) : List UInt8 := headL x ++ zer 240
def printL (x : Sh) : List UInt8 := sealB (fillL x)
theorem headL_len (x : Sh) : (headL x).length = 12 := by
  simp only [headL, restL, archK, List.length_append, Wire.twoL_len, List.length_cons, List.length_nil]
theorem fillL_len (x : Sh) : (fillL x).length = 252 := by unfold fillL; rw [List.length_append, headL_len, zer_len]
theorem print_len (x : Sh) : (printL x).length = 256 := by unfold printL; rw [Crc.sealB_len, fillL_len]
theorem print_is (x : Sh) : ∃ z, printL x = archK ++ (twoL x.pages ++ (twoL x.journal ++ z)) := by
  refine ⟨zer 240 ++ Crc.tailB (Crc.crcN (fillL x)), ?_⟩
  unfold printL sealB
  simp only [fillL, headL, restL, List.append_assoc]

/-- The tape behind each number. -/
def g0 (s : List UInt8) : TK := markS archK ⟨s, false⟩
def g1 (s : List UInt8) : TK := numS 2 16 512 (g0 s)
def guessS (s : List UInt8) : Sh := ⟨(numV 2 16 512 (g0 s) : Nat), (numV 2 8 256 (g1 s) : Nat)⟩
def isS (s : List UInt8) : Bool := rightS (guessS s) && (printL (guessS s) == s)
def parseS (s : List UInt8) : Sh := if isS s then guessS s else zeroS

theorem mark_app (m z : List UInt8) : markS m ⟨m ++ z, false⟩ = ⟨z, false⟩ := by
  unfold markS
  rw [Wire.good_app m z m.length rfl, if_pos rfl, Wire.take_app m z _ rfl, Wire.drop_app m z _ rfl]
  simp

theorem guess_print {x : Sh} (h : rightS x = true) : guessS (printL x) = x := by
  obtain ⟨h1, h2, h3, h4⟩ := right_iff.1 h
  obtain ⟨z, hz⟩ := print_is x
  have n1 : (numL (twoL x.pages) : Int) = x.pages := by rw [Wire.numL_twoL]; omega
  have n2 : (numL (twoL x.journal) : Int) = x.journal := by rw [Wire.numL_twoL]; omega
  have a1 := Wire.numS_app (twoL x.pages) (twoL x.journal ++ z) 2 16 512 rfl (by omega) (by omega)
  have b1 := Wire.numV_app (twoL x.pages) (twoL x.journal ++ z) 2 16 512 rfl (by omega) (by omega)
  have b2 := Wire.numV_app (twoL x.journal) z 2 8 256 rfl (by omega) (by omega)
  rw [Sh.eq_iff]
  unfold guessS g1 g0
  rw [hz, mark_app, a1, b1, b2]
  exact ⟨n1, n2⟩
theorem is_print {x : Sh} (h : rightS x = true) : isS (printL x) = true := by
  unfold isS
  rw [guess_print h, h]
  simp
theorem parse_print {x : Sh} (h : rightS x = true) : parseS (printL x) = x := by
  unfold parseS
  rw [is_print h, if_pos rfl, guess_print h]
theorem print_inj {x y : Sh} (hx : rightS x = true) (hy : rightS y = true) (h : printL x = printL y) : x = y := by
  rw [← parse_print hx, ← parse_print hy, h]
theorem is_right {s : List UInt8} (h : isS s = true) : rightS (parseS s) = true ∧ printL (parseS s) = s := by
  unfold parseS
  rw [h, if_pos rfl]
  unfold isS at h
  rw [Bool.and_eq_true, beq_iff_eq] at h
  exact h
theorem is_opens {s : List UInt8} (h : isS s = true) : opens s = true := by
  rw [← (is_right h).2]
  exact Crc.opens_seal _

/-- What the document's answer reads: any two numbers, behind a kind that stands there. -/
theorem is_of {s : List UInt8} {x : Sh} (h : rightS x = true) (hp : printL x = s) : isS s = true ∧ parseS s = x := by
  subst hp
  exact ⟨is_print h, parse_print h⟩

/-- One other byte is told. -/
theorem turned {x : Sh} {k : Nat} {d : UInt8} (hd : d ≠ 0) (h : k < 256) : isS (bur (printL x) k [d] 1) = false := by
  have hb := bur_opens (x := printL x) (k := k) (f := [d]) (i := 1) (Nat.le_refl _) (by omega) (by rw [print_len]; omega) (by rw [print_len]; omega) (Crc.opens_seal (fillL x))
  have ho : oth [d] 1 = true := by simpa [oth] using hd
  rw [ho] at hb
  cases hi : isS (bur (printL x) k [d] 1) with
  | false => rfl
  | true => rw [is_opens hi] at hb; cases hb

end Go.Proofs.Ytibgimlfhpjeeaa
