/- Contracts and plain mathematics that the statement's proof wants: no statement is proved here, nothing is assumed. -/
import Derived.WalkKit
import Derived.Laws.BitsAllLaws
import Derived.Lib.Hide
import Derived.Lib.Bytealg
import Derived.Test.YtgeiemccjionpaaGreatMg01
/- NPlain -/
namespace Go.Proofs.YtgeiemccjionpaaGreat.Nm
open Go.RowKit

/-- The number of so many bytes. -/
def numL (l : List UInt8) : Nat := l.foldl (fun n b => n * 256 + b.toNat) 0
theorem numL_snoc (l : List UInt8) (b : UInt8) : numL (l ++ [b]) = numL l * 256 + b.toNat := by simp [numL]
theorem numL_from (l : List UInt8) : ∀ n, l.foldl (fun n b => n * 256 + b.toNat) n = n * 256 ^ l.length + numL l := by
  unfold numL
  induction l with
  | nil => intro n; simp
  | cons a l ih =>
    intro n
    simp only [List.foldl_cons, List.length_cons]
    rw [ih, ih (0 * 256 + a.toNat), Nat.pow_succ, Nat.mul_comm (256 ^ l.length) 256, ← Nat.mul_assoc, Nat.add_mul, Nat.add_mul, Nat.zero_mul]
    omega
theorem numL_cons (a : UInt8) (l : List UInt8) : numL (a :: l) = a.toNat * 256 ^ l.length + numL l := by
  have := numL_from l a.toNat
  rw [← this]
  simp [numL]
theorem numL_lt (l : List UInt8) : numL l < 256 ^ l.length := by
  induction l with
  | nil => simp [numL]
  | cons a l ih =>
    rw [numL_cons, List.length_cons, Nat.pow_succ]
    have ha := a.toNat_lt
    have : a.toNat * 256 ^ l.length ≤ 255 * 256 ^ l.length := Nat.mul_le_mul_right _ (by omega)
    omega

/-- A number's k lowest bytes, the highest first. -/
def nb : Nat → Nat → List UInt8
  | 0, _ => []
  | k + 1, n => UInt8.ofNat (n / 256 ^ k % 256) :: nb k n
theorem nb_len (k n : Nat) : (nb k n).length = k := by
  induction k with
  | zero => rfl
  | succ k ih => simp [nb, ih]
theorem numL_nb (k n : Nat) : numL (nb k n) = n % 256 ^ k := by
  induction k with
  | zero => simp [nb, numL, Nat.mod_one]
  | succ k ih =>
    rw [nb, numL_cons, nb_len, ih, UInt8.toNat_ofNat', show (2 : Nat) ^ 8 = 256 from rfl, Nat.mod_mod, Nat.mod_pow_succ, Nat.mul_comm (256 ^ k)]
    omega

/-- Lists of bytes of one length stand as their numbers. -/
theorem less_num (l : List UInt8) : ∀ m : List UInt8, l.length = m.length → Op.bytesLess l m = decide (numL l < numL m) := by
  induction l with
  | nil =>
    intro m h
    cases m with
    | nil => rfl
    | cons => simp at h
  | cons a l ih =>
    intro m h
    cases m with
    | nil => simp at h
    | cons b m =>
      have h' : l.length = m.length := by simpa using h
      rw [Op.bytesLess, ih m h', numL_cons, numL_cons, h']
      have hl := numL_lt l
      have hm := numL_lt m
      rw [h'] at hl
      rw [Bool.eq_iff_iff, Bool.or_eq_true, Bool.and_eq_true, decide_eq_true_iff, decide_eq_true_iff, decide_eq_true_iff, beq_iff_eq, UInt8.lt_iff_toNat_lt, ← UInt8.toNat_inj]
      constructor
      · rintro (h | ⟨h, k⟩)
        · have : (a.toNat + 1) * 256 ^ m.length ≤ b.toNat * 256 ^ m.length := Nat.mul_le_mul_right _ h
          rw [Nat.add_mul] at this
          omega
        · rw [h]
          omega
      · intro h
        rcases Nat.lt_trichotomy a.toNat b.toNat with k | k | k
        · exact Or.inl k
        · rw [k] at h
          exact Or.inr ⟨k, by omega⟩
        · have : (b.toNat + 1) * 256 ^ m.length ≤ a.toNat * 256 ^ m.length := Nat.mul_le_mul_right _ k
          rw [Nat.add_mul] at this
          omega
theorem num_inj (l m : List UInt8) (h : l.length = m.length) (hn : numL l = numL m) : l = m := by
  induction l generalizing m with
  | nil =>
    cases m with
    | nil => rfl
    | cons => simp at h
  | cons a l ih =>
    cases m with
    | nil => simp at h
    | cons b m =>
      have h' : l.length = m.length := by simpa using h
      rw [numL_cons, numL_cons, h'] at hn
      have hl := numL_lt l
      have hm := numL_lt m
      rw [h'] at hl
      have : a.toNat = b.toNat := by
        rcases Nat.lt_trichotomy a.toNat b.toNat with k | k | k
        · have : (a.toNat + 1) * 256 ^ m.length ≤ b.toNat * 256 ^ m.length := Nat.mul_le_mul_right _ k
          rw [Nat.add_mul] at this
          omega
        · exact k
        · have : (b.toNat + 1) * 256 ^ m.length ≤ a.toNat * 256 ^ m.length := Nat.mul_le_mul_right _ k
          rw [Nat.add_mul] at this
          omega
      rw [this] at hn
      rw [UInt8.toNat_inj.1 this, ih m h' (by omega)]

/-- All bits of a number turned. -/
def tn (seq : Int) : Nat := (18446744073709551615 - seq % 18446744073709551616).toNat
/-- .. and back, with its sign. -/
def bk (n : Nat) : Int := if n < 9223372036854775808 then -1 - n else 18446744073709551615 - n
theorem tn_lt (seq : Int) : tn seq < 256 ^ 8 := by unfold tn; omega
theorem bk_tn (seq : Int) (h0 : -9223372036854775808 ≤ seq) (h1 : seq < 9223372036854775808) : bk (tn seq) = seq := by
  unfold bk tn
  split <;> omega

def keyOK (l : List UInt8) : Bool := !l.isEmpty && (decide (l.length ≤ 24) && !decide (0 ≤ Lib.indexByte l 0))
def okB (b : UInt8) : Bool := (decide (97 ≤ b.toNat) && decide (b.toNat ≤ 122)) || (decide (48 ≤ b.toNat) && decide (b.toNat ≤ 57)) || b.toNat == 45
def bucketOK (l : List UInt8) : Bool := decide (3 ≤ l.length) && (decide (l.length ≤ 12) && (l.all okB && ((l.getD 0 0).toNat != 45 && (l.getD (l.length - 1) 0).toNat != 45)))
def indexL (key : List UInt8) (seq : Int) : List UInt8 := key ++ 0 :: nb 8 (tn seq)
def backOK (l : List UInt8) : Bool := decide (9 ≤ l.length) && ((l.getD (l.length - 9) 1) == 0 && keyOK (l.take (l.length - 9)))
def backK (l : List UInt8) : List UInt8 := if backOK l then l.take (l.length - 9) else []
def backN (l : List UInt8) : Int := if backOK l then bk (numL (l.drop (l.length - 8))) else 0
def begins (l m : List UInt8) : Bool := decide (m.length ≤ l.length) && (l.take m.length == m)
def groveN (l : List UInt8) : Nat := if Op.bytesLess l [103] then 0 else if Op.bytesLess l [110] then 1 else if Op.bytesLess l [116] then 2 else 3

theorem index_ge (l : List UInt8) : decide (0 ≤ Lib.indexByte l 0) = l.contains 0 := by
  induction l with
  | nil => rfl
  | cons b l ih =>
    unfold Lib.indexByte
    have hg := Lib.indexByte_ge l 0
    by_cases hb : b = 0
    · subst hb
      rfl
    · have e1 : (b == 0) = false := by simpa using hb
      have e2 : ((0 : UInt8) == b) = false := by simpa using fun h => hb h.symm
      rw [e1, List.contains_cons, e2, Bool.false_or, ← ih]
      by_cases hn : Lib.indexByte l 0 = -1
      · rw [hn]
        rfl
      · have e3 : (Lib.indexByte l 0 == -1) = false := by simpa using hn
        rw [e3, decide_eq_decide]
        simp only [Bool.false_eq_true, if_false]
        omega
theorem keyOK_is (l : List UInt8) : keyOK l = true ↔ 1 ≤ l.length ∧ l.length ≤ 24 ∧ ∀ b ∈ l, b ≠ 0 := by
  unfold keyOK
  rw [index_ge, Bool.and_eq_true, Bool.and_eq_true, decide_eq_true_iff, Bool.not_eq_true', Bool.not_eq_true', List.isEmpty_eq_false_iff, ← List.length_pos_iff]
  constructor
  · rintro ⟨a, b, c⟩
    refine ⟨a, b, ?_⟩
    rintro x hx rfl
    rw [List.contains_iff_mem.2 hx] at c
    cases c
  · rintro ⟨a, b, c⟩
    refine ⟨a, b, ?_⟩
    rw [Bool.eq_false_iff]
    intro h
    exact c 0 (List.contains_iff_mem.1 h) rfl

end Go.Proofs.YtgeiemccjionpaaGreat.Nm
