/- Sums and tags: plain mathematics. No statement is proved here. -/
import Derived.Test.YtgcinbkecgfmbaaDoorRows
import Derived.WalkKit
import Derived.Laws.BitsAllLaws
import Derived.Lib.Hide
import Derived.Lib.ItoaNum
namespace Go.Proofs.YtgcinbkecgfmbaaDoor
open Go.RowKit

/-- Bytes as a string's. -/
def strB (l : List UInt8) : ByteArray := ⟨l.toArray⟩

theorem strB_size (l : List UInt8) : (strB l).size = l.length := by simp [strB, ByteArray.size]
theorem strB_data (l : List UInt8) : (strB l).data.toList = l := rfl
theorem strB_of (s : ByteArray) : strB s.data.toList = s := by cases s; rfl
theorem strB_toList (l : List UInt8) : (strB l).toList = l := by rw [ByteArray.toList_eq]; rfl
theorem len_data (s : ByteArray) : s.data.toList.length = s.size := by simp
theorem strB_append (l m : List UInt8) : strB l ++ strB m = strB (l ++ m) := by
  apply ByteArray.ext
  simp [strB]
theorem strB_extract (l : List UInt8) (a b : Nat) : (strB l).extract a b = strB ((l.take b).drop a) := by
  apply ByteArray.ext
  apply Array.toList_inj.1
  simp [strB, List.extract_eq_take_drop, List.drop_take]
theorem getD_of {l : List UInt8} {j : Nat} (h : j < l.length) : l.getD j 0 = l[j] := by
  rw [List.getD_eq_getElem?_getD, List.getElem?_eq_getElem h]; rfl
theorem at_strB (l : List UInt8) (k : Nat) (h : k < (strB l).size) : (strB l)[k] = l.getD k 0 := by
  rw [strB_size] at h
  rw [List.getD_eq_getElem?_getD, List.getElem?_eq_getElem h]
  rfl

/-- One byte more. -/
def st (n : Nat) (b : UInt8) : Nat := (n ^^^ b.toNat) * 1099511628211 % 18446744073709551616
/-- So many bytes more. -/
def reg (n : Nat) (l : List UInt8) : Nat := l.foldl st n
/-- The number of a text's bytes. -/
def sumL (l : List UInt8) : Nat := reg 14695981039346656037 l

theorem st_lt (n : Nat) (b : UInt8) : st n b < 18446744073709551616 := Nat.mod_lt _ (by decide)
theorem reg_nil (n : Nat) : reg n [] = n := by unfold reg; rw [List.foldl_nil]
theorem reg_cons (n : Nat) (b : UInt8) (l : List UInt8) : reg n (b :: l) = reg (st n b) l := by unfold reg; rw [List.foldl_cons]
theorem reg_one (n : Nat) (b : UInt8) : reg n [b] = st n b := by rw [reg_cons, reg_nil]
theorem reg_lt {n : Nat} (l : List UInt8) (h : n < 18446744073709551616) : reg n l < 18446744073709551616 := by
  induction l generalizing n with
  | nil => rw [reg_nil]; exact h
  | cons b l ih => rw [reg_cons]; exact ih (st_lt n b)
theorem sumL_lt (l : List UInt8) : sumL l < 18446744073709551616 := reg_lt l (by decide)
theorem reg_append (n : Nat) (l m : List UInt8) : reg n (l ++ m) = reg (reg n l) m := by simp [reg]
theorem take_snoc (l : List UInt8) (k : Nat) (h : k < l.length) : l.take (k + 1) = l.take k ++ [l.getD k 0] := by
  rw [List.take_add_one, List.getElem?_eq_getElem h, getD_of h]
  rfl
theorem reg_snoc (n : Nat) (l : List UInt8) (k : Nat) (h : k < l.length) : reg n (l.take (k + 1)) = st (reg n (l.take k)) (l.getD k 0) := by
  rw [take_snoc l k h, reg_append, reg_one]

theorem mul_inj {x y : Nat} (hx : x < 18446744073709551616) (hy : y < 18446744073709551616) (h : x * 1099511628211 % 18446744073709551616 = y * 1099511628211 % 18446744073709551616) : x = y := by
  have key : ∀ z, z < 18446744073709551616 → (z * 1099511628211 % 18446744073709551616) * 14886173955864302971 % 18446744073709551616 = z := by
    intro z hz
    rw [Nat.mod_mul_mod, Nat.mul_assoc, Nat.mul_mod, show 1099511628211 * 14886173955864302971 % 18446744073709551616 = 1 by decide, Nat.mul_one, Nat.mod_mod, Nat.mod_eq_of_lt hz]
  rw [← key x hx, h, key y hy]
theorem xor_byte_lt {n : Nat} (b : UInt8) (h : n < 18446744073709551616) : n ^^^ b.toNat < 18446744073709551616 :=
  Nat.xor_lt_two_pow (n := 64) h (by have := b.toNat_lt; omega)
theorem xor_can (n a b : Nat) (h : n ^^^ a = n ^^^ b) : a = b := by
  have h2 := congrArg (n ^^^ ·) h
  simpa [← Nat.xor_assoc] using h2
theorem st_inj {n m : Nat} (b : UInt8) (hn : n < 18446744073709551616) (hm : m < 18446744073709551616) (h : st n b = st m b) : n = m := by
  have := mul_inj (xor_byte_lt b hn) (xor_byte_lt b hm) h
  rw [Nat.xor_comm n, Nat.xor_comm m] at this
  exact xor_can _ _ _ this
theorem st_byte {n : Nat} (b c : UInt8) (hn : n < 18446744073709551616) (h : st n b = st n c) : b = c := by
  have := mul_inj (xor_byte_lt b hn) (xor_byte_lt c hn) h
  exact UInt8.toNat_inj.1 (xor_can _ _ _ this)
theorem reg_inj {n m : Nat} (l : List UInt8) (hn : n < 18446744073709551616) (hm : m < 18446744073709551616) (h : reg n l = reg m l) : n = m := by
  induction l generalizing n m with
  | nil => rwa [reg_nil, reg_nil] at h
  | cons b l ih =>
    rw [reg_cons, reg_cons] at h
    exact st_inj b hn hm (ih (st_lt n b) (st_lt m b) h)
/-- One other byte makes another number. -/
theorem sum_other (l : List UInt8) (k : Nat) (c : UInt8) (hk : k < l.length) (h : sumL (l.set k c) = sumL l) : l.getD k 0 = c := by
  have e1 : l = l.take k ++ l[k] :: l.drop (k + 1) := by simp
  have e2 : l.set k c = l.take k ++ c :: l.drop (k + 1) := by rw [List.set_eq_take_append_cons_drop, if_pos hk]
  have h2 : reg 14695981039346656037 (l.take k ++ c :: l.drop (k + 1)) = reg 14695981039346656037 (l.take k ++ l[k] :: l.drop (k + 1)) := by
    rw [← e1, ← e2]; exact h
  rw [reg_append, reg_append, reg_cons, reg_cons] at h2
  have hl := reg_lt (n := 14695981039346656037) (l.take k) (by decide)
  have h4 := st_byte _ _ hl (reg_inj _ (st_lt _ _) (st_lt _ _) h2)
  rw [getD_of hk, h4]

/-- A sign of base 16. -/
def hx (d : Nat) : UInt8 := if d < 10 then UInt8.ofNat (48 + d) else UInt8.ofNat (87 + d)
/-- A number's k lowest signs of base 16, the highest first. -/
def hxL : Nat → Nat → List UInt8
  | 0, _ => []
  | k + 1, n => hx (n / 16 ^ k % 16) :: hxL k n
theorem hxL_len (k n : Nat) : (hxL k n).length = k := by
  induction k with
  | zero => rfl
  | succ k ih => simp [hxL, ih]
theorem hxL_succ (k n : Nat) : hxL (k + 1) n = hx (n / 16 ^ k % 16) :: hxL k n := rfl
theorem hx_fin : ∀ a b : Fin 16, hx a.val = hx b.val → a = b := by decide
theorem hx_inj {a b : Nat} (ha : a < 16) (hb : b < 16) (h : hx a = hx b) : a = b := congrArg Fin.val (hx_fin ⟨a, ha⟩ ⟨b, hb⟩ h)
theorem hxL_inj (k : Nat) (n m : Nat) (h : hxL k n = hxL k m) : n % 16 ^ k = m % 16 ^ k := by
  induction k with
  | zero => simp [Nat.mod_one]
  | succ k ih =>
    rw [hxL_succ, hxL_succ, List.cons.injEq] at h
    have h1 := hx_inj (Nat.mod_lt _ (by decide)) (Nat.mod_lt _ (by decide)) h.1
    have h2 := ih h.2
    rw [Nat.pow_succ, Nat.mod_mul, Nat.mod_mul, h1, h2]
/-- A number's tag. -/
def tagN (n : Nat) : List UInt8 := hxL 16 n
theorem tagN_len (n : Nat) : (tagN n).length = 16 := hxL_len 16 n
theorem tagN_inj {n m : Nat} (hn : n < 18446744073709551616) (hm : m < 18446744073709551616) (h : tagN n = tagN m) : n = m := by
  have := hxL_inj 16 n m h
  rwa [show (16 : Nat) ^ 16 = 18446744073709551616 by decide, Nat.mod_eq_of_lt hn, Nat.mod_eq_of_lt hm] at this
/-- A text's tag. -/
def tagL (l : List UInt8) : List UInt8 := tagN (sumL l)
theorem tagL_len (l : List UInt8) : (tagL l).length = 16 := tagN_len _
theorem tag_other (l : List UInt8) (k : Nat) (c : UInt8) (hk : k < l.length) (h : tagL (l.set k c) = tagL l) : l.getD k 0 = c :=
  sum_other l k c hk (tagN_inj (sumL_lt _) (sumL_lt _) h)
/-- The tag of parts' tags. -/
def joinL (ls : List (List UInt8)) : List UInt8 := tagL ls.flatten ++ 45 :: Lib.decDigits ls.length
theorem dec_more {n : Nat} (h : ¬ n < 10) : Lib.decDigits n = Lib.decDigits (n / 10) ++ [UInt8.ofNat (48 + n % 10)] := by rw [Lib.decDigits, dif_neg h]
theorem decDigits_inj : ∀ n m : Nat, Lib.decDigits n = Lib.decDigits m → n = m := by
  intro n
  induction n using Nat.strongRecOn with
  | _ n ih =>
    intro m h
    have one : ∀ k, k < 10 → ∀ j, ¬ j < 10 → Lib.decDigits k ≠ Lib.decDigits j := by
      intro k hk j hj e
      have := congrArg List.length e
      rw [Lib.decDigits_one hk, Lib.decDigits, dif_neg hj] at this
      simp only [List.length_append, List.length_cons, List.length_nil] at this
      have h0 : Lib.decDigits (j / 10) ≠ [] := by
        rw [Lib.decDigits]
        split <;> simp
      have := List.length_pos_iff.2 h0
      omega
    have dig : ∀ a b, a < 10 → b < 10 → UInt8.ofNat (48 + a) = UInt8.ofNat (48 + b) → a = b := by
      intro a b ha hb e
      have := congrArg UInt8.toNat e
      rw [UInt8.toNat_ofNat', UInt8.toNat_ofNat'] at this
      omega
    by_cases hn : n < 10
    · by_cases hm : m < 10
      · rw [Lib.decDigits_one hn, Lib.decDigits_one hm] at h
        exact dig n m hn hm (List.cons.inj h).1
      · exact absurd h (one n hn m hm)
    · by_cases hm : m < 10
      · exact absurd h.symm (one m hm n hn)
      · rw [dec_more hn, dec_more hm] at h
        obtain ⟨h1, h2⟩ := List.append_inj' h rfl
        have e1 := ih (n / 10) (by omega) (m / 10) h1
        have e2 := dig _ _ (Nat.mod_lt _ (by decide)) (Nat.mod_lt _ (by decide)) (List.cons.inj h2).1
        omega
theorem joinL_count {ls ms : List (List UInt8)} (h : joinL ls = joinL ms) : ls.length = ms.length := by
  unfold joinL at h
  have h2 := (List.append_inj h (by rw [tagL_len, tagL_len])).2
  exact decDigits_inj _ _ (List.cons.inj h2).2
end Go.Proofs.YtgcinbkecgfmbaaDoor
