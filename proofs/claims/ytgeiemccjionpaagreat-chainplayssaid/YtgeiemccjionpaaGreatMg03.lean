/- Contracts and plain mathematics that the statement's proof wants: no statement is proved here, nothing is assumed. -/
import Derived.Laws.IdiomStrings
import Derived.Lib.SmallJoins
import Derived.Test.YtgeiemccjionpaaGreatMg02
/- CTurn -/
namespace Go.Proofs.YtgeiemccjionpaaGreat.Crc
open Go.RowKit

theorem getD_of {l : List UInt8} {j : Nat} (h : j < l.length) : l.getD j 0 = l[j] := by
  rw [List.getD_eq_getElem?_getD, List.getElem?_eq_getElem h]; rfl

theorem ext_getD {l m : List UInt8} (hl : l.length = m.length) (h : ∀ j, l.getD j 0 = m.getD j 0) : l = m :=
  List.ext_getElem hl fun j h1 h2 => by
    have := h j
    rwa [getD_of h1, getD_of h2] at this

theorem over_len (l e : List UInt8) (h : l.length = e.length) : (over l e).length = l.length := by
  induction l generalizing e with
  | nil => cases e with
    | nil => rfl
    | cons _ _ => cases h
  | cons a l ih => cases e with
    | nil => cases h
    | cons b e => simp [over]; exact ih e (by simpa using h)

theorem over_getD (l e : List UInt8) (h : l.length = e.length) (j : Nat) : (over l e).getD j 0 = l.getD j 0 ^^^ e.getD j 0 := by
  induction l generalizing e j with
  | nil => cases e with
    | nil => simp [over]
    | cons _ _ => cases h
  | cons a l ih => cases e with
    | nil => cases h
    | cons b e => cases j with
      | zero => simp [over]
      | succ j => simp only [over, List.getD_cons_succ]; exact ih e (by simpa using h) j

def errL (k : Nat) (f : List UInt8) (i n : Nat) : List UInt8 := zeros k ++ f.take i ++ zeros (n - k - i)

theorem errL_len {k i n : Nat} {f : List UInt8} (hf : i ≤ f.length) (h : k + i ≤ n) : (errL k f i n).length = n := by
  simp [errL, zeros]; omega

theorem errL_getD {k i n : Nat} {f : List UInt8} (hf : i ≤ f.length) (j : Nat) : (errL k f i n).getD j 0 = if k ≤ j ∧ j < k + i then f.getD (j - k) 0 else 0 := by
  unfold errL zeros
  rw [List.getD_eq_getElem?_getD, List.getD_eq_getElem?_getD]
  have hk : (List.replicate k (0 : UInt8) ++ f.take i).length = k + i := by simp; omega
  by_cases h1 : j < k
  · rw [if_neg (by omega), List.getElem?_append_left (by omega), List.getElem?_append_left (by simpa using h1), List.getElem?_replicate, if_pos h1]; rfl
  · by_cases h2 : j < k + i
    · rw [if_pos ⟨by omega, h2⟩, List.getElem?_append_left (by omega), List.getElem?_append_right (by simp; omega), List.length_replicate, List.getElem?_take, if_pos (by omega)]
    · rw [if_neg (by omega), List.getElem?_append_right (by omega), List.getElem?_replicate]
      split <;> rfl

/-- A seal with the first i of the other bytes laid over it, from k on. -/
def bur (x : List UInt8) (k : Nat) (f : List UInt8) (i : Nat) : List UInt8 := over x (errL k f i x.length)

section
variable {x f : List UInt8} {k i : Nat}
theorem bur_len (hf : i ≤ f.length) (h : k + i ≤ x.length) : (bur x k f i).length = x.length := over_len _ _ (errL_len hf h).symm
theorem bur_getD (hf : i ≤ f.length) (h : k + i ≤ x.length) (j : Nat) : (bur x k f i).getD j 0 = x.getD j 0 ^^^ (if k ≤ j ∧ j < k + i then f.getD (j - k) 0 else 0) := by
  unfold bur
  rw [over_getD _ _ (errL_len hf h).symm, errL_getD hf]
theorem bur_zero (h : k ≤ x.length) : bur x k f 0 = x := by
  refine ext_getD (bur_len (Nat.zero_le _) (by omega)) fun j => ?_
  rw [bur_getD (Nat.zero_le _) (by omega), if_neg (by omega)]
  simp
theorem bur_at (hf : i ≤ f.length) (h : k + i < x.length) : (bur x k f i).getD (k + i) 0 = x.getD (k + i) 0 := by
  rw [bur_getD hf (by omega), if_neg (by omega)]
  simp
theorem getD_set (l : List UInt8) (n : Nat) (a : UInt8) (j : Nat) (hn : n < l.length) : (l.set n a).getD j 0 = if n = j then a else l.getD j 0 := by
  rw [List.getD_eq_getElem?_getD, List.getElem?_set, List.getD_eq_getElem?_getD]
  by_cases h : n = j
  · subst h; simp [hn]
  · simp [h]
theorem bur_step (hf : i + 1 ≤ f.length) (h : k + i < x.length) : bur x k f (i + 1) = (bur x k f i).set (k + i) (x.getD (k + i) 0 ^^^ f.getD i 0) := by
  have hl := bur_len (x := x) (f := f) (k := k) (i := i) (by omega) (by omega)
  refine ext_getD (by rw [bur_len hf (by omega), List.length_set, hl]) fun j => ?_
  rw [getD_set _ _ _ _ (by omega), bur_getD hf (by omega), bur_getD (by omega) (by omega)]
  by_cases e : k + i = j
  · subst e; rw [if_pos rfl, if_pos (by omega), show k + i - k = i by omega]
  · rw [if_neg e]
    by_cases g : k ≤ j ∧ j < k + i
    · rw [if_pos (by omega), if_pos g]
    · rw [if_neg (by omega), if_neg g]
end

/-- Whether one of the first i of them is other than 0. -/
def oth (f : List UInt8) (i : Nat) : Bool := (f.take i).any (· != 0)

theorem oth_zero (f : List UInt8) : oth f 0 = false := rfl
theorem oth_step {f : List UInt8} {i : Nat} (h : i < f.length) : oth f (i + 1) = (oth f i || f.getD i 0 != 0) := by
  unfold oth
  rw [List.take_succ_eq_append_getElem h, List.any_append, getD_of h]
  simp

theorem bur_opens {x f : List UInt8} {k i : Nat} (hf : i ≤ f.length) (h4 : i ≤ 4) (h : k + i ≤ x.length) (hx : 4 ≤ x.length) (ho : opens x = true) : opens (bur x k f i) = !oth f i := by
  have hb := burst x k (x.length - k - i) (f.take i) (by simp; omega) (by simp; omega) hx ho
  have e : bur x k f i = over x (zeros k ++ f.take i ++ zeros (x.length - k - i)) := rfl
  rw [← e] at hb
  rw [Bool.eq_iff_iff, hb]
  simp [oth]

/-- The bytes l lie in block g, and may be written. -/
def RowB (w : World) (g : Nat) (l : List UInt8) : Prop :=
  ∃ (cur : Array Value) (fr : Nat × Nat), w.heap[g]? = some (.cells cur 5 fr) ∧ (∀ j, j < l.length → cur[j]? = some (.int .u8 ((l.getD j 0).toNat : Nat))) ∧ l.length ≤ fr.1

section
variable {w : World} {g : Nat} {l : List UInt8}
theorem RowB.cell (h : RowB w g l) {j : Nat} (hj : j < l.length) : w.cell? ⟨g, j, none⟩ = some (.int .u8 ((l.getD j 0).toNat : Nat)) := by
  obtain ⟨cur, fr, hb, hc, _⟩ := h
  rw [Go.Joins.cell_of_block hb]; exact hc j hj
theorem RowB.free (h : RowB w g l) {j : Nat} (hj : j < l.length) : w.frozen? ⟨g, j, none⟩ = false := by
  obtain ⟨cur, fr, hb, hc, hf⟩ := h
  simp [World.frozen?, hb]; omega
theorem RowB.set (h : RowB w g l) {j : Nat} (hj : j < l.length) (c : UInt8) : RowB (w.setCell ⟨g, j, none⟩ (.int .u8 (c.toNat : Nat))) g (l.set j c) := by
  obtain ⟨cur, fr, hb, hc, hf⟩ := h
  have hjc : j < cur.size := (Array.getElem?_eq_some_iff.1 (hc j hj)).1
  refine ⟨_, fr, Go.Joins.block_setCell hb _, fun i hi => ?_, by simpa using hf⟩
  rw [set_get hjc, getD_set _ _ _ _ hj]
  by_cases e : j = i
  · subst e; rw [if_pos rfl, if_pos rfl]
  · rw [if_neg e, if_neg e]; exact hc i (by simpa using hi)
theorem RowB.keep {w' : World} (h : RowB w g l) (e : w'.heap[g]? = w.heap[g]?) : RowB w' g l := by
  obtain ⟨cur, fr, hb, r⟩ := h
  exact ⟨cur, fr, e.trans hb, r⟩
theorem RowB.lt (h : RowB w g l) : g < w.heap.size := by
  obtain ⟨cur, fr, hb, _⟩ := h
  exact (Array.getElem?_eq_some_iff.1 hb).1
theorem RowB.back (h : RowB w g l) (cap : Nat) : (convert 70 9 (.slice (some ⟨g, 0, none⟩) l.length cap)).run Tryz.prog w = .ok (.string (strB l)) w := by
  refine run_convert_bytes_back w 70 9 5 ⟨g, 0, none⟩ cap l Tryz.underlying70 Tryz.underlying5 Tryz.underlying9 fun j hj => ?_
  have hp : (⟨g, 0, none⟩ : Addr).add j = ⟨g, j, none⟩ := by unfold Addr.add; split <;> simp_all
  rw [hp, h.cell hj, getD_of hj]
end

theorem RowB.new (w : World) (l : List UInt8) (cap : Nat) : RowB (w.drew.alloc (.cells (bytesRow (strB l) cap) 5 ((bytesRow (strB l) cap).size, (bytesRow (strB l) cap).size + 1))) w.heap.size l := by
  refine ⟨_, _, heap_alloc_new w.drew _, fun j hj => ?_, ?_⟩
  · rw [bytesRow_at _ _ _ (by simpa [strB] using hj), getD_of hj]; rfl
  · simp [bytesRow, strB]
end Go.Proofs.YtgeiemccjionpaaGreat.Crc
