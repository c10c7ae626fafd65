/- Contracts and plain mathematics that the statement's proof wants: no statement is proved here, nothing is assumed. -/
import Derived.Laws.IdiomStrings
import Derived.Lib.SmallJoins
import Derived.Test.YtgeiemccjionpaaGreatMg23
/- BRow -/
namespace Go.Proofs.YtgeiemccjionpaaGreat.Bit
open Go.RowKit Go.Sort

theorem getD_of {l : List UInt8} {j : Nat} (h : j < l.length) : l.getD j 0 = l[j] := by
  rw [List.getD_eq_getElem?_getD, List.getElem?_eq_getElem h]; rfl
theorem set_get {cur : Array Value} {i j : Nat} {x : Value} (hi : i < cur.size) : (cur.setIfInBounds i x)[j]? = if i = j then some x else cur[j]? := by
  rw [Array.getElem?_setIfInBounds]
  by_cases h : i = j
  · subst h; simp [hi]
  · simp [h]

/-- The bytes l lie in block g, and may be written. -/
def RowB (w : World) (g : Nat) (l : List UInt8) : Prop :=
  ∃ (cur : Array Value) (fr : Nat × Nat), w.heap[g]? = some (.cells cur 5 fr) ∧ (∀ j, j < l.length → cur[j]? = some (.int .u8 ((l.getD j 0).toNat : Nat))) ∧ l.length ≤ fr.1

section
variable {w : World} {g : Nat} {l : List UInt8}
theorem RowB.cell (h : RowB w g l) {j : Nat} (hj : j < l.length) : w.cell? ⟨g, j, none⟩ = some (.int .u8 ((l.getD j 0).toNat : Nat)) := by
  obtain ⟨cur, fr, hb, hc, _⟩ := h
  rw [Go.Joins.cell_of_block hb]; exact hc j hj
theorem RowB.lt (h : RowB w g l) : g < w.heap.size := by
  obtain ⟨cur, fr, hb, hc, _⟩ := h
  exact (Array.getElem?_eq_some_iff.1 hb).1
theorem RowB.free (h : RowB w g l) {j : Nat} (hj : j < l.length) : w.frozen? ⟨g, j, none⟩ = false := by
  obtain ⟨cur, fr, hb, hc, hf⟩ := h
  simp [World.frozen?, hb]; omega
theorem RowB.set (h : RowB w g l) {j : Nat} (hj : j < l.length) (c : UInt8) : RowB (w.setCell ⟨g, j, none⟩ (.int .u8 (c.toNat : Nat))) g (l.set j c) := by
  obtain ⟨cur, fr, hb, hc, hf⟩ := h
  have hjc : j < cur.size := (Array.getElem?_eq_some_iff.1 (hc j hj)).1
  refine ⟨_, fr, Go.Joins.block_setCell hb _, fun i hi => ?_, by simpa using hf⟩
  rw [set_get hjc, getD_set _ _ _ _ hj]
  by_cases e : j = i
  · subst e; rw [if_pos rfl, if_pos rfl]
  · rw [if_neg e, if_neg e]; exact hc i (by simpa using hi)
theorem RowB.keep {w' : World} (h : RowB w g l) (e : w'.heap[g]? = w.heap[g]?) : RowB w' g l := by
  obtain ⟨cur, fr, hb, r⟩ := h
  exact ⟨cur, fr, e.trans hb, r⟩
theorem RowB.below {w' : World} (h : RowB w g l) (hb : Below w.heap.size w w') : RowB w' g l := h.keep (hb.block g h.lt)
theorem RowB.back (h : RowB w g l) (cap : Nat) : (convert 70 9 (.slice (some ⟨g, 0, none⟩) l.length cap)).run Tryz.prog w = .ok (.string (strB l)) w := by
  refine run_convert_bytes_back w 70 9 5 ⟨g, 0, none⟩ cap l Tryz.underlying70 Tryz.underlying5 Tryz.underlying9 fun j hj => ?_
  have hp : (⟨g, 0, none⟩ : Addr).add j = ⟨g, j, none⟩ := by unfold Addr.add; split <;> simp_all
  rw [hp, h.cell hj, getD_of hj]
end

theorem RowB.new (w : World) (l : List UInt8) (cap : Nat) : RowB (w.alloc (.cells (bytesRow (strB l) cap) 5 ((bytesRow (strB l) cap).size, (bytesRow (strB l) cap).size + 1))) w.heap.size l := by
  refine ⟨_, _, heap_alloc_new w _, fun j hj => ?_, ?_⟩
  · rw [bytesRow_at _ _ _ (by simpa [strB] using hj), getD_of hj]; rfl
  · simp [bytesRow, strB]

theorem markR_add (l : List UInt8) (t : Bool) (s : Int) (a b : Nat) : markR l t s (a + b) = markR (markR l t s a) t (s + a) b := by
  induction b with
  | zero => rfl
  | succ b ih =>
    show mkI (markR l t s (a + b)) t (s + ((a + b : Nat) : Int)) = mkI (markR (markR l t s a) t (s + a) b) t (s + a + b)
    rw [ih]
    congr 1
    omega
/-- Of a run's pages those from F on, up to E, alone are marked. -/
theorem marks_none (m : List UInt8) (t : Bool) (x : Int × Int) (h : (toldN m : Int) ≤ x.1) : markOne m t x = m := by
  unfold markOne
  refine markR_same m t x.1 0 _ (Nat.zero_le _) fun j _ _ hh => ?_
  have := (told_has m _).1 hh.2
  omega
theorem marks_some (m : List UInt8) (t : Bool) (x : Int × Int) : markOne m t x = markR m t ((max x.1 0).toNat : Nat) (min (x.1 + min (max x.2 0) 512) (toldN m) - max x.1 0).toNat := by
  unfold markOne
  obtain ⟨s, n⟩ := x
  obtain ⟨k, hk⟩ : ∃ k : Nat, k = (min n 512).toNat := ⟨_, rfl⟩
  have hk2 : min (max n 0) 512 = (k : Int) := by omega
  show markR m t s (min n 512).toNat = markR m t ((max s 0).toNat : Nat) (min (s + min (max n 0) 512) (toldN m) - max s 0).toNat
  rw [← hk, hk2]
  clear hk hk2
  have hT := fun p => told_has m p
  obtain ⟨T, hT0⟩ : ∃ T, T = toldN m := ⟨_, rfl⟩
  rw [← hT0]
  have hs : ∀ j : Nat, (0 ≤ s + (j : Int) ∧ has m (s + (j : Int)).toNat = true) → 0 ≤ s + (j : Int) ∧ s + (j : Int) < T := fun j h => ⟨h.1, by have := (hT _).1 h.2; omega⟩
  by_cases h0 : 0 ≤ s
  · have e : (((max s 0).toNat : Nat) : Int) = s := by omega
    have e2 : max s 0 = s := by omega
    rw [e, e2]
    exact markR_same m t s _ _ (by omega) fun j a b hh => by have := hs j hh; omega
  · have e : (((max s 0).toNat : Nat) : Int) = 0 := by omega
    have e2 : max s 0 = 0 := by omega
    rw [e, e2]
    obtain ⟨d, hd⟩ : ∃ d : Nat, s = -(d : Int) := ⟨(-s).toNat, by omega⟩
    by_cases hkd : k ≤ d
    · rw [show (min (s + (k : Int)) (T : Int) - 0).toNat = 0 by omega]
      exact markR_same m t s 0 k (by omega) fun j a b hh => by have := hs j hh; omega
    · obtain ⟨b, rfl⟩ : ∃ b, k = d + b := ⟨k - d, by omega⟩
      rw [markR_add, show s + (d : Int) = 0 by omega, markR_same m t s 0 d (by omega) fun j a b hh => by have := hs j hh; omega]
      show markR m t 0 b = _
      refine markR_same m t 0 _ _ (by omega) fun j a b hh => ?_
      have := (hT _).1 hh.2
      omega

end Go.Proofs.YtgeiemccjionpaaGreat.Bit
