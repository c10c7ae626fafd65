/- Bytes in memory that may be written. No statement is proved here. -/
import Derived.Test.YtgcinbkecgfmbaaDoorAwake
import Derived.Laws.IdiomStrings
import Derived.Lib.SmallJoins
namespace Go.Proofs.YtgcinbkecgfmbaaDoor
open Go.RowKit

theorem getD_set (l : List UInt8) (n : Nat) (a : UInt8) (j : Nat) (hn : n < l.length) : (l.set n a).getD j 0 = if n = j then a else l.getD j 0 := by
  rw [List.getD_eq_getElem?_getD, List.getElem?_set, List.getD_eq_getElem?_getD]
  by_cases h : n = j
  · subst h; simp [hn]
  · simp [h]
theorem set_get {cur : Array Value} {i j : Nat} {x : Value} (hi : i < cur.size) : (cur.setIfInBounds i x)[j]? = if i = j then some x else cur[j]? := by
  rw [Array.getElem?_setIfInBounds]
  by_cases h : i = j
  · subst h; simp [hi]
  · simp [h]

/-- The bytes l lie in block g, and may be written. -/
def RowB (w : World) (g : Nat) (l : List UInt8) : Prop :=
  ∃ (cur : Array Value) (fr : Nat × Nat), w.heap[g]? = some (.cells cur 5 fr) ∧ (∀ j, j < l.length → cur[j]? = some (.int .u8 ((l.getD j 0).toNat : Nat))) ∧ l.length ≤ fr.1

section
variable {w : World} {g : Nat} {l : List UInt8}
theorem RowB.cell (h : RowB w g l) {j : Nat} (hj : j < l.length) : w.cell? ⟨g, j, none⟩ = some (.int .u8 ((l.getD j 0).toNat : Nat)) := by
  obtain ⟨cur, fr, hb, hc, _⟩ := h
  rw [Go.Joins.cell_of_block hb]; exact hc j hj
theorem RowB.free (h : RowB w g l) {j : Nat} (hj : j < l.length) : w.frozen? ⟨g, j, none⟩ = false := by
  obtain ⟨cur, fr, hb, hc, hf⟩ := h
  simp [World.frozen?, hb]; omega
theorem RowB.set (h : RowB w g l) {j : Nat} (hj : j < l.length) (c : UInt8) : RowB (w.setCell ⟨g, j, none⟩ (.int .u8 (c.toNat : Nat))) g (l.set j c) := by
  obtain ⟨cur, fr, hb, hc, hf⟩ := h
  have hjc : j < cur.size := (Array.getElem?_eq_some_iff.1 (hc j hj)).1
  refine ⟨_, fr, Go.Joins.block_setCell hb _, fun i hi => ?_, by simpa using hf⟩
  rw [set_get hjc, getD_set _ _ _ _ hj]
  by_cases e : j = i
  · subst e; rw [if_pos rfl, if_pos rfl]
  · rw [if_neg e, if_neg e]; exact hc i (by simpa using hi)
theorem RowB.keep {w' : World} (h : RowB w g l) (e : w'.heap[g]? = w.heap[g]?) : RowB w' g l := by
  obtain ⟨cur, fr, hb, r⟩ := h
  exact ⟨cur, fr, e.trans hb, r⟩
theorem RowB.back (h : RowB w g l) (cap : Nat) : (convert 30 9 (.slice (some ⟨g, 0, none⟩) l.length cap)).run Tryd.prog w = .ok (.string (strB l)) w := by
  refine run_convert_bytes_back w 30 9 5 ⟨g, 0, none⟩ cap l Tryd.underlying30 Tryd.underlying5 Tryd.underlying9 fun j hj => ?_
  have hp : (⟨g, 0, none⟩ : Addr).add j = ⟨g, j, none⟩ := by unfold Addr.add; split <;> simp_all
  rw [hp, h.cell hj, getD_of hj]
end

theorem RowB.new (w : World) (l : List UInt8) (cap : Nat) : RowB (w.alloc (.cells (bytesRow (strB l) cap) 5 ((bytesRow (strB l) cap).size, (bytesRow (strB l) cap).size + 1))) w.heap.size l := by
  refine ⟨_, _, heap_alloc_new w _, fun j hj => ?_, ?_⟩
  · rw [bytesRow_at _ _ _ (by simpa [strB] using hj), getD_of hj]; rfl
  · simp [bytesRow, strB]
end Go.Proofs.YtgcinbkecgfmbaaDoor
