/- Contracts and plain mathematics that the statement's proof wants: no statement is proved here, nothing is assumed. -/
import Derived.Deep.RegionHeld3
import Derived.Deep.RegionWith
import Derived.Deep.Cut
import Derived.Deep.CutRange
import Derived.Test.YtgeiemccjionpaaGreatMg14
import Derived.Test.YtgeiemccjionpaaGreatMg15
import Derived.Test.YtgeiemccjionpaaGreatMg21
import Derived.Test.YtgeiemccjionpaaGreatMg27
/- PForm -/
namespace Go.Proofs.YtgeiemccjionpaaGreat.Vlt
open Go.RowKit Go.Sort
open Dsk

/-- The boxes of Format: the answer's, the shape's, the disk's. -/
structure FB (w W : World) (x : Sh) (G : Nat) (vs vw : Value) (d : DK) : Prop where
  zv : W.heap[w.heap.size]? = some (.cells #[.slice none 0 0, .slice none 0 0, .bool false, .int .i64 0, .int .i64 0, .int .i64 0, .int .i64 0, .slice none 0 0] 32 (0, 0))
  sh : SBox W (w.heap.size + 1) x
  dk : W.heap[G]? = some (.cells #[vs, vw, .bool d.dead, .int .i64 d.left] 27 (0, 0))
  isd : IsDisk W (.agg #[vs, vw, .bool d.dead, .int .i64 d.left]) d
  below : Below w.heap.size w W
  far : w.heap.size + 1 < G
section
variable {w W W' : World} {x : Sh} {G : Nat} {vs vw us uw : Value} {d e : DK}
theorem FB.more (h : FB w W x G vs vw d) (k : Below W.heap.size W W') : FB w W' x G vs vw d :=
  ⟨box_kept _ h.zv k, h.sh.below k, box_kept _ h.dk k, h.isd.below k, Dsk.below_trans' h.below k, h.far⟩
theorem FB.cells (h : FB w W x G vs vw d) : (W.cell? ⟨G, 0, none⟩ = some vs ∧ W.cell? ⟨G, 1, none⟩ = some vw ∧ W.cell? ⟨G, 2, none⟩ = some (.bool d.dead) ∧ W.cell? ⟨G, 3, none⟩ = some (.int .i64 d.left)) ∧
    W.cell? ⟨w.heap.size + 1, 0, none⟩ = some (.int .i64 x.pages) ∧ W.cell? ⟨w.heap.size + 1, 1, none⟩ = some (.int .i64 x.journal) := ⟨(box4 h.dk).1, h.sh.c0, h.sh.c1⟩
theorem FB.put (h : FB w W x G vs vw d) (hv : IsDisk W (.agg #[us, uw, .bool e.dead, .int .i64 e.left]) e) :
    ∃ X, (((W.setCell ⟨G, 0, none⟩ us).setCell ⟨G, 1, none⟩ uw).setCell ⟨G, 2, none⟩ (.bool e.dead)).setCell ⟨G, 3, none⟩ (.int .i64 e.left) = X ∧ FB w X x G us uw e := by
  obtain ⟨X, hX, hb, hk, hB⟩ := box_store4 h.dk us uw (.bool e.dead) (.int .i64 e.left)
  have hf := h.far
  exact ⟨X, hX, (hk _ (by omega)).trans h.zv, h.sh.keep (hk _ (by omega)), hb, hv.other h.dk (by decide) (by decide) hk, hB _ _ h.below (by omega), h.far⟩
theorem FB.fin (h : FB w W x G vs vw d) (s : Int) :
    ∃ X, (((((((W.setCell ⟨w.heap.size, 0, none⟩ vs).setCell ⟨w.heap.size, 1, none⟩ vw).setCell ⟨w.heap.size, 2, none⟩ (.bool d.dead)).setCell ⟨w.heap.size, 3, none⟩ (.int .i64 d.left)).setCell ⟨w.heap.size, 4, none⟩ (.int .i64 x.pages)).setCell ⟨w.heap.size, 5, none⟩ (.int .i64 x.journal)).setCell ⟨w.heap.size, 6, none⟩ (.int .i64 s)).setCell ⟨w.heap.size, 7, none⟩ (.slice none 0 0) = X ∧
      IsVault X (.agg #[vs, vw, .bool d.dead, .int .i64 d.left, .int .i64 x.pages, .int .i64 x.journal, .int .i64 s, .slice none 0 0]) ⟨d, x, s, []⟩ ∧ Below w.heap.size w X ∧
      X.heap[w.heap.size]? = some (.cells #[vs, vw, .bool d.dead, .int .i64 d.left, .int .i64 x.pages, .int .i64 x.journal, .int .i64 s, .slice none 0 0] 32 (0, 0)) := by
  obtain ⟨X, hX, hbX, hkX, hBX⟩ := box_store8 h.zv vs vw (.bool d.dead) (.int .i64 d.left) (.int .i64 x.pages) (.int .i64 x.journal) (.int .i64 s) (.slice none 0 0)
  exact ⟨X, hX, ⟨_, _, _, rfl, h.isd.other h.zv (by decide) (by decide) hkX, IsLfs.nil _⟩, hBX _ _ h.below (Nat.le_refl _), hbX⟩
end

theorem box_one {W : World} {a : Int} {s : ByteArray} : SL (W.alloc (.cells #[.int .i64 a, .string s] 106)) 106 2 (.slice (some ⟨W.heap.size, 0, none⟩) 1 1) 1 (wetCells [(a, s)]) := by
  refine ⟨some ⟨W.heap.size, 0, none⟩, 1, rfl, Nat.le_refl _, rfl, fun _ => ⟨W.heap.size, 0, _, _, rfl, heap_alloc_new W _, fun j u hj => ?_⟩⟩
  rw [wetCells_one] at hj
  rw [Nat.zero_add]
  simpa using hj

end Go.Proofs.YtgeiemccjionpaaGreat.Vlt
