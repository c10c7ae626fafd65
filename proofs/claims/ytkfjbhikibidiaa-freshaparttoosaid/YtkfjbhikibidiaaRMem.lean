/- Records in memory: a slice that reads as runs, a record's value, a box that holds one. No statement is proved here. -/
import Derived.Test.YtkfjbhikibidiaaRPlain
import Derived.Test.YtkfjbhikibidiaaIBase
namespace Go.Proofs.Ytkfjbhikibidiaa
open Go.RowKit
open Itm (It)

/-- The slice v reads as the runs l. -/
def Sps (w : World) (v : Value) (l : List (Int × Int)) : Prop :=
  ∃ A c, v = .slice A l.length c ∧ l.length ≤ c ∧ (0 < l.length → ∃ b off, A = some ⟨b, off, none⟩ ∧ b < w.heap.size ∧ ∀ (j : Nat) (x : Int × Int), l[j]? = some x → w.cell? ⟨b, off + j * 2, none⟩ = some (.int .i64 x.1) ∧ w.cell? ⟨b, off + j * 2 + 1, none⟩ = some (.int .i64 x.2))

section
variable {w w' : World} {v : Value} {l : List (Int × Int)}
theorem Sps.below (h : Sps w v l) (hb : Below w.heap.size w w') : Sps w' v l := by
  obtain ⟨A, c, e, hc, hr⟩ := h
  refine ⟨A, c, e, hc, fun hp => ?_⟩
  obtain ⟨b, off, e1, hl, hx⟩ := hr hp
  exact ⟨b, off, e1, Nat.lt_of_lt_of_le hl hb.size, fun j x hj => ⟨(hb.cell (p := ⟨b, off + j * 2, none⟩) hl).trans (hx j x hj).1, (hb.cell (p := ⟨b, off + j * 2 + 1, none⟩) hl).trans (hx j x hj).2⟩⟩
theorem Sps.at_ {A : Option Addr} {n c : Nat} (h : Sps w (.slice A n c) l) : l.length = n ∧ n ≤ c ∧ (0 < n → ∃ b off, A = some ⟨b, off, none⟩ ∧ b < w.heap.size ∧ ∀ (j : Nat) (x : Int × Int), l[j]? = some x → w.cell? ⟨b, off + j * 2, none⟩ = some (.int .i64 x.1) ∧ w.cell? ⟨b, off + j * 2 + 1, none⟩ = some (.int .i64 x.2)) := by
  obtain ⟨A', c', e, hc, hr⟩ := h
  injection e with e1 e2 e3
  subst e1 e2 e3
  exact ⟨rfl, hc, hr⟩
theorem Sps.form (h : Sps w v l) : ∃ A c, v = .slice A l.length c := by
  obtain ⟨A, c, e, _⟩ := h
  exact ⟨A, c, e⟩
theorem Sps.nil (w : World) : Sps w (.slice none 0 0) [] := ⟨none, 0, rfl, Nat.le_refl _, fun h => absurd h (by simp)⟩
/-- Its one run. -/
theorem Sps.one {A : Option Addr} {c : Nat} {s n : Int} (h : Sps w (.slice A 1 c) [(s, n)]) : ∃ b off, A = some ⟨b, off, none⟩ ∧ b < w.heap.size ∧ w.cell? ⟨b, off, none⟩ = some (.int .i64 s) ∧ w.cell? ⟨b, off + 1, none⟩ = some (.int .i64 n) := by
  obtain ⟨b, off, e, hl, hx⟩ := h.at_.2.2 (by omega)
  exact ⟨b, off, e, hl, by simpa using hx 0 (s, n) rfl⟩
theorem Sps.new (w : World) (s n : Int) : Sps (w.alloc (.cells #[.int .i64 s, .int .i64 n] 41)) (.slice (some ⟨w.heap.size, 0, none⟩) 1 1) [(s, n)] := by
  refine ⟨_, _, rfl, Nat.le_refl _, fun _ => ⟨w.heap.size, 0, rfl, by simp, fun j x hj => ?_⟩⟩
  have hj0 : j = 0 := by
    have := (List.getElem?_eq_some_iff.1 hj).1
    simp at this
    omega
  subst hj0
  have hx : (s, n) = x := by simpa using hj
  subst hx
  rw [cell_of_row _ _ _ _ _ _ (heap_alloc_new w _), cell_of_row _ _ _ _ _ _ (heap_alloc_new w _)]
  exact ⟨rfl, rfl⟩
end

/-- A record's value; its runs are where v says. -/
def recV (r : Rec) (v : Value) : Value := .agg #[.string (strB r.it.key), .int .i64 r.it.seq, .int .i64 r.it.ver, .bool r.it.mark, .string (strB r.it.mt), .string (strB r.it.tag), .string (strB r.it.body), .int .i64 r.size, v]
def recC (r : Rec) (v : Value) : Array Value := #[.string (strB r.it.key), .int .i64 r.it.seq, .int .i64 r.it.ver, .bool r.it.mark, .string (strB r.it.mt), .string (strB r.it.tag), .string (strB r.it.body), .int .i64 r.size, v]

/-- The record r lies at the start of block b. -/
structure At9 (w : World) (b : Nat) (r : Rec) (v : Value) : Prop where
  c0 : w.cell? ⟨b, 0, none⟩ = some (.string (strB r.it.key))
  c1 : w.cell? ⟨b, 1, none⟩ = some (.int .i64 r.it.seq)
  c2 : w.cell? ⟨b, 2, none⟩ = some (.int .i64 r.it.ver)
  c3 : w.cell? ⟨b, 3, none⟩ = some (.bool r.it.mark)
  c4 : w.cell? ⟨b, 4, none⟩ = some (.string (strB r.it.mt))
  c5 : w.cell? ⟨b, 5, none⟩ = some (.string (strB r.it.tag))
  c6 : w.cell? ⟨b, 6, none⟩ = some (.string (strB r.it.body))
  c7 : w.cell? ⟨b, 7, none⟩ = some (.int .i64 r.size)
  c8 : w.cell? ⟨b, 8, none⟩ = some v

/-- A box that holds a record. -/
def RBox (w : World) (g : Nat) (r : Rec) (v : Value) : Prop := w.heap[g]? = some (.cells (recC r v) 26 (0, 0))
section
variable {w w' : World} {g : Nat} {r : Rec} {v : Value}
theorem RBox.at_ (h : RBox w g r v) : At9 w g r v := by
  refine ⟨?_, ?_, ?_, ?_, ?_, ?_, ?_, ?_, ?_⟩ <;> (rw [cell_of_row w g _ _ _ _ h]; rfl)
theorem RBox.lt (h : RBox w g r v) : g < w.heap.size := (Array.getElem?_eq_some_iff.1 h).1
theorem RBox.below (h : RBox w g r v) (hb : Below w.heap.size w w') : RBox w' g r v := (hb.block g h.lt).trans h
theorem RBox.belowB {B : Nat} (h : RBox w g r v) (hb : Below B w w') (hg : g < B) : RBox w' g r v := (hb.block g hg).trans h
theorem RBox.new (w : World) (r : Rec) (v : Value) : RBox (w.alloc (.cells (recC r v) 26)) w.heap.size r v := heap_alloc_new w _
theorem RBox.free (h : RBox w g r v) (i : Nat) : w.frozen? ⟨g, i, none⟩ = false := by unfold RBox at h; simp [World.frozen?, h]
end

theorem info26 : (Try.prog.info? 26).map (fun i => (i.zero, i.size, i.bytes)) = some (some (.agg #[.string ⟨#[]⟩, .int .i64 0, .int .i64 0, .bool false, .string ⟨#[]⟩, .string ⟨#[]⟩, .string ⟨#[]⟩, .int .i64 0, .slice none 0 0]), 9, 120) := by kernel_rfl
def zeroR : Rec := ⟨⟨[], 0, 0, false, [], [], []⟩, 0, []⟩

end Go.Proofs.Ytkfjbhikibidiaa
