/- Askings that came in, opened. No statement is proved here. -/
import Derived.Test.YthpellhoponocaaReads
import Derived.Lib.SmallJoins
import Derived.OpenShut
import Derived.Laws.IdiomArrays
namespace Go.Proofs.Ythpellhoponocaa
open Go.ChangeShapes Go.WideShapes Go.Deep Go.RowKit

section
variable {H : Type} {enc : TypeId × Value → H} {W : World}

/-- One asking, by its three cells. -/
theorem ask_of {n : Nat} {cs : List Value} {x : DataW H × List MemPlace} (h : DataW.trod enc Try.prog W 0 (fun _ => true) true n 32 cs = some x) :
    ∃ a : AK, cs = [.int .i64 a.kind, .int .i64 a.low, .int .i64 a.high] := by
  obtain ⟨ys, m, _, _, hl, hyl, hel⟩ := DataW.trod_array Try.underlying32 h
  have hc : Try.prog.cellsOf 32 = 3 := by kernel_rfl
  have c3 : Try.prog.cellsOf 3 = 1 := by kernel_rfl
  rw [hc] at hl
  obtain ⟨v0, v1, v2, rfl⟩ : ∃ v0 v1 v2, cs = [v0, v1, v2] := by
    match cs, hl with
    | [v0, v1, v2], _ => exact ⟨v0, v1, v2, rfl⟩
  have e0 := hel 0 (by omega)
  have e1 := hel 1 (by omega)
  have e2 := hel 2 (by omega)
  rw [c3, List.getElem?_eq_getElem (by omega)] at e0 e1 e2
  obtain ⟨k, f0, _, _⟩ := DataW.trod_int Try.underlying3 e0
  obtain ⟨p, f1, _, _⟩ := DataW.trod_int Try.underlying3 e1
  obtain ⟨q, f2, _, _⟩ := DataW.trod_int Try.underlying3 e2
  refine ⟨⟨k, p, q⟩, ?_⟩
  rw [List.head_eq_of_cons_eq (show [v0] = [Value.int .i64 k] from f0), List.head_eq_of_cons_eq (show [v1] = [Value.int .i64 p] from f1), List.head_eq_of_cons_eq (show [v2] = [Value.int .i64 q] from f2)]

/-- A slice of askings that came in. -/
theorem asks_of {fuel : Nat} {A : Option Addr} {len cap : Nat} {x : DataW H × List MemPlace} (h : DataW.trod enc Try.prog W 0 (fun _ => true) true fuel 26 (Value.cells (.slice A len cap)).toList = some x) :
    ∃ xs, AskIn W A len xs := by
  rcases open_slice Try.underlying26 h with ⟨hcs, _⟩ | ⟨a, l, c, m, n, D, Pl, hcs, _, hl, hm, hmm, _, hi⟩
  · simp [Value.cells] at hcs
    obtain ⟨rfl, rfl, rfl⟩ := hcs
    exact ⟨[], rfl, fun h => absurd h (by omega)⟩
  · simp [Value.cells] at hcs
    obtain ⟨rfl, rfl, rfl⟩ := hcs
    simp only [if_true] at hmm
    have hc : Try.prog.cellsOf 32 = 3 := by kernel_rfl
    rw [hc] at hi
    have hex : ∀ i : Nat, ∃ b : AK, i < len → W.cell? (a.add (i * 3)) = some (.int .i64 b.kind) ∧ W.cell? ((a.add (i * 3)).add 1) = some (.int .i64 b.low) ∧ W.cell? ((a.add (i * 3)).add 2) = some (.int .i64 b.high) := by
      intro i
      by_cases hil : i < len
      · obtain ⟨cs', hcs', ht⟩ := hi i (by omega)
        obtain ⟨b, rfl⟩ := ask_of ht
        obtain ⟨_, _, hat⟩ := World.cells?_some hcs'
        refine ⟨b, fun _ => ⟨?_, hat 1 (by omega), hat 2 (by omega)⟩⟩
        have h0 := hat 0 (by omega)
        simpa [Addr.add] using h0
      · exact ⟨⟨0, 0, 0⟩, fun h => absurd h hil⟩
    obtain ⟨f, hf⟩ := Classical.axiomOfChoice hex
    refine ⟨(List.range len).map f, by simp, fun hp => ?_⟩
    obtain ⟨b, off, spot⟩ := a
    have h0 := (hf 0 hp).1
    have hspot : spot = none := by simpa [Addr.add] using World.cell?_spot h0
    subst hspot
    refine ⟨b, off, rfl, World.block_lt_of_cell? W _ h0, fun j c hj => ?_⟩
    have hj' : j < len ∧ f j = c := by
      rw [List.getElem?_map] at hj
      by_cases hjl : j < len
      · rw [List.getElem?_range hjl] at hj
        exact ⟨hjl, by simpa using hj⟩
      · rw [List.getElem?_eq_none (by simp; omega)] at hj
        cases hj
    obtain ⟨hjl, rfl⟩ := hj'
    have e : ∀ r q : Nat, (⟨b, r, none⟩ : Addr).add q = ⟨b, r + q, none⟩ := fun r q => by
      unfold Addr.add
      split
      · rename_i h; subst h; rfl
      · rfl
    have hh := hf j hjl
    simp only [e] at hh
    exact hh
end
end Go.Proofs.Ythpellhoponocaa
