/- Contracts and plain mathematics that the statement's proof wants: no statement is proved here, nothing is assumed. -/
import Derived.Test.YtgeiemccjionpaaGreatMg43
/- HOpenN -/
namespace Go.Proofs.YtgeiemccjionpaaGreat.Chn
open Go.ChangeShapes Go.WideShapes Go.Deep Go.RowKit

/-- A slice of numbers that came in. -/
def NIn (w : World) (A : Option Addr) (len : Nat) (xs : List Int) : Prop :=
  xs.length = len ∧ (∀ a ∈ xs, -9223372036854775808 ≤ a ∧ a ≤ 9223372036854775807) ∧ (0 < len → ∃ b off, A = some ⟨b, off, none⟩ ∧ b < w.heap.size ∧ ∀ (j : Nat) (a : Int), xs[j]? = some a → w.cell? ⟨b, off + j, none⟩ = some (.int .i64 a))
section
variable {H : Type} {enc : TypeId × Value → H} {W : World}
set_option maxRecDepth 100000 in
theorem ints_of {fuel : Nat} {A : Option Addr} {len cap : Nat} {x : DataW H × List MemPlace} (h : DataW.trod enc Tryz.prog W 0 (fun _ => true) true fuel 36 (Value.cells (.slice A len cap)).toList = some x) :
    ∃ xs, NIn W A len xs ∧ len ≤ 9223372036854775807 := by
  rcases open_slice Tryz.underlying36 h with ⟨hcs, _⟩ | ⟨a, l, c, m, n, D, Pl, hcs, _, hl, hm, hmm, _, hi⟩
  · simp [Value.cells] at hcs
    obtain ⟨rfl, rfl, rfl⟩ := hcs
    exact ⟨[], ⟨rfl, fun _ h => absurd h (by simp), fun h => absurd h (by omega)⟩, by omega⟩
  · simp [Value.cells] at hcs
    obtain ⟨rfl, rfl, rfl⟩ := hcs
    simp only [if_true] at hmm
    have hc : Tryz.prog.cellsOf 3 = 1 := by kernel_rfl
    rw [hc] at hi
    have hex : ∀ i : Nat, ∃ b : Int, i < len → (-9223372036854775808 ≤ b ∧ b ≤ 9223372036854775807) ∧ W.cell? (a.add (i * 1)) = some (.int .i64 b) := by
      intro i
      by_cases hil : i < len
      · obtain ⟨cs', hcs', ht⟩ := hi i (by omega)
        obtain ⟨k, e0, _, w0⟩ := DataW.trod_int Tryz.underlying3 ht
        obtain ⟨_, _, hat⟩ := World.cells?_some hcs'
        subst e0
        refine ⟨k, fun _ => ⟨Dsk.i64_of w0, ?_⟩⟩
        have h0 := hat 0 (by omega)
        simpa [Addr.add] using h0
      · exact ⟨0, fun h => absurd h hil⟩
    obtain ⟨f, hf⟩ := Classical.axiomOfChoice hex
    refine ⟨(List.range len).map f, ⟨by simp, ?_, fun hp => ?_⟩, Nat.le_trans hl (Nat.le_trans hm (by decide))⟩
    · intro b hb
      obtain ⟨i, hi', rfl⟩ := List.mem_map.1 hb
      exact (hf i (List.mem_range.1 hi')).1
    · obtain ⟨b, off, spot⟩ := a
      have h0 := (hf 0 hp).2
      have hspot : spot = none := by simpa [Addr.add] using World.cell?_spot h0
      subst hspot
      refine ⟨b, off, rfl, World.block_lt_of_cell? W _ h0, fun j c hj => ?_⟩
      have hj' : j < len ∧ f j = c := by
        rw [List.getElem?_map] at hj
        by_cases hjl : j < len
        · rw [List.getElem?_range hjl] at hj
          exact ⟨hjl, by simpa using hj⟩
        · rw [List.getElem?_eq_none (by simp; omega)] at hj
          cases hj
      obtain ⟨hjl, rfl⟩ := hj'
      have e : ∀ q : Nat, (⟨b, off, none⟩ : Addr).add q = ⟨b, off + q, none⟩ := fun q => by
        unfold Addr.add
        split
        · rename_i h; subst h; rfl
        · rfl
      have hh := (hf j hjl).2
      simp only [e, Nat.mul_one] at hh
      exact hh
end
end Go.Proofs.YtgeiemccjionpaaGreat.Chn
