/- Bytes that came in. No statement is proved here. -/
import Derived.Test.YtgnhjcgegibpdaaOpen
namespace Go.Proofs.Ytgnhjcgegibpdaa
open Go.ChangeShapes Go.WideShapes Go.Deep Go.RowKit

/-- The slice v reads as the bytes l. -/
def Bys (w : World) (v : Value) (l : List Nat) : Prop :=
  ∃ A c, v = .slice A l.length c ∧ l.length ≤ c ∧ l.length ≤ 9223372036854775807 ∧ (0 < l.length → ∃ b off, A = some ⟨b, off, none⟩ ∧ b < w.heap.size ∧ ∀ j x, l[j]? = some x → w.cell? ⟨b, off + j, none⟩ = some (.int .u8 (x : Nat)) ∧ x < 256)

theorem u8_of {a : Int} (h : (Lit.int .u8 a).wf = true) : ∃ n : Nat, a = n ∧ n < 256 := by
  simp [Lit.wf, IntKind.min, IntKind.max, IntKind.bits, IntKind.signed] at h
  exact ⟨a.toNat, by omega, by omega⟩

/-- A slice of bytes that came in. -/
theorem bys_of {H : Type} {enc : TypeId × Value → H} {W : World} {fuel : Nat} {A : Option Addr} {len cap : Nat} {x : DataW H × List MemPlace} (h : DataW.trod enc Try.prog W 0 (fun _ => true) true fuel 32 (Value.cells (.slice A len cap)).toList = some x) :
    ∃ l, Bys W (.slice A len cap) l := by
  rcases open_slice Try.underlying32 h with ⟨hcs, _⟩ | ⟨a, l, c, m, n, D, Pl, hcs, _, hl, hm, hmm, _, hi⟩
  · simp [Value.cells] at hcs
    obtain ⟨rfl, rfl, rfl⟩ := hcs
    exact ⟨[], none, 0, rfl, by simp, by simp, fun h => absurd h (by simp)⟩
  · simp [Value.cells] at hcs
    obtain ⟨rfl, rfl, rfl⟩ := hcs
    simp only [if_true] at hmm
    have hc : Try.prog.cellsOf 5 = 1 := by kernel_rfl
    rw [hc] at hi
    have hex : ∀ i : Nat, ∃ b : Nat, i < len → b < 256 ∧ W.cell? (a.add i) = some (.int .u8 (b : Nat)) := by
      intro i
      by_cases hil : i < len
      · obtain ⟨cs', hcs', ht⟩ := hi i (by omega)
        obtain ⟨z, hz, _, hwf⟩ := DataW.trod_int Try.underlying5 ht
        obtain ⟨b, rfl, hb⟩ := u8_of hwf
        subst hz
        obtain ⟨_, _, hat⟩ := World.cells?_some hcs'
        refine ⟨b, fun _ => ⟨hb, ?_⟩⟩
        have h0 := hat 0 (by omega)
        simpa [Addr.add] using h0
      · exact ⟨0, fun h => absurd h hil⟩
    obtain ⟨f, hf⟩ := Classical.axiomOfChoice hex
    have hll : ((List.range len).map f).length = len := by simp
    refine ⟨(List.range len).map f, some a, cap, by rw [hll], by rw [hll]; exact hl, by rw [hll]; exact Nat.le_trans hl (Nat.le_trans hm (by decide)), fun hp => ?_⟩
    rw [hll] at hp
    obtain ⟨b, off, spot⟩ := a
    have h0 := (hf 0 hp).2
    have hspot : spot = none := by simpa [Addr.add] using World.cell?_spot h0
    subst hspot
    refine ⟨b, off, rfl, by simpa [Addr.add] using World.block_lt_of_cell? W _ h0, fun j z hj => ?_⟩
    have hj' : j < len ∧ f j = z := by
      rw [List.getElem?_map] at hj
      by_cases hjl : j < len
      · rw [List.getElem?_range hjl] at hj
        exact ⟨hjl, by simpa using hj⟩
      · rw [List.getElem?_eq_none (by simp; omega)] at hj
        cases hj
    obtain ⟨hjl, rfl⟩ := hj'
    have hh := hf j hjl
    rw [Addr.add_lit] at hh
    exact ⟨hh.2, hh.1⟩

end Go.Proofs.Ytgnhjcgegibpdaa
