/- Contracts and plain mathematics that the statement's proof wants: no statement is proved here, nothing is assumed. -/
import Derived.Laws.CopyOwn
import Derived.Deep.RegionLaw
import Derived.Deep.RegionHeld3
import Derived.Deep.DrawnRows
import Derived.Test.YtgeiemccjionpaaGreatMg06
import Derived.Test.YtgeiemccjionpaaGreatMg12
/- DRep -/
namespace Go.Proofs.YtgeiemccjionpaaGreat.Dsk
open Go.RowKit
attribute [local go_sem ↓] Go.wp_at_zero Go.wp_at_succ

theorem Tryz.info9 : (Tryz.prog.info? 9).map (fun i => (i.zero, i.size, i.bytes)) = some (some (.string ⟨#[]⟩), 1, 16) := by kernel_rfl
theorem Tryz.size9 : (Tryz.prog.info? 9).map (·.size) = some 1 := by kernel_rfl

theorem rep_src (b : Nat) (s : ByteArray) (Z : List Value) (w : World) (hb : b < w.heap.size) (hc : w.cell? ⟨b, 0, none⟩ = some (.string s)) :
    0 < [Value.string s].length → some (⟨w.heap.size, 0, none⟩ : Addr) = some ⟨w.heap.size, 0, none⟩ ∧ ∃ ad, some (⟨b, 0, none⟩ : Addr) = some ad ∧ ∀ j v, [Value.string s][j]? = some v → (w.alloc (.cells Z.toArray 9)).cell? (ad.add j) = some v := by
  intro _
  refine ⟨rfl, ⟨b, 0, none⟩, rfl, ?_⟩
  intro j v hj
  match j, hj with
  | 0, hj =>
    simp at hj
    subst hj
    exact (World.cell?_alloc_lt w _ ⟨b, 0, none⟩ hb).trans hc

theorem rep_src2 (s : ByteArray) (k _n m : Nat) (L : List Value) (g : Nat) (w : World) (hg : w.heap[g]? = some (.cells L.toArray 9 (0, 0))) (hL : L.take k = List.replicate k (.string s)) (cs : List Value) (hcs : cs = List.replicate m (.string s)) (hm : m ≤ k) :
    0 < cs.length → some (⟨g, k, none⟩ : Addr) = some ⟨g, k, none⟩ ∧ ∃ ad, some (⟨g, 0, none⟩ : Addr) = some ad ∧ ∀ j v, cs[j]? = some v → w.cell? (ad.add j) = some v := by
  intro _
  refine ⟨rfl, ⟨g, 0, none⟩, rfl, ?_⟩
  intro j v hj
  subst hcs
  rw [List.getElem?_replicate] at hj
  split at hj
  · rename_i hjm
    rw [Addr.add_lit, cell_of_row w g _ _ _ _ hg]
    have h := congrArg (fun l => l[j]?) hL
    simp only [List.getElem?_take, List.getElem?_replicate] at h
    rw [if_pos (by omega), if_pos (by omega)] at h
    simpa [h] using hj
  · cases hj

theorem rep_take (s : ByteArray) (k m : Nat) (L cs : List Value) (hL : L.take k = List.replicate k (.string s)) (hcs : cs = List.replicate m (.string s)) (hk : k ≤ L.length) : (splice L k cs).take (k + m) = List.replicate (k + m) (.string s) := by
  subst hcs
  have h1 : (L.take k ++ List.replicate m (Value.string s)).length = k + m := by simp; omega
  unfold splice
  rw [← List.append_assoc, List.take_append_of_le_length (by omega), List.take_of_length_le (by omega), hL, List.replicate_append_replicate]

theorem rep_cells (s : ByteArray) (k : Nat) (L : List Value) (hL : L.take k = List.replicate k (.string s)) :
    ∀ (j : Nat) (u : Value), (List.replicate k (Value.string s))[j]? = some u → L.toArray[0 + j]? = some u := by
  intro j u hj
  rw [Nat.zero_add]
  rw [← hL, List.getElem?_take] at hj
  split at hj
  · simpa using hj
  · cases hj

end Go.Proofs.YtgeiemccjionpaaGreat.Dsk
