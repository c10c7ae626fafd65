/- Texts that came in as a slice. No statement is proved here. -/
import Derived.Test.YtgcinbkecgfmbaaDoorJoin
import Derived.SliceStrings
import Derived.SizedLaws
namespace Go.Proofs.YtgcinbkecgfmbaaDoor
open Go.ChangeShapes Go.WideShapes Go.ChangeAt Go.RowKit

/-- The texts ls came in as a slice: so many, none longer than the reach. -/
structure Came (w : World) (A : Option Addr) (len : Nat) (ls : List (List UInt8)) : Prop where
  lie : StrsIn w A ls
  many : ls.length = len
  most : len ≤ 9223372036854775807
  each : ∀ j, j < len → (ls.getD j []).length ≤ 140737488351232

theorem flat_le (ls : List (List UInt8)) (k : Nat) (hk : k ≤ ls.length) (h : ∀ j, j < ls.length → (ls.getD j []).length ≤ 140737488351232) : (ls.take k).flatten.length ≤ k * 140737488351232 := by
  induction k with
  | zero => simp
  | succ k ih =>
    have h1 := ih (by omega)
    have h2 := h k (by omega)
    rw [flat_take ls k (by omega), List.length_append]
    omega

theorem weightsAll_mem {H : Type} {P : Program} {e : TypeId} : ∀ {l : List (DataW H)} {d : DataW H}, d ∈ l → ∀ n ∈ d.weights P e, n ∈ DataW.weightsAll P e l
  | x :: l, d, hd, n, hn => by
    simp only [DataW.weightsAll, List.mem_append]
    rcases List.mem_cons.1 hd with rfl | h
    · exact Or.inl hn
    · exact Or.inr (weightsAll_mem h n hn)

theorem strs_of {H : Type} {enc : TypeId × Value → H} {W : World} {a : Option Addr} {len cap : Nat} {d : DataW H} {p : List MemPlace}
    (h : ∃ fuel, DataW.trod enc Tryd.prog W 0 (fun _ => true) true fuel 22 (Value.cells (.slice a len cap)).toList = some (d, p))
    (hR : ∀ n ∈ d.weights Tryd.prog 22, n ≤ reachBytes) : ∃ ls, Came W a len ls := by
  obtain ⟨fuel, hf⟩ := h
  rcases open_strings Tryd.underlying22 Tryd.underlying9 (by kernel_rfl) hf with ⟨hcs, _⟩ | ⟨x, l, c, ss, hcs, _, hl, hm, hz, hx, hcell, hwz⟩
  · simp [Value.cells] at hcs
    obtain ⟨rfl, rfl, rfl⟩ := hcs
    exact ⟨[], fun h => absurd h (by decide), rfl, by omega, fun j hj => absurd hj (by omega)⟩
  · simp [Value.cells] at hcs
    obtain ⟨rfl, rfl, rfl⟩ := hcs
    simp only [if_true] at hz
    have hd : d = .slice (strs (ss.take len)) (strs (ss.drop len)) := congrArg Prod.fst hx
    have hlen : ((ss.take len).map fun s : ByteArray => s.data.toList).length = len := by simp; omega
    have hat : ∀ j, j < len → ∃ s, ss[j]? = some s ∧ ((ss.take len).map fun s : ByteArray => s.data.toList).getD j [] = s.data.toList := by
      intro j hj
      have hj2 : j < ss.length := by omega
      refine ⟨ss[j], List.getElem?_eq_getElem hj2, ?_⟩
      rw [List.getD_eq_getElem?_getD, List.getElem?_map, List.getElem?_take, if_pos hj, List.getElem?_eq_getElem hj2]
      rfl
    refine ⟨(ss.take len).map fun s : ByteArray => s.data.toList, ?_, hlen, Nat.le_trans hl (Nat.le_trans hm (by decide)), ?_⟩
    · intro hp
      obtain ⟨b, off, spot⟩ := x
      have hc := hcell 0 (by omega)
      have hspot : spot = none := by simpa [Addr.add] using World.cell?_spot hc
      subst hspot
      refine ⟨b, off, rfl, World.block_lt_of_cell? W _ hc, ?_⟩
      intro j hj
      rw [hlen] at hj
      obtain ⟨s, hs, he⟩ := hat j hj
      have hc := hcell j (by omega)
      have hg : ss.getD j ByteArray.empty = s := by simp [List.getD_eq_getElem?_getD, hs]
      rw [hg] at hc
      rw [he, strB_of]
      rw [Addr.add] at hc
      split at hc
      · rename_i hz
        obtain rfl : j = 0 := by simpa using hz
        exact hc
      · exact hc
    · intro j hj
      obtain ⟨s, hs, he⟩ := hat j hj
      rw [he]
      have hmem : (DataW.lit (.string s.data.toList) : DataW H) ∈ strs (ss.take len) := by
        unfold strs
        refine List.mem_map.2 ⟨s, ?_, rfl⟩
        rw [List.mem_iff_getElem?]
        exact ⟨j, by rw [List.getElem?_take, if_pos hj]; exact hs⟩
      have := hR s.data.toList.length (by
        rw [hd]
        simp only [DataW.weights, Tryd.underlying22, List.mem_cons, List.mem_append]
        exact Or.inr (Or.inl (weightsAll_mem hmem _ (by simp [DataW.weights]))))
      exact this
end Go.Proofs.YtgcinbkecgfmbaaDoor
