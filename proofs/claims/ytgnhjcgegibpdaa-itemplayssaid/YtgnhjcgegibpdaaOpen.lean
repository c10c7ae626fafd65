/- Items that came in, opened. No statement is proved here. -/
import Derived.Test.YtgnhjcgegibpdaaAwake
import Derived.ProofKit
import Derived.OpenShut
import Derived.ShutString
import Derived.ChangeOld
import Derived.Below
import Derived.SizedLaws
import Derived.Lib.SmallJoins
namespace Go.Proofs.Ytgnhjcgegibpdaa
open Go.ChangeShapes Go.WideShapes Go.Deep Go.RowKit

theorem own : ownKnob Try.prog.godebug = none := by kernel_rfl
theorem laidOut : laidOutB Try.prog = true := by kernel_rfl

/-- Its texts lie within the reach. -/
def Sz (x : It) : Prop := x.key.length ≤ 1000000000000000 ∧ x.mt.length ≤ 1000000000000000 ∧ x.tag.length ≤ 1000000000000000 ∧ x.body.length ≤ 1000000000000000

def itD {H : Type} (x : It) : DataW H := .agg [.lit (.string x.key), .lit (.int .i64 x.seq), .lit (.int .i64 x.ver), .lit (.bool x.mark), .lit (.string x.mt), .lit (.string x.tag), .lit (.string x.body)]

section
variable {H : Type} {enc : TypeId × Value → H} {W : World}

/-- One item, by its seven cells. -/
theorem it_of {n : Nat} {cs : List Value} {x : DataW H × List MemPlace} (h : DataW.trod enc Try.prog W 0 (fun _ => true) true n 24 cs = some x) :
    ∃ a : It, cs = itC a ∧ x.1 = itD a := by
  obtain ⟨xs, m, _, rfl, hl, hlen, hf⟩ := DataW.trod_struct Try.underlying24 h
  have hc : Try.prog.cellsOf 24 = 7 := by kernel_rfl
  have c3 : Try.prog.cellsOf 3 = 1 := by kernel_rfl
  have c4 : Try.prog.cellsOf 4 = 1 := by kernel_rfl
  have c9 : Try.prog.cellsOf 9 = 1 := by kernel_rfl
  rw [hc] at hl
  obtain ⟨v0, v1, v2, v3, v4, v5, v6, rfl⟩ : ∃ v0 v1 v2 v3 v4 v5 v6, cs = [v0, v1, v2, v3, v4, v5, v6] := by
    match cs, hl with
    | [v0, v1, v2, v3, v4, v5, v6], _ => exact ⟨v0, v1, v2, v3, v4, v5, v6, rfl⟩
  match xs, hlen with
  | [y0, y1, y2, y3, y4, y5, y6], _ =>
    have h0 : DataW.trod enc Try.prog W 0 (fun _ => true) true m 9 (([v0, v1, v2, v3, v4, v5, v6].drop 0).take (Try.prog.cellsOf 9)) = some y0 := hf 0 _ rfl
    have h1 : DataW.trod enc Try.prog W 0 (fun _ => true) true m 3 (([v0, v1, v2, v3, v4, v5, v6].drop 1).take (Try.prog.cellsOf 3)) = some y1 := hf 1 _ rfl
    have h2 : DataW.trod enc Try.prog W 0 (fun _ => true) true m 3 (([v0, v1, v2, v3, v4, v5, v6].drop 2).take (Try.prog.cellsOf 3)) = some y2 := hf 2 _ rfl
    have h3 : DataW.trod enc Try.prog W 0 (fun _ => true) true m 4 (([v0, v1, v2, v3, v4, v5, v6].drop 3).take (Try.prog.cellsOf 4)) = some y3 := hf 3 _ rfl
    have h4 : DataW.trod enc Try.prog W 0 (fun _ => true) true m 9 (([v0, v1, v2, v3, v4, v5, v6].drop 4).take (Try.prog.cellsOf 9)) = some y4 := hf 4 _ rfl
    have h5 : DataW.trod enc Try.prog W 0 (fun _ => true) true m 9 (([v0, v1, v2, v3, v4, v5, v6].drop 5).take (Try.prog.cellsOf 9)) = some y5 := hf 5 _ rfl
    have h6 : DataW.trod enc Try.prog W 0 (fun _ => true) true m 9 (([v0, v1, v2, v3, v4, v5, v6].drop 6).take (Try.prog.cellsOf 9)) = some y6 := hf 6 _ rfl
    simp only [c3, c4, c9] at h0 h1 h2 h3 h4 h5 h6
    obtain ⟨s0, e0, f0, _⟩ := DataW.trod_string Try.underlying9 h0
    obtain ⟨s1, e1, f1, _⟩ := DataW.trod_int Try.underlying3 h1
    obtain ⟨s2, e2, f2, _⟩ := DataW.trod_int Try.underlying3 h2
    obtain ⟨s3, e3, f3⟩ := DataW.trod_bool Try.underlying4 h3
    obtain ⟨s4, e4, f4, _⟩ := DataW.trod_string Try.underlying9 h4
    obtain ⟨s5, e5, f5, _⟩ := DataW.trod_string Try.underlying9 h5
    obtain ⟨s6, e6, f6, _⟩ := DataW.trod_string Try.underlying9 h6
    simp at e0 e1 e2 e3 e4 e5 e6
    subst e0 e1 e2 e3 e4 e5 e6
    refine ⟨⟨s0.data.toList, s1, s2, s3, s4.data.toList, s5.data.toList, s6.data.toList⟩, ?_, ?_⟩
    · simp only [itC, strB_of]
    · simp [itD, f0, f1, f2, f3, f4, f5, f6]

theorem sz_of {a : It} (hR : ∀ n ∈ (itD a : DataW H).weights Try.prog 24, n ≤ reachBytes) : Sz a := by
  have hr : reachBytes ≤ 1000000000000000 := by decide
  have hw : (itD a : DataW H).weights Try.prog 24 = [a.key.length, a.mt.length, a.tag.length, a.body.length] := by
    simp [itD, DataW.weights, Try.underlying24, DataW.weightsEach]
  rw [hw] at hR
  exact ⟨Nat.le_trans (hR _ (by simp)) hr, Nat.le_trans (hR _ (by simp)) hr, Nat.le_trans (hR _ (by simp)) hr, Nat.le_trans (hR _ (by simp)) hr⟩

theorem weightsAll_mem {P : Program} {e : TypeId} : ∀ {l : List (DataW H)} {d : DataW H}, d ∈ l → ∀ n ∈ d.weights P e, n ∈ DataW.weightsAll P e l
  | x :: l, d, hd, n, hn => by
    simp only [DataW.weightsAll, List.mem_append]
    rcases List.mem_cons.1 hd with rfl | h
    · exact Or.inl hn
    · exact Or.inr (weightsAll_mem h n hn)

/-- A slice of items that came in. -/
theorem its_of {fuel : Nat} {A : Option Addr} {len cap : Nat} {d : DataW H} {p : List MemPlace} (h : DataW.trod enc Try.prog W 0 (fun _ => true) true fuel 22 (Value.cells (.slice A len cap)).toList = some (d, p))
    (hR : ∀ n ∈ d.weights Try.prog 22, n ≤ reachBytes) :
    ∃ l, Its W (.slice A len cap) l ∧ l.length ≤ 9223372036854775000 ∧ ∀ x ∈ l, Sz x := by
  rcases open_slice Try.underlying22 h with ⟨hcs, _⟩ | ⟨a, l, c, m, n, D, Pl, hcs, _, hl, hm, hmm, hx, hi⟩
  · simp [Value.cells] at hcs
    obtain ⟨rfl, rfl, rfl⟩ := hcs
    exact ⟨[], Its.nil _, by simp, fun _ h => absurd h (by simp)⟩
  · simp [Value.cells] at hcs
    obtain ⟨rfl, rfl, rfl⟩ := hcs
    simp only [if_true] at hmm
    have hc : Try.prog.cellsOf 24 = 7 := by kernel_rfl
    rw [hc] at hi
    have hd : d = .slice ((List.range len).map D) ((List.range (m - len)).map fun j => D (len + j)) := congrArg Prod.fst hx
    have hlen : len ≤ 9223372036854775000 := by
      have h1 := hR ((((List.range len).map D).length + ((List.range (m - len)).map fun j => D (len + j)).length) * Try.prog.bytesOf 24) (by rw [hd]; simp [DataW.weights, Try.underlying22])
      have hb : Try.prog.bytesOf 24 = 88 := by kernel_rfl
      have hr : reachBytes ≤ 1000000000000000 := by decide
      rw [hb] at h1
      simp only [List.length_map, List.length_range] at h1
      omega
    have hex : ∀ i : Nat, ∃ b : It, i < len → Sz b ∧ ∀ f, f < 7 → W.cell? ((a.add (i * 7)).add f) = (itC b)[f]? := by
      intro i
      by_cases hil : i < len
      · obtain ⟨cs', hcs', ht⟩ := hi i (by omega)
        obtain ⟨b, rfl, hb⟩ := it_of ht
        obtain ⟨_, _, hat⟩ := World.cells?_some hcs'
        refine ⟨b, fun _ => ⟨sz_of (H := H) fun n hn => hR n ?_, fun f hf => ?_⟩⟩
        · rw [hd]
          simp only [DataW.weights, Try.underlying22, List.mem_cons, List.mem_append]
          refine Or.inr (Or.inl (weightsAll_mem (d := D i) (List.mem_map.2 ⟨i, List.mem_range.2 hil, rfl⟩) n ?_))
          rw [show D i = itD b from hb]
          exact hn
        · exact hat f hf
      · exact ⟨⟨[], 0, 0, false, [], [], []⟩, fun h => absurd h hil⟩
    obtain ⟨f, hf⟩ := Classical.axiomOfChoice hex
    have hll : ((List.range len).map f).length = len := by simp
    refine ⟨(List.range len).map f, ⟨some a, cap, by rw [hll], by rw [hll]; exact hl, fun hp => ?_⟩, by rw [hll]; exact hlen, ?_⟩
    · rw [hll] at hp
      obtain ⟨b, off, spot⟩ := a
      have h0 := (hf 0 hp).2 0 (by omega)
      have hspot : spot = none := by
        have h0' : W.cell? (((⟨b, off, spot⟩ : Addr).add (0 * 7)).add 0) = some (.string (strB (f 0).key)) := h0
        simpa [Addr.add] using World.cell?_spot h0'
      subst hspot
      refine ⟨b, off, rfl, ?_, fun j x hj => ?_⟩
      · have h0' : W.cell? (((⟨b, off, none⟩ : Addr).add (0 * 7)).add 0) = some (.string (strB (f 0).key)) := h0
        have := World.block_lt_of_cell? W _ h0'
        simpa [Addr.add] using this
      · have hj' : j < len ∧ f j = x := by
          rw [List.getElem?_map] at hj
          by_cases hjl : j < len
          · rw [List.getElem?_range hjl] at hj
            exact ⟨hjl, by simpa using hj⟩
          · rw [List.getElem?_eq_none (by simp; omega)] at hj
            cases hj
        obtain ⟨hjl, rfl⟩ := hj'
        have e' : ∀ r q : Nat, (⟨b, r, none⟩ : Addr).add q = ⟨b, r + q, none⟩ := fun r q => by
          unfold Addr.add
          split
          · rename_i h; subst h; rfl
          · rfl
        have hh := (hf j hjl).2
        simp only [e'] at hh
        exact ⟨hh 0 (by omega), hh 1 (by omega), hh 2 (by omega), hh 3 (by omega), hh 4 (by omega), hh 5 (by omega), hh 6 (by omega)⟩
    · intro x hx
      obtain ⟨i, hi', rfl⟩ := List.mem_map.1 hx
      exact (hf i (List.mem_range.1 hi')).1

/-- An item that came in by value. -/
theorem itv_of {base : Nat} {v : Value} {d : DataW H} {p : List MemPlace} (hv : Value.okWide Try.prog W .any base 24 v) (h : ∃ fuel, DataW.trod enc Try.prog W 0 (fun _ => true) true fuel 24 (Value.cells v).toList = some (d, p))
    (hR : ∀ n ∈ d.weights Try.prog 24, n ≤ reachBytes) : ∃ x, v = itV x ∧ Sz x := by
  obtain ⟨cs, rfl, _, _⟩ : ∃ cs, v = .agg cs ∧ cs.size = Try.prog.cellsOf 24 ∧ Row.okWide Try.prog W .any base 24 cs := by
    simpa [Value.okWide, Try.underlying24] using hv
  obtain ⟨fuel, hf⟩ := h
  obtain ⟨x, hx, hd⟩ := it_of hf
  refine ⟨x, ?_, sz_of (H := H) fun n hn => hR n ?_⟩
  · have : cs.toList = itC x := hx
    obtain ⟨l⟩ := cs
    have e : l = itC x := this
    rw [e]
    rfl
  · rw [show d = itD x from hd]
    exact hn
end

end Go.Proofs.Ytgnhjcgegibpdaa
