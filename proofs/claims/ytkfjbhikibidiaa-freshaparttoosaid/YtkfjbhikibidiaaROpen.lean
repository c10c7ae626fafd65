/- Records that came in, opened. No statement is proved here. -/
import Derived.Test.YtkfjbhikibidiaaRSame
import Derived.Test.YtkfjbhikibidiaaIOpen
namespace Go.Proofs.Ytkfjbhikibidiaa
open Go.ChangeShapes Go.WideShapes Go.Deep Go.RowKit
open Itm (It itC itD it_of sz_of weightsAll_mem Sz)

section
variable {H : Type} {enc : TypeId × Value → H} {W : World}

set_option maxRecDepth 100000 in
/-- One run, by its two cells. -/
theorem span_of {n : Nat} {cs : List Value} {x : DataW H × List MemPlace} (h : DataW.trod enc Try.prog W 0 (fun _ => true) true n 41 cs = some x) :
    ∃ a : Int × Int, cs = [.int .i64 a.1, .int .i64 a.2] := by
  obtain ⟨xs, m, _, rfl, hl, hlen, hf⟩ := DataW.trod_struct Try.underlying41 h
  have hc : Try.prog.cellsOf 41 = 2 := by kernel_rfl
  have c3 : Try.prog.cellsOf 3 = 1 := by kernel_rfl
  rw [hc] at hl
  obtain ⟨v0, v1, rfl⟩ : ∃ v0 v1, cs = [v0, v1] := by
    match cs, hl with
    | [v0, v1], _ => exact ⟨v0, v1, rfl⟩
  match xs, hlen with
  | [y0, y1], _ =>
    have h0 : DataW.trod enc Try.prog W 0 (fun _ => true) true m 3 (([v0, v1].drop 0).take (Try.prog.cellsOf 3)) = some y0 := hf 0 _ rfl
    have h1 : DataW.trod enc Try.prog W 0 (fun _ => true) true m 3 (([v0, v1].drop 1).take (Try.prog.cellsOf 3)) = some y1 := hf 1 _ rfl
    simp only [c3] at h0 h1
    obtain ⟨s0, e0, f0, _⟩ := DataW.trod_int Try.underlying3 h0
    obtain ⟨s1, e1, f1, _⟩ := DataW.trod_int Try.underlying3 h1
    simp at e0 e1
    subst e0 e1
    exact ⟨(s0, s1), rfl⟩

set_option maxRecDepth 100000 in
/-- A slice of runs that came in. -/
theorem sps_of {fuel : Nat} {A : Option Addr} {len cap : Nat} {d : DataW H} {p : List MemPlace} (h : DataW.trod enc Try.prog W 0 (fun _ => true) true fuel 24 (Value.cells (.slice A len cap)).toList = some (d, p)) :
    ∃ l, Sps W (.slice A len cap) l := by
  rcases open_slice Try.underlying24 h with ⟨hcs, _⟩ | ⟨a, l, c, m, n, D, Pl, hcs, _, hl, hm, hmm, hx, hi⟩
  · simp [Value.cells] at hcs
    obtain ⟨rfl, rfl, rfl⟩ := hcs
    exact ⟨[], Sps.nil _⟩
  · simp [Value.cells] at hcs
    obtain ⟨rfl, rfl, rfl⟩ := hcs
    simp only [if_true] at hmm
    have hc : Try.prog.cellsOf 41 = 2 := by kernel_rfl
    rw [hc] at hi
    have hex : ∀ i : Nat, ∃ b : Int × Int, i < len → ∀ f, f < 2 → W.cell? ((a.add (i * 2)).add f) = [Value.int .i64 b.1, .int .i64 b.2][f]? := by
      intro i
      by_cases hil : i < len
      · obtain ⟨cs', hcs', ht⟩ := hi i (by omega)
        obtain ⟨b, rfl⟩ := span_of ht
        obtain ⟨_, _, hat⟩ := World.cells?_some hcs'
        exact ⟨b, fun _ f hf => hat f hf⟩
      · exact ⟨(0, 0), fun h => absurd h hil⟩
    obtain ⟨f, hf⟩ := Classical.axiomOfChoice hex
    have hll : ((List.range len).map f).length = len := by simp
    refine ⟨(List.range len).map f, ⟨some a, cap, by rw [hll], by rw [hll]; exact hl, fun hp => ?_⟩⟩
    rw [hll] at hp
    obtain ⟨b, off, spot⟩ := a
    have h0 := hf 0 hp 0 (by omega)
    have hspot : spot = none := by
      have h0' : W.cell? (((⟨b, off, spot⟩ : Addr).add (0 * 2)).add 0) = some (.int .i64 (f 0).1) := h0
      simpa [Addr.add] using World.cell?_spot h0'
    subst hspot
    refine ⟨b, off, rfl, ?_, fun j x hj => ?_⟩
    · have h0' : W.cell? (((⟨b, off, none⟩ : Addr).add (0 * 2)).add 0) = some (.int .i64 (f 0).1) := h0
      have := World.block_lt_of_cell? W _ h0'
      simpa [Addr.add] using this
    · have hj' : j < len ∧ f j = x := by
        rw [List.getElem?_map] at hj
        by_cases hjl : j < len
        · rw [List.getElem?_range hjl] at hj
          exact ⟨hjl, by simpa using hj⟩
        · rw [List.getElem?_eq_none (by simp; omega)] at hj
          cases hj
      obtain ⟨hjl, rfl⟩ := hj'
      have e' : ∀ r q : Nat, (⟨b, r, none⟩ : Addr).add q = ⟨b, r + q, none⟩ := fun r q => by
        unfold Addr.add
        split
        · rename_i h; subst h; rfl
        · rfl
      have hh := hf j hjl
      simp only [e'] at hh
      exact ⟨hh 0 (by omega), hh 1 (by omega)⟩

set_option maxRecDepth 100000 in
/-- A record that came in by value. -/
theorem rec_of {base : Nat} {v : Value} {d : DataW H} {p : List MemPlace} (hv : Value.okWide Try.prog W .any base 26 v) (h : ∃ fuel, DataW.trod enc Try.prog W 0 (fun _ => true) true fuel 26 (Value.cells v).toList = some (d, p))
    (hR : ∀ n ∈ d.weights Try.prog 26, n ≤ reachBytes) : ∃ r A n c, v = recV r (.slice A n c) ∧ Sps W (.slice A n c) r.spans ∧ SzR r := by
  obtain ⟨cs, rfl, hsz, _⟩ : ∃ cs, v = .agg cs ∧ cs.size = Try.prog.cellsOf 26 ∧ Row.okWide Try.prog W .any base 26 cs := by
    simpa [Value.okWide, Try.underlying26] using hv
  obtain ⟨fuel, hf⟩ := h
  obtain ⟨l⟩ := cs
  have hf : DataW.trod enc Try.prog W 0 (fun _ => true) true fuel 26 l = some (d, p) := hf
  obtain ⟨xs, m, _, hd, hl, hlen, hf⟩ := DataW.trod_struct Try.underlying26 hf
  have hc : Try.prog.cellsOf 26 = 9 := by kernel_rfl
  have c3 : Try.prog.cellsOf 3 = 1 := by kernel_rfl
  have c23 : Try.prog.cellsOf 23 = 7 := by kernel_rfl
  have c24 : Try.prog.cellsOf 24 = 1 := by kernel_rfl
  rw [hc] at hl
  obtain ⟨v0, v1, v2, v3, v4, v5, v6, v7, v8, rfl⟩ : ∃ v0 v1 v2 v3 v4 v5 v6 v7 v8, l = [v0, v1, v2, v3, v4, v5, v6, v7, v8] := by
    match l, hl with
    | [v0, v1, v2, v3, v4, v5, v6, v7, v8], _ => exact ⟨v0, v1, v2, v3, v4, v5, v6, v7, v8, rfl⟩
  match xs, hlen with
  | [y0, y1, y2], _ =>
    have h0 : DataW.trod enc Try.prog W 0 (fun _ => true) true m 23 (([v0, v1, v2, v3, v4, v5, v6, v7, v8].drop 0).take (Try.prog.cellsOf 23)) = some y0 := hf 0 _ rfl
    have h1 : DataW.trod enc Try.prog W 0 (fun _ => true) true m 3 (([v0, v1, v2, v3, v4, v5, v6, v7, v8].drop 7).take (Try.prog.cellsOf 3)) = some y1 := hf 1 _ rfl
    have h2 : DataW.trod enc Try.prog W 0 (fun _ => true) true m 24 (([v0, v1, v2, v3, v4, v5, v6, v7, v8].drop 8).take (Try.prog.cellsOf 24)) = some y2 := hf 2 _ rfl
    simp only [c3, c23, c24] at h0 h1 h2
    obtain ⟨it, e0, f0⟩ := it_of h0
    obtain ⟨sz, e1, f1, _⟩ := DataW.trod_int Try.underlying3 h1
    obtain ⟨A, n, c, rfl⟩ : ∃ A n c, v8 = .slice A n c := by
      rcases open_slice Try.underlying24 h2 with ⟨hcs, _⟩ | ⟨a, l, c, m, n, D, Pl, hcs, _⟩
      · simp at hcs
        exact ⟨_, _, _, hcs⟩
      · simp at hcs
        exact ⟨_, _, _, hcs⟩
    obtain ⟨sp, hs⟩ := sps_of (A := A) (len := n) (cap := c) (d := y2.1) (p := y2.2) h2
    refine ⟨⟨it, sz, sp⟩, A, n, c, ?_, hs, ?_⟩
    · simp [itC] at e0
      simp at e1
      obtain ⟨rfl, rfl, rfl, rfl, rfl, rfl, rfl⟩ := e0
      subst e1
      rfl
    · refine sz_of (H := H) fun k hk => hR k ?_
      have hd' : d = .agg [y0.1, y1.1, y2.1] := by simpa using congrArg Prod.fst hd
      rw [hd', f0]
      simp only [DataW.weights, Try.underlying26, DataW.weightsEach, List.map_cons, List.map_nil, List.mem_append]
      exact Or.inl hk
end

end Go.Proofs.Ytkfjbhikibidiaa
