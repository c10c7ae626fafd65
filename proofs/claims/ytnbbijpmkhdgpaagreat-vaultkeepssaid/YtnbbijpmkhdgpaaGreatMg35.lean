/- Contracts and plain mathematics that the statement's proof wants: no statement is proved here, nothing is assumed. -/
import Derived.Lib.SmallJoins
import Derived.Test.YtnbbijpmkhdgpaaGreatMg13
/- DOpen -/
namespace Go.Proofs.YtnbbijpmkhdgpaaGreat.Dsk
open Go.ChangeShapes Go.WideShapes Go.Deep Go.RowKit

theorem own : ownKnob Tryz.prog.godebug = none := by kernel_rfl
theorem laidOut : laidOutB Tryz.prog = true := by kernel_rfl

theorem i64_of {a : Int} (h : (Lit.int .i64 a).wf = true) : -9223372036854775808 ≤ a ∧ a ≤ 9223372036854775807 := by
  simp [Lit.wf, IntKind.min, IntKind.max, IntKind.bits, IntKind.signed] at h
  exact h

theorem u8_of {a : Int} (h : (Lit.int .u8 a).wf = true) : ∃ n : Nat, a = n ∧ n < 256 := by
  simp [Lit.wf, IntKind.min, IntKind.max, IntKind.bits, IntKind.signed] at h
  exact ⟨a.toNat, by omega, by omega⟩

theorem u64_of {a : Int} (h : (Lit.int .u64 a).wf = true) : ∃ n : Nat, a = n ∧ n < 18446744073709551616 := by
  simp [Lit.wf, IntKind.min, IntKind.max, IntKind.bits, IntKind.signed] at h
  exact ⟨a.toNat, by omega, by omega⟩

section
variable {H : Type} {enc : TypeId × Value → H} {W : World}


set_option maxRecDepth 100000 in
theorem act_of {n : Nat} {cs : List Value} {x : DataW H × List MemPlace} (h : DataW.trod enc Tryz.prog W 0 (fun _ => true) true n 42 cs = some x) :
    ∃ a : AK, cs = [.int .i64 a.kind, .int .i64 a.place, .string a.data, .int .u64 a.stay] ∧ a.stay < 18446744073709551616 ∧ a.place ≤ 9223372036854775807 := by
  obtain ⟨y0, y1, y2, y3, m, _, hl, h0, h1, h2, h3⟩ := Go.Joins.trod_struct4 Tryz.underlying42 h
  have hc : Tryz.prog.cellsOf 42 = 4 := by kernel_rfl
  have c3 : Tryz.prog.cellsOf 3 = 1 := by kernel_rfl
  have c9 : Tryz.prog.cellsOf 9 = 1 := by kernel_rfl
  have c33 : Tryz.prog.cellsOf 40 = 1 := by kernel_rfl
  rw [hc] at hl
  obtain ⟨v0, v1, v2, v3, rfl⟩ : ∃ v0 v1 v2 v3, cs = [v0, v1, v2, v3] := by
    match cs, hl with
    | [v0, v1, v2, v3], _ => exact ⟨v0, v1, v2, v3, rfl⟩
  simp only [c3, c9, c33] at h0 h1 h2 h3
  obtain ⟨k, e0, _, w0⟩ := DataW.trod_int Tryz.underlying3 h0
  obtain ⟨p, e1, _, w1⟩ := DataW.trod_int Tryz.underlying3 h1
  obtain ⟨s, e2, _, _⟩ := DataW.trod_string Tryz.underlying9 h2
  obtain ⟨t, e3, _, w3⟩ := DataW.trod_int Tryz.underlying40 h3
  simp at e0 e1 e2 e3
  subst e0 e1 e2 e3
  obtain ⟨q, rfl, hq⟩ := u64_of w3
  exact ⟨⟨k, p, s, q⟩, rfl, hq, (i64_of w1).2⟩


set_option maxRecDepth 100000 in
theorem acts_of {fuel : Nat} {A : Option Addr} {len cap : Nat} {x : DataW H × List MemPlace} (h : DataW.trod enc Tryz.prog W 0 (fun _ => true) true fuel 22 (Value.cells (.slice A len cap)).toList = some x) :
    ∃ xs, ActIn W A len xs ∧ len ≤ 9223372036854775807 := by
  rcases open_slice Tryz.underlying22 h with ⟨hcs, _⟩ | ⟨a, l, c, m, n, D, Pl, hcs, _, hl, hm, hmm, _, hi⟩
  · simp [Value.cells] at hcs
    obtain ⟨rfl, rfl, rfl⟩ := hcs
    exact ⟨[], ⟨rfl, fun _ h => absurd h (by simp), fun h => absurd h (by omega)⟩, by omega⟩
  · simp [Value.cells] at hcs
    obtain ⟨rfl, rfl, rfl⟩ := hcs
    simp only [if_true] at hmm
    have hc : Tryz.prog.cellsOf 42 = 4 := by kernel_rfl
    rw [hc] at hi
    have hex : ∀ i : Nat, ∃ b : AK, i < len → (b.stay < 18446744073709551616 ∧ b.place ≤ 9223372036854775807) ∧ W.cell? (a.add (i * 4)) = some (.int .i64 b.kind) ∧ W.cell? ((a.add (i * 4)).add 1) = some (.int .i64 b.place) ∧ W.cell? ((a.add (i * 4)).add 2) = some (.string b.data) ∧ W.cell? ((a.add (i * 4)).add 3) = some (.int .u64 b.stay) := by
      intro i
      by_cases hil : i < len
      · obtain ⟨cs', hcs', ht⟩ := hi i (by omega)
        obtain ⟨b, rfl, h1, h2⟩ := act_of ht
        obtain ⟨_, _, hat⟩ := World.cells?_some hcs'
        refine ⟨b, fun _ => ⟨⟨h1, h2⟩, ?_, hat 1 (by omega), hat 2 (by omega), hat 3 (by omega)⟩⟩
        have h0 := hat 0 (by omega)
        simpa [Addr.add] using h0
      · exact ⟨⟨0, 0, ⟨#[]⟩, 0⟩, fun h => absurd h hil⟩
    obtain ⟨f, hf⟩ := Classical.axiomOfChoice hex
    refine ⟨(List.range len).map f, ⟨by simp, ?_, fun hp => ?_⟩, Nat.le_trans hl (Nat.le_trans hm (by decide))⟩
    · intro b hb
      obtain ⟨i, hi', rfl⟩ := List.mem_map.1 hb
      exact (hf i (List.mem_range.1 hi')).1
    · obtain ⟨b, off, spot⟩ := a
      have h0 := (hf 0 hp).2.1
      have hspot : spot = none := by simpa [Addr.add] using World.cell?_spot h0
      subst hspot
      refine ⟨b, off, rfl, World.block_lt_of_cell? W _ h0, fun j c hj => ?_⟩
      have hj' : j < len ∧ f j = c := by
        rw [List.getElem?_map] at hj
        by_cases hjl : j < len
        · rw [List.getElem?_range hjl] at hj
          exact ⟨hjl, by simpa using hj⟩
        · rw [List.getElem?_eq_none (by simp; omega)] at hj
          cases hj
      obtain ⟨hjl, rfl⟩ := hj'
      have e : ∀ q : Nat, (⟨b, off, none⟩ : Addr).add q = ⟨b, off + q, none⟩ := fun q => by
        unfold Addr.add
        split
        · rename_i h; subst h; rfl
        · rfl
      have e' : ∀ r q : Nat, (⟨b, r, none⟩ : Addr).add q = ⟨b, r + q, none⟩ := fun r q => by
        unfold Addr.add
        split
        · rename_i h; subst h; rfl
        · rfl
      have hh := (hf j hjl).2
      simp only [e, e'] at hh
      exact hh
end

end Go.Proofs.YtnbbijpmkhdgpaaGreat.Dsk
