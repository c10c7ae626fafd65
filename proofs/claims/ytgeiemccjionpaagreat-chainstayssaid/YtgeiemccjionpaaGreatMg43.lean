/- Contracts and plain mathematics that the statement's proof wants: no statement is proved here, nothing is assumed. -/
import Derived.Test.YtgeiemccjionpaaGreatMg19
import Derived.Test.YtgeiemccjionpaaGreatMg42
/- HActs -/
namespace Go.Proofs.YtgeiemccjionpaaGreat.Chn
open Go.ChangeShapes Go.WideShapes Go.Deep Go.RowKit

/-- A deed at texts. -/
structure LK where
  kind : Int
  n : Int
  size : Int
def LK.ok (a : LK) : Prop := (-9223372036854775808 ≤ a.kind ∧ a.kind ≤ 9223372036854775807) ∧ (-9223372036854775808 ≤ a.n ∧ a.n ≤ 9223372036854775807) ∧ 0 ≤ a.size ∧ a.size < 65536
/-- A slice of deeds that came in. -/
def LIn (w : World) (A : Option Addr) (len : Nat) (xs : List LK) : Prop :=
  xs.length = len ∧ (∀ a ∈ xs, a.ok) ∧ (0 < len → ∃ b off, A = some ⟨b, off, none⟩ ∧ b < w.heap.size ∧ ∀ (j : Nat) (a : LK), xs[j]? = some a →
    w.cell? ⟨b, off + j * 3, none⟩ = some (.int .i64 a.kind) ∧ w.cell? ⟨b, off + j * 3 + 1, none⟩ = some (.int .i64 a.n) ∧ w.cell? ⟨b, off + j * 3 + 2, none⟩ = some (.int .u16 a.size))
theorem LIn.below {w w' : World} {A : Option Addr} {len : Nat} {xs : List LK} (h : LIn w A len xs) (hb : Below w.heap.size w w') : LIn w' A len xs :=
  ⟨h.1, h.2.1, fun hp => by
    obtain ⟨b, off, e, hl, hc⟩ := h.2.2 hp
    refine ⟨b, off, e, by have := hb.size; omega, fun j a hj => ?_⟩
    obtain ⟨c0, c1, c2⟩ := hc j a hj
    exact ⟨(hb.cell (p := ⟨b, _, none⟩) hl).trans c0, (hb.cell (p := ⟨b, _, none⟩) hl).trans c1, (hb.cell (p := ⟨b, _, none⟩) hl).trans c2⟩⟩
/-- A deed of it, in any world behind. -/
theorem LIn.at_ {w w' : World} {A : Option Addr} {len : Nat} {xs : List LK} (h : LIn w A len xs) (hb : Below w.heap.size w w') {j : Nat} {a : LK} (hj : xs[j]? = some a) :
    ∃ b off, A = some ⟨b, off, none⟩ ∧ w'.cell? ⟨b, off + j * 3, none⟩ = some (.int .i64 a.kind) ∧ w'.cell? ⟨b, off + j * 3 + 1, none⟩ = some (.int .i64 a.n) ∧ w'.cell? ⟨b, off + j * 3 + 2, none⟩ = some (.int .u16 a.size) := by
  have hl : 0 < len := by have := (List.getElem?_eq_some_iff.1 hj).1; have := h.1; omega
  obtain ⟨b, off, e, _, hc⟩ := (h.below hb).2.2 hl
  exact ⟨b, off, e, hc j a hj⟩
section
variable {H : Type} {enc : TypeId × Value → H} {W : World}
theorem lu16_of {a : Int} (h : (Lit.int .u16 a).wf = true) : 0 ≤ a ∧ a < 65536 := by
  simp [Lit.wf, IntKind.min, IntKind.max, IntKind.bits, IntKind.signed] at h
  omega
set_option maxRecDepth 100000 in
theorem lact_of {n : Nat} {cs : List Value} {x : DataW H × List MemPlace} (h : DataW.trod enc Tryz.prog W 0 (fun _ => true) true n 39 cs = some x) :
    ∃ a : LK, cs = [.int .i64 a.kind, .int .i64 a.n, .int .u16 a.size] ∧ a.ok := by
  obtain ⟨y0, y1, y2, m, _, hl, h0, h1, h2⟩ := trod_struct3 Tryz.underlying39 h
  have hc : Tryz.prog.cellsOf 39 = 3 := by kernel_rfl
  have c3 : Tryz.prog.cellsOf 3 = 1 := by kernel_rfl
  have c37 : Tryz.prog.cellsOf 37 = 1 := by kernel_rfl
  rw [hc] at hl
  obtain ⟨v0, v1, v2, rfl⟩ : ∃ v0 v1 v2, cs = [v0, v1, v2] := by
    match cs, hl with
    | [v0, v1, v2], _ => exact ⟨v0, v1, v2, rfl⟩
  simp only [c3, c37] at h0 h1 h2
  obtain ⟨k, e0, _, w0⟩ := DataW.trod_int Tryz.underlying3 h0
  obtain ⟨p, e1, _, w1⟩ := DataW.trod_int Tryz.underlying3 h1
  obtain ⟨t, e2, _, w2⟩ := DataW.trod_int Tryz.underlying37 h2
  simp at e0 e1 e2
  subst e0 e1 e2
  exact ⟨⟨k, p, t⟩, rfl, Dsk.i64_of w0, Dsk.i64_of w1, lu16_of w2⟩

set_option maxRecDepth 100000 in
theorem lacts_of {fuel : Nat} {A : Option Addr} {len cap : Nat} {x : DataW H × List MemPlace} (h : DataW.trod enc Tryz.prog W 0 (fun _ => true) true fuel 22 (Value.cells (.slice A len cap)).toList = some x) :
    ∃ xs, LIn W A len xs ∧ len ≤ 9223372036854775807 := by
  rcases open_slice Tryz.underlying22 h with ⟨hcs, _⟩ | ⟨a, l, c, m, n, D, Pl, hcs, _, hl, hm, hmm, _, hi⟩
  · simp [Value.cells] at hcs
    obtain ⟨rfl, rfl, rfl⟩ := hcs
    exact ⟨[], ⟨rfl, fun _ h => absurd h (by simp), fun h => absurd h (by omega)⟩, by omega⟩
  · simp [Value.cells] at hcs
    obtain ⟨rfl, rfl, rfl⟩ := hcs
    simp only [if_true] at hmm
    have hc : Tryz.prog.cellsOf 39 = 3 := by kernel_rfl
    rw [hc] at hi
    have hex : ∀ i : Nat, ∃ b : LK, i < len → b.ok ∧ W.cell? (a.add (i * 3)) = some (.int .i64 b.kind) ∧ W.cell? ((a.add (i * 3)).add 1) = some (.int .i64 b.n) ∧ W.cell? ((a.add (i * 3)).add 2) = some (.int .u16 b.size) := by
      intro i
      by_cases hil : i < len
      · obtain ⟨cs', hcs', ht⟩ := hi i (by omega)
        obtain ⟨b, rfl, h1⟩ := lact_of ht
        obtain ⟨_, _, hat⟩ := World.cells?_some hcs'
        refine ⟨b, fun _ => ⟨h1, ?_, hat 1 (by omega), hat 2 (by omega)⟩⟩
        have h0 := hat 0 (by omega)
        simpa [Addr.add] using h0
      · exact ⟨⟨0, 0, 0⟩, fun h => absurd h hil⟩
    obtain ⟨f, hf⟩ := Classical.axiomOfChoice hex
    refine ⟨(List.range len).map f, ⟨by simp, ?_, fun hp => ?_⟩, Nat.le_trans hl (Nat.le_trans hm (by decide))⟩
    · intro b hb
      obtain ⟨i, hi', rfl⟩ := List.mem_map.1 hb
      exact (hf i (List.mem_range.1 hi')).1
    · obtain ⟨b, off, spot⟩ := a
      have h0 := (hf 0 hp).2.1
      have hspot : spot = none := by simpa [Addr.add] using World.cell?_spot h0
      subst hspot
      refine ⟨b, off, rfl, World.block_lt_of_cell? W _ h0, fun j c hj => ?_⟩
      have hj' : j < len ∧ f j = c := by
        rw [List.getElem?_map] at hj
        by_cases hjl : j < len
        · rw [List.getElem?_range hjl] at hj
          exact ⟨hjl, by simpa using hj⟩
        · rw [List.getElem?_eq_none (by simp; omega)] at hj
          cases hj
      obtain ⟨hjl, rfl⟩ := hj'
      have e : ∀ q : Nat, (⟨b, off, none⟩ : Addr).add q = ⟨b, off + q, none⟩ := fun q => by
        unfold Addr.add
        split
        · rename_i h; subst h; rfl
        · rfl
      have e' : ∀ r q : Nat, (⟨b, r, none⟩ : Addr).add q = ⟨b, r + q, none⟩ := fun r q => by
        unfold Addr.add
        split
        · rename_i h; subst h; rfl
        · rfl
      have hh := (hf j hjl).2
      simp only [e, e'] at hh
      exact hh
end
end Go.Proofs.YtgeiemccjionpaaGreat.Chn

/- HOpen -/
namespace Go.Proofs.YtgeiemccjionpaaGreat.Chn
open Go.ChangeShapes Go.WideShapes Go.Deep Go.RowKit

theorem u16_of {a : Int} (h : (Lit.int .u16 a).wf = true) : ∃ n : Nat, a = n ∧ n < 65536 := by
  obtain ⟨h1, h2⟩ := lu16_of h
  exact ⟨a.toNat, by omega, by omega⟩
theorem list2 {α : Type} (l : List α) (h : (⟨l⟩ : Array α).size = 2) : ∃ a b, l = [a, b] := by
  match l, h with
  | [a, b], _ => exact ⟨a, b, rfl⟩
/-- A slice of numbers of sixteen bits that came in. -/
def UIn (w : World) (A : Option Addr) (len : Nat) (xs : List Int) : Prop :=
  xs.length = len ∧ (∀ a ∈ xs, 0 ≤ a ∧ a < 65536) ∧ (0 < len → ∃ b off, A = some ⟨b, off, none⟩ ∧ b < w.heap.size ∧ ∀ (j : Nat) (a : Int), xs[j]? = some a → w.cell? ⟨b, off + j, none⟩ = some (.int .u16 a))
theorem UIn.at_ {w w' : World} {A : Option Addr} {len : Nat} {xs : List Int} (h : UIn w A len xs) (hb : Below w.heap.size w w') {j : Nat} {a : Int} (hj : xs[j]? = some a) :
    ∃ b off, A = some ⟨b, off, none⟩ ∧ w'.cell? ⟨b, off + j, none⟩ = some (.int .u16 a) := by
  have hl : 0 < len := by have := (List.getElem?_eq_some_iff.1 hj).1; have := h.1; omega
  obtain ⟨b, off, e, hbl, hc⟩ := h.2.2 hl
  exact ⟨b, off, e, (hb.cell (p := ⟨b, _, none⟩) hbl).trans (hc j a hj)⟩
section
variable {H : Type} {enc : TypeId × Value → H} {W : World}

set_option maxRecDepth 100000 in
theorem u16s_of {fuel : Nat} {A : Option Addr} {len cap : Nat} {x : DataW H × List MemPlace} (h : DataW.trod enc Tryz.prog W 0 (fun _ => true) true fuel 59 (Value.cells (.slice A len cap)).toList = some x) :
    ∃ xs, UIn W A len xs ∧ len ≤ 9223372036854775807 := by
  rcases open_slice Tryz.underlying59 h with ⟨hcs, _⟩ | ⟨a, l, c, m, n, D, Pl, hcs, _, hl, hm, hmm, _, hi⟩
  · simp [Value.cells] at hcs
    obtain ⟨rfl, rfl, rfl⟩ := hcs
    exact ⟨[], ⟨rfl, fun _ h => absurd h (by simp), fun h => absurd h (by omega)⟩, by omega⟩
  · simp [Value.cells] at hcs
    obtain ⟨rfl, rfl, rfl⟩ := hcs
    simp only [if_true] at hmm
    have hc : Tryz.prog.cellsOf 37 = 1 := by kernel_rfl
    rw [hc] at hi
    have hex : ∀ i : Nat, ∃ b : Int, i < len → (0 ≤ b ∧ b < 65536) ∧ W.cell? (a.add (i * 1)) = some (.int .u16 b) := by
      intro i
      by_cases hil : i < len
      · obtain ⟨cs', hcs', ht⟩ := hi i (by omega)
        obtain ⟨k, e0, _, w0⟩ := DataW.trod_int Tryz.underlying37 ht
        obtain ⟨_, _, hat⟩ := World.cells?_some hcs'
        subst e0
        refine ⟨k, fun _ => ⟨lu16_of w0, ?_⟩⟩
        have h0 := hat 0 (by omega)
        simpa [Addr.add] using h0
      · exact ⟨0, fun h => absurd h hil⟩
    obtain ⟨f, hf⟩ := Classical.axiomOfChoice hex
    refine ⟨(List.range len).map f, ⟨by simp, ?_, fun hp => ?_⟩, Nat.le_trans hl (Nat.le_trans hm (by decide))⟩
    · intro b hb
      obtain ⟨i, hi', rfl⟩ := List.mem_map.1 hb
      exact (hf i (List.mem_range.1 hi')).1
    · obtain ⟨b, off, spot⟩ := a
      have h0 := (hf 0 hp).2
      have hspot : spot = none := by simpa [Addr.add] using World.cell?_spot h0
      subst hspot
      refine ⟨b, off, rfl, World.block_lt_of_cell? W _ h0, fun j c hj => ?_⟩
      have hj' : j < len ∧ f j = c := by
        rw [List.getElem?_map] at hj
        by_cases hjl : j < len
        · rw [List.getElem?_range hjl] at hj
          exact ⟨hjl, by simpa using hj⟩
        · rw [List.getElem?_eq_none (by simp; omega)] at hj
          cases hj
      obtain ⟨hjl, rfl⟩ := hj'
      have e : ∀ q : Nat, (⟨b, off, none⟩ : Addr).add q = ⟨b, off + q, none⟩ := fun q => by
        unfold Addr.add
        split
        · rename_i h; subst h; rfl
        · rfl
      have hh := (hf j hjl).2
      simp only [e, Nat.mul_one] at hh
      exact hh
end
end Go.Proofs.YtgeiemccjionpaaGreat.Chn
