/- Runs in memory: a slice that reads as runs, one of the call's own, a box that holds a run. No statement is proved here. -/
import Derived.Test.YtjlcmmidbeikdaaFree
import Derived.Maps.AppendAt
import Derived.Laws.ResultCell
namespace Go.Proofs.Ytjlcmmidbeikdaa
open Go.RowKit Go.Sort

/-- The slice v reads as the runs l. -/
def Sps (w : World) (v : Value) (l : List (Int × Int)) : Prop :=
  ∃ A c, v = .slice A l.length c ∧ l.length ≤ c ∧ (0 < l.length → ∃ b off, A = some ⟨b, off, none⟩ ∧ b < w.heap.size ∧ ∀ (j : Nat) (x : Int × Int), l[j]? = some x → w.cell? ⟨b, off + j * 2, none⟩ = some (.int .i64 x.1) ∧ w.cell? ⟨b, off + j * 2 + 1, none⟩ = some (.int .i64 x.2))

section
variable {w w' : World} {v : Value} {l : List (Int × Int)}
theorem Sps.below (h : Sps w v l) (hb : Below w.heap.size w w') : Sps w' v l := by
  obtain ⟨A, c, e, hc, hr⟩ := h
  refine ⟨A, c, e, hc, fun hp => ?_⟩
  obtain ⟨b, off, e1, hl, hx⟩ := hr hp
  exact ⟨b, off, e1, Nat.lt_of_lt_of_le hl hb.size, fun j x hj => ⟨(hb.cell (p := ⟨b, off + j * 2, none⟩) hl).trans (hx j x hj).1, (hb.cell (p := ⟨b, off + j * 2 + 1, none⟩) hl).trans (hx j x hj).2⟩⟩
theorem Sps.at_ {A : Option Addr} {n c : Nat} (h : Sps w (.slice A n c) l) : l.length = n ∧ n ≤ c ∧ (0 < n → ∃ b off, A = some ⟨b, off, none⟩ ∧ b < w.heap.size ∧ ∀ (j : Nat) (x : Int × Int), l[j]? = some x → w.cell? ⟨b, off + j * 2, none⟩ = some (.int .i64 x.1) ∧ w.cell? ⟨b, off + j * 2 + 1, none⟩ = some (.int .i64 x.2)) := by
  obtain ⟨A', c', e, hc, hr⟩ := h
  injection e with e1 e2 e3
  subst e1 e2 e3
  exact ⟨rfl, hc, hr⟩
theorem Sps.form (h : Sps w v l) : ∃ A c, v = .slice A l.length c := by
  obtain ⟨A, c, e, _⟩ := h
  exact ⟨A, c, e⟩
theorem Sps.nil (w : World) : Sps w (.slice none 0 0) [] := ⟨none, 0, rfl, Nat.le_refl _, fun h => absurd h (by simp)⟩
/-- Its one run. -/
theorem Sps.one {A : Option Addr} {c : Nat} {s n : Int} (h : Sps w (.slice A 1 c) [(s, n)]) : ∃ b off, A = some ⟨b, off, none⟩ ∧ b < w.heap.size ∧ w.cell? ⟨b, off, none⟩ = some (.int .i64 s) ∧ w.cell? ⟨b, off + 1, none⟩ = some (.int .i64 n) := by
  obtain ⟨b, off, e, hl, hx⟩ := h.at_.2.2 (by omega)
  exact ⟨b, off, e, hl, by simpa using hx 0 (s, n) rfl⟩
theorem Sps.new (w : World) (s n : Int) : Sps (w.alloc (.cells #[.int .i64 s, .int .i64 n] 26)) (.slice (some ⟨w.heap.size, 0, none⟩) 1 1) [(s, n)] := by
  refine ⟨_, _, rfl, Nat.le_refl _, fun _ => ⟨w.heap.size, 0, rfl, by simp, fun j x hj => ?_⟩⟩
  have hj0 : j = 0 := by
    have := (List.getElem?_eq_some_iff.1 hj).1
    simp at this
    omega
  subst hj0
  have hx : (s, n) = x := by simpa using hj
  subst hx
  rw [cell_of_row _ _ _ _ _ _ (heap_alloc_new w _), cell_of_row _ _ _ _ _ _ (heap_alloc_new w _)]
  exact ⟨rfl, rfl⟩
end

/-- The box of a run. -/
def SBox (w : World) (g : Nat) (x : Int × Int) : Prop := w.heap[g]? = some (.cells #[.int .i64 x.1, .int .i64 x.2] 26 (0, 0))
theorem SBox.new (w : World) (x : Int × Int) : SBox (w.alloc (.cells #[.int .i64 x.1, .int .i64 x.2] 26)) w.heap.size x := heap_alloc_new w _
theorem SBox.lt {w : World} {g : Nat} {x : Int × Int} (h : SBox w g x) : g < w.heap.size := (Array.getElem?_eq_some_iff.1 h).1
theorem SBox.below {w w' : World} {g : Nat} {x : Int × Int} (h : SBox w g x) (hb : Below w.heap.size w w') : SBox w' g x := (hb.block g h.lt).trans h
theorem SBox.c0 {w : World} {g : Nat} {x : Int × Int} (h : SBox w g x) : w.cell? ⟨g, 0, none⟩ = some (.int .i64 x.1) := by rw [cell_of_row w g _ _ _ _ h]; rfl
theorem SBox.c1 {w : World} {g : Nat} {x : Int × Int} (h : SBox w g x) : w.cell? ⟨g, 1, none⟩ = some (.int .i64 x.2) := by rw [cell_of_row w g _ _ _ _ h]; rfl
/-- Runs, as cells. -/
def spsC : List (Int × Int) → List Value
  | [] => []
  | x :: l => .int .i64 x.1 :: .int .i64 x.2 :: spsC l
theorem spsC_snoc (l : List (Int × Int)) (x : Int × Int) : spsC (l ++ [x]) = spsC l ++ [.int .i64 x.1, .int .i64 x.2] := by
  induction l with
  | nil => rfl
  | cons y l ih => simp only [List.cons_append, spsC, ih]
theorem spsC_at : ∀ (l : List (Int × Int)) (j : Nat) (x : Int × Int), l[j]? = some x → (spsC l)[j * 2]? = some (.int .i64 x.1) ∧ (spsC l)[j * 2 + 1]? = some (.int .i64 x.2) := by
  intro l
  induction l with
  | nil => intro j x h; cases h
  | cons y l ih =>
    intro j x h
    cases j with
    | zero =>
      obtain rfl : y = x := by simpa using h
      exact ⟨rfl, rfl⟩
    | succ j =>
      have := ih j x (by simpa using h)
      rw [show (j + 1) * 2 = j * 2 + 2 by omega, show j * 2 + 2 + 1 = j * 2 + 1 + 2 by omega]
      exact this
/-- A slice of the call's own that reads as the runs l. -/
def OwnS (B : Nat) (w : World) (v : Value) (l : List (Int × Int)) : Prop := w.ownsRow B 26 2 v l.length (spsC l)
theorem OwnS.sps {B : Nat} {w : World} {v : Value} {l : List (Int × Int)} (h : OwnS B w v l) : Sps w v l := by
  rcases id h.2 with ⟨rfl, h0⟩ | ⟨g, cap, cur, rfl, _, hg, hn, _, _, ht⟩
  · obtain rfl : l = [] := List.eq_nil_of_length_eq_zero h0
    exact Sps.nil w
  · refine ⟨_, cap, rfl, hn, fun _ => ⟨g, 0, rfl, (Array.getElem?_eq_some_iff.1 hg).1, fun j x hj => ?_⟩⟩
    rw [Nat.zero_add, cell_of_row _ _ _ _ _ _ hg, cell_of_row _ _ _ _ _ _ hg]
    have hjl := (List.getElem?_eq_some_iff.1 hj).1
    obtain ⟨e1, e2⟩ := spsC_at l j x hj
    rw [← ht, List.getElem?_take, if_pos (by omega)] at e1 e2
    exact ⟨by simpa using e1, by simpa using e2⟩
theorem OwnS.nil (B : Nat) (w : World) : OwnS B w (.slice none 0 0) [] := World.ownsRow_nil _ _ _ _
theorem OwnS.ge {B : Nat} {w : World} {v : Value} {l : List (Int × Int)} (h : OwnS B w v l) : ∀ k, v.ownBlock = some k → B ≤ k := fun k hk => (World.ownsRow.lt h k hk).1
theorem own_snoc {B : Nat} {w : World} {v : Value} {l : List (Int × Int)} {x : Int × Int} (h : w.ownsRow B 26 2 v (l.length + 1) (spsC l ++ [.int .i64 x.1, .int .i64 x.2])) : OwnS B w v (l ++ [x]) := by
  unfold OwnS
  rw [spsC_snoc, List.length_append]
  exact h
theorem news2 {W : World} (x : Int × Int) {g : Nat} (hg : W.heap.size = g) : ∀ (j : Nat) (u : Value), ([.int .i64 x.1, .int .i64 x.2] : List Value)[j]? = some u → (W.alloc (.cells #[.int .i64 x.1, .int .i64 x.2] 26)).cell? ((⟨g, 0, none⟩ : Addr).add j) = some u := by
  intro j u hj
  subst hg
  rw [Addr.add_lit, Nat.zero_add, cell_of_row _ _ _ _ _ _ (heap_alloc_new W _), ← hj]
  exact List.getElem?_toArray
theorem one2 (x : Int × Int) : ∀ u ∈ ([.int .i64 x.1, .int .i64 x.2] : List Value), u.oneCell' = true := by
  intro u hu
  simp only [List.mem_cons, List.not_mem_nil, or_false] at hu
  rcases hu with rfl | rfl <;> rfl
theorem info26 : (Try.prog.info? 26).map (fun i => (i.zero, i.size, i.bytes)) = some (some (.agg #[.int .i64 0, .int .i64 0]), 2, 16) := by kernel_rfl

end Go.Proofs.Ytjlcmmidbeikdaa
