/- Items in memory: a slice that reads as a list of items. No statement is proved here. -/
import Derived.Test.YtkfjbhikibidiaaIPlain
import Derived.WalkSpells
import Derived.WalkLawsBesides
import Derived.Maps.AppendAt
namespace Go.Proofs.Ytkfjbhikibidiaa.Itm
open Go.RowKit

def itC (x : It) : List Value := [.string (strB x.key), .int .i64 x.seq, .int .i64 x.ver, .bool x.mark, .string (strB x.mt), .string (strB x.tag), .string (strB x.body)]
def itV (x : It) : Value := .agg #[.string (strB x.key), .int .i64 x.seq, .int .i64 x.ver, .bool x.mark, .string (strB x.mt), .string (strB x.tag), .string (strB x.body)]
def itsC (l : List It) : List Value := l.flatMap itC

theorem itsC_append (l m : List It) : itsC (l ++ m) = itsC l ++ itsC m := by simp [itsC]
theorem itsC_one (x : It) : itsC [x] = itC x := by simp [itsC]
theorem itC_len (x : It) : (itC x).length = 7 := rfl
theorem itsC_len (l : List It) : (itsC l).length = l.length * 7 := by
  induction l with
  | nil => rfl
  | cons a l ih =>
    have : itsC (a :: l) = itC a ++ itsC l := rfl
    rw [this, List.length_append, ih, itC_len, List.length_cons]
    omega
theorem itC_one (x : It) : ∀ u ∈ itC x, u.oneCell' = true := by
  intro u hu
  simp only [itC, List.mem_cons, List.not_mem_nil, or_false] at hu
  rcases hu with rfl | rfl | rfl | rfl | rfl | rfl | rfl <;> rfl
theorem itsC_oneCell (l : List It) : ∀ u ∈ itsC l, u.oneCell' = true := by
  intro u hu
  obtain ⟨x, _, hx⟩ := List.mem_flatMap.1 hu
  exact itC_one x u hx

theorem itsC_at (l : List It) (j : Nat) (x : It) (h : l[j]? = some x) (f : Nat) (hf : f < 7) : (itsC l)[j * 7 + f]? = (itC x)[f]? := by
  induction l generalizing j with
  | nil => simp at h
  | cons a l ih =>
    have e : itsC (a :: l) = itC a ++ itsC l := rfl
    rw [e]
    cases j with
    | zero =>
      obtain rfl : a = x := by simpa using h
      rw [Nat.zero_mul, Nat.zero_add, List.getElem?_append_left (by rw [itC_len]; exact hf)]
    | succ j =>
      rw [List.getElem?_append_right (by rw [itC_len]; omega), itC_len, ← ih j (by simpa using h)]
      congr 1
      omega

theorem itsC_take (l : List It) (k : Nat) : (itsC l).take (k * 7) = itsC (l.take k) := by
  induction l generalizing k with
  | nil => simp [itsC]
  | cons a l ih =>
    cases k with
    | zero => simp [itsC]
    | succ k =>
      have e : itsC (a :: l) = itC a ++ itsC l := rfl
      have e2 : itsC ((a :: l).take (k + 1)) = itC a ++ itsC (l.take k) := rfl
      rw [e, e2, List.take_append, itC_len, List.take_of_length_le (by rw [itC_len]; omega), ← ih k]
      congr 2
      omega
theorem itsC_drop (l : List It) (k : Nat) : (itsC l).drop (k * 7) = itsC (l.drop k) := by
  induction l generalizing k with
  | nil => simp [itsC]
  | cons a l ih =>
    cases k with
    | zero => simp [itsC]
    | succ k =>
      have e : itsC (a :: l) = itC a ++ itsC l := rfl
      have e2 : itsC ((a :: l).drop (k + 1)) = itsC (l.drop k) := rfl
      rw [e, e2, List.drop_append, itC_len, List.drop_of_length_le (by rw [itC_len]; omega), ← ih k, List.nil_append]
      congr 1
      omega

/-- The item x lies at place o of block b. -/
structure At7 (w : World) (b o : Nat) (x : It) : Prop where
  c0 : w.cell? ⟨b, o, none⟩ = some (.string (strB x.key))
  c1 : w.cell? ⟨b, o + 1, none⟩ = some (.int .i64 x.seq)
  c2 : w.cell? ⟨b, o + 2, none⟩ = some (.int .i64 x.ver)
  c3 : w.cell? ⟨b, o + 3, none⟩ = some (.bool x.mark)
  c4 : w.cell? ⟨b, o + 4, none⟩ = some (.string (strB x.mt))
  c5 : w.cell? ⟨b, o + 5, none⟩ = some (.string (strB x.tag))
  c6 : w.cell? ⟨b, o + 6, none⟩ = some (.string (strB x.body))

/-- The slice v reads as the items l. -/
def Its (w : World) (v : Value) (l : List It) : Prop :=
  ∃ A c, v = .slice A l.length c ∧ l.length ≤ c ∧ (0 < l.length → ∃ b off, A = some ⟨b, off, none⟩ ∧ b < w.heap.size ∧ ∀ j x, l[j]? = some x → At7 w b (off + j * 7) x)

section
variable {w w' : World} {v : Value} {l : List It}
theorem At7.below {b o : Nat} {x : It} (h : At7 w b o x) (hl : b < w.heap.size) (hb : Below w.heap.size w w') : At7 w' b o x :=
  ⟨(hb.cell (p := ⟨b, o, none⟩) hl).trans h.c0, (hb.cell (p := ⟨b, o + 1, none⟩) hl).trans h.c1, (hb.cell (p := ⟨b, o + 2, none⟩) hl).trans h.c2, (hb.cell (p := ⟨b, o + 3, none⟩) hl).trans h.c3,
   (hb.cell (p := ⟨b, o + 4, none⟩) hl).trans h.c4, (hb.cell (p := ⟨b, o + 5, none⟩) hl).trans h.c5, (hb.cell (p := ⟨b, o + 6, none⟩) hl).trans h.c6⟩
theorem Its.below (h : Its w v l) (hb : Below w.heap.size w w') : Its w' v l := by
  obtain ⟨A, c, e, hc, hr⟩ := h
  refine ⟨A, c, e, hc, fun hp => ?_⟩
  obtain ⟨b, off, e1, hl, hx⟩ := hr hp
  exact ⟨b, off, e1, Nat.lt_of_lt_of_le hl hb.size, fun j x hj => (hx j x hj).below hl hb⟩
theorem Its.at_ {A : Option Addr} {n c : Nat} (h : Its w (.slice A n c) l) : l.length = n ∧ n ≤ c ∧ (0 < n → ∃ b off, A = some ⟨b, off, none⟩ ∧ b < w.heap.size ∧ ∀ j x, l[j]? = some x → At7 w b (off + j * 7) x) := by
  obtain ⟨A', c', e, hc, hr⟩ := h
  injection e with e1 e2 e3
  subst e1 e2 e3
  exact ⟨rfl, hc, hr⟩
theorem Its.form (h : Its w v l) : ∃ A c, v = .slice A l.length c := by
  obtain ⟨A, c, e, _⟩ := h
  exact ⟨A, c, e⟩
theorem Its.nil (w : World) : Its w (.slice none 0 0) [] := ⟨none, 0, rfl, Nat.le_refl _, fun h => absurd h (by simp)⟩
end

/-- The slice v is the call's own, in a block from B on, and holds the items l. -/
def Own (B : Nat) (w : World) (v : Value) (l : List It) : Prop := w.ownsRow B 23 7 v l.length (itsC l)

theorem at7_row {w : World} {b : Nat} {cur : Array Value} {t : TypeId} {fr : Nat × Nat} (hb : w.heap[b]? = some (.cells cur t fr)) (o : Nat) (x : It) (h : ∀ f, f < 7 → cur[o + f]? = (itC x)[f]?) : At7 w b o x := by
  refine ⟨?_, ?_, ?_, ?_, ?_, ?_, ?_⟩ <;> rw [cell_of_row w b _ _ _ _ hb]
  · exact h 0 (by omega)
  · exact h 1 (by omega)
  · exact h 2 (by omega)
  · exact h 3 (by omega)
  · exact h 4 (by omega)
  · exact h 5 (by omega)
  · exact h 6 (by omega)

theorem Own.its {B : Nat} {w : World} {v : Value} {l : List It} (h : Own B w v l) : Its w v l := by
  rcases id h.2 with ⟨rfl, h0⟩ | ⟨g, cap, cur, rfl, _, hg, hn, _, _, ht⟩
  · obtain rfl : l = [] := List.eq_nil_of_length_eq_zero h0
    exact Its.nil w
  · refine ⟨_, cap, rfl, hn, fun _ => ⟨g, 0, rfl, (Array.getElem?_eq_some_iff.1 hg).1, fun j x hj => ?_⟩⟩
    rw [Nat.zero_add]
    refine at7_row hg _ x fun f hf => ?_
    rw [← itsC_at l j x hj f hf, ← ht, List.getElem?_take, if_pos]
    · simp
    · have := (List.getElem?_eq_some_iff.1 hj).1
      omega
theorem Own.nil (B : Nat) (w : World) : Own B w (.slice none 0 0) [] := World.ownsRow_nil _ _ _ _
theorem Own.ge {B : Nat} {w : World} {v : Value} {l : List It} (h : Own B w v l) : ∀ k, v.ownBlock = some k → B ≤ k := fun k hk => (World.ownsRow.lt h k hk).1
theorem Own.below {B : Nat} {w w' : World} {v : Value} {l : List It} (h : Own B w v l) (hb : Below w.heap.size w w') : Own B w' v l := by
  refine ⟨h.1, ?_⟩
  rcases h.2 with hn | ⟨g, cap, cur, rfl, hB, hg, rest⟩
  · exact .inl hn
  · exact .inr ⟨g, cap, cur, rfl, hB, (hb.block g (Array.getElem?_eq_some_iff.1 hg).1).trans hg, rest⟩
theorem Own.mono {B B' : Nat} {w : World} {v : Value} {l : List It} (h : Own B w v l) (hB : B' ≤ B) : Own B' w v l := by
  refine ⟨h.1, ?_⟩
  rcases h.2 with hn | ⟨g, cap, cur, rfl, hB1, hg, rest⟩
  · exact .inl hn
  · exact .inr ⟨g, cap, cur, rfl, by omega, hg, rest⟩

/-- A box that holds an item. -/
def Box (w : World) (g : Nat) (x : It) : Prop := w.heap[g]? = some (.cells #[.string (strB x.key), .int .i64 x.seq, .int .i64 x.ver, .bool x.mark, .string (strB x.mt), .string (strB x.tag), .string (strB x.body)] 23 (0, 0))
theorem Box.at_ {w : World} {g : Nat} {x : It} (h : Box w g x) : At7 w g 0 x := at7_row h 0 x (fun f hf => by
  rw [Nat.zero_add]
  match f, hf with
  | 0, _ => rfl
  | 1, _ => rfl
  | 2, _ => rfl
  | 3, _ => rfl
  | 4, _ => rfl
  | 5, _ => rfl
  | 6, _ => rfl)
theorem Box.below {w w' : World} {g : Nat} {x : It} (h : Box w g x) (hb : Below w.heap.size w w') : Box w' g x := (hb.block g (Array.getElem?_eq_some_iff.1 h).1).trans h

theorem info24 : (Try.prog.info? 23).map (fun i => (i.zero, i.size, i.bytes)) = some (some (.agg #[.string ⟨#[]⟩, .int .i64 0, .int .i64 0, .bool false, .string ⟨#[]⟩, .string ⟨#[]⟩, .string ⟨#[]⟩]), 7, 88) := by kernel_rfl
end Go.Proofs.Ytkfjbhikibidiaa.Itm
