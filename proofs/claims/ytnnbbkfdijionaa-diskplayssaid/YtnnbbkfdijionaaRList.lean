/- Of places that rise: what is put among them, what is found. No statement is proved here. -/
import Derived.Test.YtnnbbkfdijionaaSured
import Derived.Test.YtnnbbkfdijionaaRRead
namespace Go.Proofs.Ytnnbbkfdijionaa
open Go.RowKit

/-- Places rise. -/
def Rising (l : List Wt) : Prop := List.Pairwise (fun a b : Wt => a.1 < b.1) l

theorem fold_placed (p : Wt) (l : List Wt) : ∀ acc : List Wt, l.foldl (stepW p) (acc, true) = (acc ++ l.filter (fun o => decide (o.1 ≠ p.1)), true) := by
  induction l with
  | nil => intro acc; simp
  | cons o l ih =>
    intro acc
    rw [List.foldl_cons]
    by_cases h : o.1 = p.1
    · have e : stepW p (acc, true) o = (acc, true) := by simp [stepW, h]
      rw [e, ih]
      simp [h]
    · have e : stepW p (acc, true) o = (acc ++ [o], true) := by simp [stepW, h]
      rw [e, ih]
      simp [h]

theorem fold_low (p : Wt) (l : List Wt) : ∀ acc : List Wt, (∀ o ∈ l, o.1 < p.1) → l.foldl (stepW p) (acc, false) = (acc ++ l, false) := by
  induction l with
  | nil => intro acc _; simp
  | cons o l ih =>
    intro acc h
    have h0 := h o (by simp)
    rw [List.foldl_cons, stepW_one p o acc (by omega) (by omega), ih _ (fun x hx => h x (by simp [hx]))]
    simp

theorem fold_high (p : Wt) (r : List Wt) : ∀ acc : List Wt, (∀ o ∈ r, p.1 ≤ o.1) → (if (r.foldl (stepW p) (acc, false)).2 = true then (r.foldl (stepW p) (acc, false)).1 else (r.foldl (stepW p) (acc, false)).1 ++ [p]) = acc ++ [p] ++ r.filter (fun o => decide (o.1 ≠ p.1)) := by
  induction r with
  | nil => intro acc _; simp
  | cons o r ih =>
    intro acc h
    have h0 := h o (by simp)
    rw [List.foldl_cons]
    by_cases e : o.1 = p.1
    · have e1 : stepW p (acc, false) o = (acc, false) := by simp [stepW, e]
      rw [e1, ih acc (fun x hx => h x (by simp [hx]))]
      simp [e]
    · rw [stepW_two p o acc (by omega), fold_placed]
      simp [e]

theorem drop_high {p : Wt} {l : List Wt} (h : Rising l) : ∀ o ∈ l.dropWhile (fun o => decide (o.1 < p.1)), p.1 ≤ o.1 := by
  induction l with
  | nil => intro o ho; cases ho
  | cons x l ih =>
    intro o ho
    have hp := List.pairwise_cons.1 h
    by_cases e : x.1 < p.1
    · rw [List.dropWhile_cons_of_pos (by simpa using e)] at ho
      exact ih hp.2 o ho
    · rw [List.dropWhile_cons_of_neg (by simpa using e)] at ho
      rcases List.mem_cons.1 ho with rfl | ho
      · omega
      · have := hp.1 o ho
        omega

theorem take_low {p : Wt} {l : List Wt} : ∀ o ∈ l.takeWhile (fun o => decide (o.1 < p.1)), o.1 < p.1 := by
  intro o ho
  have := List.all_takeWhile (p := fun o : Wt => decide (o.1 < p.1)) (l := l)
  rw [List.all_eq_true] at this
  simpa using this o ho

/-- What Write comes to: those below, the new one, those above. -/
theorem with_ins {p : Wt} {l : List Wt} (h : Rising l) : withF p l = l.takeWhile (fun o => decide (o.1 < p.1)) ++ [p] ++ (l.dropWhile (fun o => decide (o.1 < p.1))).filter (fun o => decide (o.1 ≠ p.1)) := by
  have e : withSt p l = (l.dropWhile (fun o => decide (o.1 < p.1))).foldl (stepW p) (l.takeWhile (fun o => decide (o.1 < p.1)), false) := by
    unfold withSt
    conv => lhs; rw [← List.takeWhile_append_dropWhile (p := fun o : Wt => decide (o.1 < p.1)) (l := l)]
    rw [List.foldl_append, fold_low p _ [] take_low]
    simp
  unfold withF
  rw [e]
  exact fold_high p _ _ (drop_high h)

theorem Rising.with_ {l : List Wt} (h : Rising l) (p : Wt) : Rising (withF p l) := by
  rw [with_ins h]
  unfold Rising at *
  rw [List.pairwise_append, List.pairwise_append]
  have hs : List.Pairwise (fun a b : Wt => a.1 < b.1) (l.takeWhile (fun o => decide (o.1 < p.1)) ++ l.dropWhile (fun o => decide (o.1 < p.1))) := by rw [List.takeWhile_append_dropWhile]; exact h
  rw [List.pairwise_append] at hs
  have hd : ∀ o ∈ (l.dropWhile (fun o => decide (o.1 < p.1))).filter (fun o => decide (o.1 ≠ p.1)), p.1 < o.1 := by
    intro o ho
    obtain ⟨h1, h2⟩ := List.mem_filter.1 ho
    have h3 := drop_high (p := p) h o h1
    have h4 : o.1 ≠ p.1 := by simpa using h2
    omega
  refine ⟨⟨hs.1, by simp, fun a ha b hb => ?_⟩, hs.2.1.filter _, fun a ha b hb => ?_⟩
  · simp at hb
    subst hb
    exact take_low a ha
  · rcases List.mem_append.1 ha with ha | ha
    · have := take_low a ha
      have := hd b hb
      omega
    · simp at ha
      subst ha
      exact hd b hb

theorem Rising.uniq {l : List Wt} (h : Rising l) : Uniq l := by
  induction l with
  | nil => intro o ho; cases ho
  | cons x l ih =>
    have hp := List.pairwise_cons.1 h
    intro o ho y hy e
    rcases List.mem_cons.1 ho with h1 | h1
    · rcases List.mem_cons.1 hy with h2 | h2
      · rw [h1, h2]
      · have := hp.1 y h2
        rw [← h1] at this
        omega
    · rcases List.mem_cons.1 hy with h2 | h2
      · have := hp.1 o h1
        rw [← h2] at this
        omega
      · exact ih hp.2 o h1 y h2 e

/-- The first one of a place is the last one. -/
theorem find_read {wet : List Wt} (h : Uniq wet) (zs : List ByteArray) (j : Nat) : findF wet zs j = readF wet zs j := by
  unfold findF
  cases e : wet.find? (fun o => o.1 == (j : Int)) with
  | some o =>
    have h1 := List.find?_some e
    have h2 := List.mem_of_find?_eq_some e
    rw [read_uniq h zs j o h2 (by simpa using h1)]
  | none =>
    have hn := List.find?_eq_none.1 e
    have e2 : wet.reverse.find? (fun o => o.1 == (j : Int)) = none := by
      rw [List.find?_eq_none]
      intro x hx
      exact hn x (by simpa using hx)
    unfold readF
    rw [e2]

end Go.Proofs.Ytnnbbkfdijionaa
