/- Lists of items in order, what came last: plain mathematics. No statement is proved here. -/
import Derived.Test.YtgnhjcgegibpdaaLess
namespace Go.Proofs.Ytgnhjcgegibpdaa

theorem bytes_trans : ∀ {a b c : List UInt8}, Op.bytesLess a b = true → Op.bytesLess b c = true → Op.bytesLess a c = true
  | _, [], _, h, _ => by simp [Op.bytesLess] at h
  | _, _ :: _, [], _, h => by simp [Op.bytesLess] at h
  | [], _ :: _, _ :: _, _, _ => rfl
  | x :: a, y :: b, z :: c, h1, h2 => by
    simp only [Op.bytesLess, Bool.or_eq_true, decide_eq_true_eq, Bool.and_eq_true, beq_iff_eq] at h1 h2 ⊢
    rcases h1 with h1 | ⟨rfl, h1⟩
    · rcases h2 with h2 | ⟨rfl, _⟩
      · exact Or.inl (UInt8.lt_trans h1 h2)
      · exact Or.inl h1
    · rcases h2 with h2 | ⟨rfl, h2⟩
      · exact Or.inl h2
      · exact Or.inr ⟨rfl, bytes_trans h1 h2⟩
theorem bytes_total : ∀ {a b : List UInt8}, a ≠ b → Op.bytesLess a b = false → Op.bytesLess b a = true
  | [], [], h, _ => absurd rfl h
  | [], _ :: _, _, h => by simp [Op.bytesLess] at h
  | _ :: _, [], _, _ => rfl
  | x :: a, y :: b, h, h1 => by
    simp only [Op.bytesLess, Bool.or_eq_false_iff, decide_eq_false_iff_not, Bool.and_eq_false_iff, beq_eq_false_iff_ne] at h1
    simp only [Op.bytesLess, Bool.or_eq_true, decide_eq_true_eq, Bool.and_eq_true, beq_iff_eq]
    by_cases e : x = y
    · subst e
      refine Or.inr ⟨rfl, bytes_total (fun e => h (by rw [e])) ?_⟩
      rcases h1.2 with h2 | h2
      · exact absurd rfl h2
      · exact h2
    · exact Or.inl (UInt8.lt_of_le_of_ne (UInt8.not_lt.1 h1.1) (fun h => e h.symm))

/-- Of one key and number. -/
def same (x y : It) : Prop := x.key = y.key ∧ x.seq = y.seq
theorem less_irrefl (x : It) : less x x = false := by simp [less]
theorem less_trans {x y z : It} (h1 : less x y = true) (h2 : less y z = true) : less x z = true := by
  unfold less at h1 h2 ⊢
  split at h1
  · rename_i e1
    split at h2
    · rename_i e2
      rw [if_pos (e1.trans e2)]
      simp at h1 h2 ⊢
      omega
    · rename_i e2
      rw [if_neg (by rw [e1]; exact e2), e1]
      exact h2
  · rename_i e1
    split at h2
    · rename_i e2
      rw [if_neg (by rw [← e2]; exact e1), ← e2]
      exact h1
    · have h := bytes_trans h1 h2
      rw [if_neg (fun e => by rw [e, bytes_irrefl] at h; cases h)]
      exact h
theorem less_asymm {x y : It} (h : less x y = true) : less y x = false := by
  cases h2 : less y x with
  | false => rfl
  | true =>
    have := less_trans h h2
    rw [less_irrefl] at this
    cases this
theorem less_total {x y : It} (hs : ¬ same x y) (h : less x y = false) : less y x = true := by
  unfold less at h ⊢
  by_cases e : x.key = y.key
  · rw [if_pos e] at h
    rw [if_pos e.symm]
    simp at h ⊢
    have : x.seq ≠ y.seq := fun e2 => hs ⟨e, e2⟩
    omega
  · rw [if_neg e] at h
    rw [if_neg (fun e2 => e e2.symm)]
    exact bytes_total e h

theorem stays_iff (k : List UInt8) (s : Int) (x : It) : stays k s x = true ↔ ¬ (x.key = k ∧ x.seq = s) := by
  unfold stays
  rw [Bool.or_eq_true, decide_eq_true_iff, decide_eq_true_iff]
  constructor
  · rintro (h | h) ⟨a, b⟩
    · exact h a
    · exact h b
  · intro h
    by_cases e : x.key = k
    · exact Or.inr fun e2 => h ⟨e, e2⟩
    · exact Or.inl e

/-- Each stands ahead of all that follow. -/
def Sorted (l : List It) : Prop := l.Pairwise (fun a b => less a b = true)

theorem ins_mem {x y : It} {l : List It} : y ∈ insL x l ↔ y = x ∨ y ∈ l := by
  unfold insL
  rw [List.mem_append, List.mem_cons]
  constructor
  · rintro (h | rfl | h)
    · exact Or.inr (List.takeWhile_sublist _ |>.subset h)
    · exact Or.inl rfl
    · exact Or.inr (List.dropWhile_sublist _ |>.subset h)
  · rintro (rfl | h)
    · exact Or.inr (Or.inl rfl)
    · rw [← List.takeWhile_append_dropWhile (p := fun o => less o x) (l := l), List.mem_append] at h
      rcases h with h | h
      · exact Or.inl h
      · exact Or.inr (Or.inr h)
theorem put_mem {x y : It} {l : List It} : y ∈ putL x l ↔ y = x ∨ (y ∈ l ∧ ¬ same y x) := by
  unfold putL dropL
  rw [ins_mem, List.mem_filter, stays_iff]
  rfl
theorem ins_sorted {x : It} : ∀ {l : List It}, Sorted l → (∀ y ∈ l, ¬ same y x) → Sorted (insL x l)
  | [], _, _ => by simp [insL, Sorted]
  | y :: l, h, hn => by
    have hp := List.pairwise_cons.1 h
    cases hy : less y x with
    | true =>
      have e : insL x (y :: l) = y :: insL x l := by simp [insL, hy]
      rw [e]
      refine List.pairwise_cons.2 ⟨fun z hz => ?_, ins_sorted hp.2 fun z hz => hn z (List.mem_cons_of_mem _ hz)⟩
      rcases ins_mem.1 hz with rfl | hz
      · exact hy
      · exact hp.1 z hz
    | false =>
      have e : insL x (y :: l) = x :: y :: l := by simp [insL, hy]
      rw [e]
      have hxy : less x y = true := less_total (hn y (List.mem_cons_self ..)) hy
      refine List.pairwise_cons.2 ⟨fun z hz => ?_, h⟩
      rcases List.mem_cons.1 hz with rfl | hz
      · exact hxy
      · exact less_trans hxy (hp.1 z hz)
theorem drop_sorted {k : List UInt8} {s : Int} {l : List It} (h : Sorted l) : Sorted (dropL k s l) := List.Pairwise.filter _ h
theorem put_sorted {x : It} {l : List It} (h : Sorted l) : Sorted (putL x l) := by
  refine ins_sorted (drop_sorted h) fun y hy hs => ?_
  exact (stays_iff _ _ _).1 (List.mem_filter.1 hy).2 hs
theorem sorted_at {l : List It} (h : Sorted l) {i j : Nat} {x y : It} (hij : i < j) (hx : l[i]? = some x) (hy : l[j]? = some y) : less x y = true := by
  obtain ⟨hi, rfl⟩ := List.getElem?_eq_some_iff.1 hx
  obtain ⟨hj, rfl⟩ := List.getElem?_eq_some_iff.1 hy
  exact List.pairwise_iff_getElem.1 h i j hi hj hij

/-- What the first k leave, one by one. -/
def built (l : List It) : Nat → List It
  | 0 => []
  | k + 1 => match l[k]? with
    | some x => putL x (built l k)
    | none => built l k
theorem built_next {l : List It} {k : Nat} {x : It} (h : l[k]? = some x) : built l (k + 1) = putL x (built l k) := by simp [built, h]
theorem built_sorted (l : List It) : ∀ k, Sorted (built l k)
  | 0 => List.Pairwise.nil
  | k + 1 => by
    unfold built
    split
    · exact put_sorted (built_sorted l k)
    · exact built_sorted l k
theorem ins_len (x : It) (l : List It) : (insL x l).length = l.length + 1 := by
  unfold insL
  have h := congrArg List.length (List.takeWhile_append_dropWhile (p := fun o => less o x) (l := l))
  rw [List.length_append] at h
  rw [List.length_append, List.length_cons]
  omega
theorem put_len (x : It) (l : List It) : (putL x l).length ≤ l.length + 1 := by
  unfold putL
  rw [ins_len]
  have := List.length_filter_le (stays x.key x.seq) l
  unfold dropL
  omega
theorem built_len (l : List It) : ∀ k, (built l k).length ≤ k
  | 0 => Nat.le_refl _
  | k + 1 => by
    have ih := built_len l k
    unfold built
    split
    · exact Nat.le_trans (put_len _ _) (by omega)
    · omega
theorem built_last {l : List It} {y : It} {j : Nat} (hy : l[j]? = some y) : ∀ k, j < k → k ≤ l.length → (∀ q x, j < q → q < k → l[q]? = some x → ¬ same x y) → y ∈ built l k
  | 0, h, _, _ => absurd h (by omega)
  | k + 1, h, hk, hn => by
    obtain ⟨z, hz⟩ : ∃ z, l[k]? = some z := ⟨_, List.getElem?_eq_getElem (by omega)⟩
    rw [built_next hz, put_mem]
    by_cases e : j = k
    · subst e
      rw [hy] at hz
      injection hz with hz
      exact Or.inl hz
    · refine Or.inr ⟨built_last hy k (by omega) (by omega) (fun q x h1 h2 h3 => hn q x h1 (by omega) h3), fun hs => ?_⟩
      exact hn k z (by omega) (by omega) hz ⟨hs.1.symm, hs.2.symm⟩

end Go.Proofs.Ytgnhjcgegibpdaa
