/- What goes, and what is left: plain mathematics. No statement is proved here. -/
import Derived.Test.YtgnhjcgegibpdaaSort
namespace Go.Proofs.Ytgnhjcgegibpdaa

/-- How many are of that key and number. -/
def cnt (k : List UInt8) (s : Int) (l : List It) : Nat := (l.filter (fun x => !stays k s x)).length

theorem cnt_next {l : List It} {j : Nat} {z : It} (k : List UInt8) (s : Int) (h : l[j]? = some z) : cnt k s (l.take (j + 1)) = cnt k s (l.take j) + (if stays k s z then 0 else 1) := by
  unfold cnt
  rw [List.take_add_one, h, List.filter_append, List.length_append]
  cases hz : stays k s z <;> simp [hz]
theorem drop_len (k : List UInt8) (s : Int) (l : List It) : (dropL k s l).length + cnt k s l = l.length := by
  unfold dropL cnt
  induction l with
  | nil => rfl
  | cons x l ih =>
    cases hx : stays k s x <;> simp [hx] <;> omega
theorem of_len (k : List UInt8) (s : Int) (l : List It) : (ofL k (dropL k s l)).length + cnt k s l = (ofL k l).length := by
  unfold dropL cnt ofL
  induction l with
  | nil => rfl
  | cons x l ih =>
    by_cases hk : x.key = k
    · cases hx : stays k s x <;> simp [hx, hk] at ih ⊢ <;> omega
    · have hx : stays k s x = true := (stays_iff _ _ _).2 fun h => hk h.1
      simp [hx, hk] at ih ⊢
      exact ih
theorem cnt_le {k : List UInt8} {s : Int} {l : List It} (h : Sorted l) : cnt k s l ≤ 1 := by
  unfold cnt
  have hs : (l.filter (fun x => !stays k s x)).Pairwise (fun a b => less a b = true) := List.Pairwise.filter _ h
  have hm : ∀ x ∈ l.filter (fun x => !stays k s x), x.key = k ∧ x.seq = s := fun x hx => by
    have h1 := (List.mem_filter.1 hx).2
    by_cases h2 : x.key = k ∧ x.seq = s
    · exact h2
    · rw [(stays_iff k s x).2 h2] at h1
      cases h1
  match hl : l.filter (fun x => !stays k s x), hs, hm with
  | [], _, _ => simp
  | [_], _, _ => simp
  | a :: b :: r, hs, hm =>
    exfalso
    have h1 := (List.pairwise_cons.1 hs).1 b (by simp)
    have ha := hm a (by simp)
    have hb := hm b (by simp)
    unfold less at h1
    rw [if_pos (ha.1.trans hb.1.symm)] at h1
    simp at h1
    omega
theorem drop_put (x : It) (l : List It) : dropL x.key x.seq (putL x l) = dropL x.key x.seq l := by
  have hx : stays x.key x.seq x = false := by
    cases h : stays x.key x.seq x with
    | false => rfl
    | true => exact absurd ⟨rfl, rfl⟩ ((stays_iff _ _ _).1 h)
  unfold putL insL dropL
  rw [List.filter_append, List.filter_cons_of_neg (by rw [hx]; simp), ← List.filter_append, List.takeWhile_append_dropWhile, List.filter_filter]
  simp

end Go.Proofs.Ytgnhjcgegibpdaa
