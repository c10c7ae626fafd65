/- Contracts and plain mathematics that the statement's proof wants: no statement is proved here, nothing is assumed. -/
import Derived.WalkKit
import Derived.Test.YtnbbijpmkhdgpaaGreatMg01
/- VPlain -/
namespace Go.Proofs.YtnbbijpmkhdgpaaGreat.Vlt
open Go.RowKit
open Ent (En rightE right_iff parseE isE printL leafL homeB homeV zer zer_len is_print parse_print is_ends home_leaf is_zer)

/-- A page. -/
structure Lf where
  no : Int
  data : List UInt8

theorem Lf.eq_iff (x y : Lf) : x = y ↔ x.no = y.no ∧ x.data = y.data := by
  cases x; cases y; simp
instance : DecidableEq Lf := fun x y => decidable_of_iff _ (Lf.eq_iff x y).symm

/-- The k-th entry of a commit of these pages. -/
def entK (s : Int) (l : List Lf) (k : Nat) : En :=
  if k < l.length then ⟨s, k, false, (l.getD k ⟨0, []⟩).no, (l.getD k ⟨0, []⟩).data⟩ else ⟨s, k, true, l.length, []⟩

/-- The journal's sector k has a page of a transaction q, as its k-th entry. -/
def PageAt (n : Int) (q : Int) (k : Nat) (s : List UInt8) (x : Lf) : Prop :=
  isE s = true ∧ (parseE s).seq = q ∧ (parseE s).index = k ∧ (parseE s).last = false ∧ (parseE s).no < n ∧ x = ⟨(parseE s).no, (parseE s).data⟩
/-- It has the last entry of a transaction q of k pages. -/
def LastAt (q : Int) (k : Nat) (s : List UInt8) : Prop :=
  isE s = true ∧ (parseE s).seq = q ∧ (parseE s).index = k ∧ (parseE s).last = true ∧ (parseE s).no = k

/-- The journal has a transaction of these pages whole. -/
def Whole (n : Int) (J : Nat) (S : Nat → List UInt8) (l : List Lf) : Prop :=
  ∃ q, l.length < J ∧ (∀ k, k < l.length → PageAt n q k (S k) (l.getD k ⟨0, []⟩)) ∧ LastAt q l.length (S l.length)

theorem Whole.seq0 {n : Int} {J : Nat} {S : Nat → List UInt8} {l : List Lf} (h : Whole n J S l) :
    l.length < J ∧ (∀ k, k < l.length → PageAt n (parseE (S 0)).seq k (S k) (l.getD k ⟨0, []⟩)) ∧ LastAt (parseE (S 0)).seq l.length (S l.length) := by
  obtain ⟨q, h1, h2, h3⟩ := h
  have e : q = (parseE (S 0)).seq := by
    by_cases h0 : 0 < l.length
    · exact (h2 0 h0).2.1.symm
    · have : l.length = 0 := by omega
      rw [this] at h3
      exact h3.2.1.symm
  subst e
  exact ⟨h1, h2, h3⟩

theorem Whole.same {n : Int} {J : Nat} {S : Nat → List UInt8} {l m : List Lf} (h : Whole n J S l) (h' : Whole n J S m) : l = m := by
  obtain ⟨a1, a2, a3⟩ := h.seq0
  obtain ⟨b1, b2, b3⟩ := h'.seq0
  have e : l.length = m.length := by
    rcases Nat.lt_trichotomy l.length m.length with h | h | h
    · have x := (b2 _ h).2.2.2.1
      rw [a3.2.2.2.1] at x; cases x
    · exact h
    · have x := (a2 _ h).2.2.2.1
      rw [b3.2.2.2.1] at x; cases x
  refine List.ext_getElem e fun k h1 h2 => ?_
  have x := (a2 k h1).2.2.2.2.2
  have y := (b2 k h2).2.2.2.2.2
  rw [← y] at x
  rw [List.getD_eq_getElem?_getD, List.getD_eq_getElem?_getD, List.getElem?_eq_getElem h1, List.getElem?_eq_getElem h2] at x
  exact x

open Classical in
/-- The pages of the transaction that the journal has whole. -/
noncomputable def jl (n : Int) (J : Nat) (S : Nat → List UInt8) : List Lf := if h : ∃ l, Whole n J S l then h.choose else []
theorem jl_is {n : Int} {J : Nat} {S : Nat → List UInt8} {l : List Lf} (h : Whole n J S l) : jl n J S = l := by
  have hex : ∃ l, Whole n J S l := ⟨l, h⟩
  unfold jl
  rw [dif_pos hex]
  exact hex.choose_spec.same h
theorem jl_none {n : Int} {J : Nat} {S : Nat → List UInt8} (h : ∀ l, ¬ Whole n J S l) : jl n J S = [] := by
  unfold jl
  rw [dif_neg (fun ⟨l, k⟩ => h l k)]

/-- The greatest number of any entry of the first k sectors. -/
def mostF (S : Nat → List UInt8) : Nat → Int
  | 0 => 0
  | k + 1 => if isE (S k) = true then max (mostF S k) (parseE (S k)).seq else mostF S k

theorem is_right {s : List UInt8} (h : isE s = true) : rightE (parseE s) = true := by
  have h' := h
  unfold isE at h'
  rw [Bool.and_eq_true] at h'
  unfold parseE
  rw [h, if_pos rfl]
  exact h'.1
theorem most_nn (S : Nat → List UInt8) : ∀ k, 0 ≤ mostF S k
  | 0 => Int.le_refl _
  | k + 1 => by
    have := most_nn S k
    unfold mostF
    split <;> omega
theorem most_le {S : Nat → List UInt8} {m : Int} (hm : 0 ≤ m) : ∀ k, (∀ j, j < k → isE (S j) = true → (parseE (S j)).seq ≤ m) → mostF S k ≤ m
  | 0, _ => hm
  | k + 1, h => by
    have h1 := most_le hm k fun j hj => h j (by omega)
    unfold mostF
    split
    · have := h k (by omega) (by assumption)
      omega
    · exact h1
theorem le_most {S : Nat → List UInt8} : ∀ k j, j < k → isE (S j) = true → (parseE (S j)).seq ≤ mostF S k
  | 0, _, h, _ => absurd h (by omega)
  | k + 1, j, h, hs => by
    unfold mostF
    by_cases e : j = k
    · subst e
      rw [if_pos hs]
      omega
    · have := le_most k j (by omega) hs
      split <;> omega
theorem most_ext {S T : Nat → List UInt8} : ∀ k, (∀ j, j < k → S j = T j) → mostF S k = mostF T k
  | 0, _ => rfl
  | k + 1, h => by
    unfold mostF
    rw [h k (by omega), most_ext k fun j hj => h j (by omega)]
theorem Whole.ext {n : Int} {J : Nat} {S T : Nat → List UInt8} {l : List Lf} (e : ∀ j, j < J → S j = T j) (h : Whole n J S l) : Whole n J T l := by
  obtain ⟨q, h1, h2, h3⟩ := h
  exact ⟨q, h1, fun k hk => by rw [← e k (by omega)]; exact h2 k hk, by rw [← e _ h1]; exact h3⟩
theorem jl_ext {n : Int} {J : Nat} {S T : Nat → List UInt8} (e : ∀ j, j < J → S j = T j) : jl n J S = jl n J T := by
  by_cases h : ∃ l, Whole n J S l
  · obtain ⟨l, h⟩ := h
    rw [jl_is h, jl_is (h.ext e)]
  · rw [jl_none fun l k => h ⟨l, k⟩, jl_none fun l k => h ⟨l, k.ext fun j hj => (e j hj).symm⟩]

/-- Pages that a commit may have. -/
structure LOk (n : Int) (l : List Lf) : Prop where
  lo : ∀ x ∈ l, 0 ≤ x.no
  hi : ∀ x ∈ l, x.no < n
  len : ∀ x ∈ l, x.data.length = 208

theorem getD_mem {l : List Lf} {k : Nat} (h : k < l.length) : l.getD k ⟨0, []⟩ ∈ l := by
  rw [List.getD_eq_getElem?_getD, List.getElem?_eq_getElem h]
  exact List.getElem_mem h

theorem ent_right {n s : Int} {J : Nat} {l : List Lf} (hl : LOk n l) (hn : n ≤ 512) (h1 : 1 ≤ s) (h2 : s ≤ 2147483647) (hJ : J ≤ 256) (hc : l.length < J) {k : Nat} (hk : k ≤ l.length) : rightE (entK s l k) = true := by
  unfold entK
  split
  · rename_i h
    have m := getD_mem h
    have a := hl.lo _ m
    have b := hl.hi _ m
    have c := hl.len _ m
    rw [right_iff]
    exact ⟨h1, h2, by dsimp only; omega, by dsimp only; omega, a, by dsimp only; omega, c⟩
  · rw [right_iff]
    exact ⟨h1, h2, by dsimp only; omega, by dsimp only; omega, by dsimp only; omega, by dsimp only; omega, rfl⟩

section
variable {n s : Int} {J : Nat} {l : List Lf} {S S' : Nat → List UInt8}

/-- Entries of a commit, some of them, over a journal of elder entries: it has whole what it had, or all of the commit, or nothing. -/
theorem mixA (hl : LOk n l) (hn : n ≤ 512) (h1 : 1 ≤ s) (h2 : s ≤ 2147483647) (hJ : J ≤ 256) (hc : l.length < J)
    (hold : ∀ k, k < J → isE (S k) = true → (parseE (S k)).seq < s)
    (hmix : ∀ k, k < J → S' k = S k ∨ (k ≤ l.length ∧ S' k = printL (entK s l k))) : jl n J S' = [] ∨ jl n J S' = jl n J S ∨ jl n J S' = l := by
  by_cases hw : ∃ m, Whole n J S' m
  · obtain ⟨m, hw⟩ := hw
    rw [jl_is hw]
    obtain ⟨q, w1, w2, w3⟩ := hw
    have hE : ∀ k, k ≤ m.length → isE (S' k) = true ∧ (parseE (S' k)).seq = q := by
      intro k hk
      by_cases e : k < m.length
      · exact ⟨(w2 k e).1, (w2 k e).2.1⟩
      · have : k = m.length := by omega
        subst this
        exact ⟨w3.1, w3.2.1⟩
    by_cases hq : q = s
    · subst hq
      refine .inr (.inr ?_)
      have hN : ∀ k, k ≤ m.length → k ≤ l.length ∧ S' k = printL (entK q l k) := by
        intro k hk
        rcases hmix k (by omega) with e | e
        · obtain ⟨a, b⟩ := hE k hk
          rw [e] at a b
          have := hold k (by omega) a
          omega
        · exact e
      have hP : ∀ k, k ≤ m.length → parseE (S' k) = entK q l k := by
        intro k hk
        obtain ⟨a, b⟩ := hN k hk
        rw [b]
        exact parse_print (ent_right hl hn h1 h2 hJ hc a)
      have hlen : m.length = l.length := by
        have a := w3.2.2.2.1
        rw [hP _ (Nat.le_refl _)] at a
        unfold entK at a
        split at a
        · cases a
        · have := (hN _ (Nat.le_refl m.length)).1
          omega
      refine List.ext_getElem hlen fun k g1 g2 => ?_
      have a := (w2 k g1).2.2.2.2.2
      rw [hP k (by omega)] at a
      unfold entK at a
      rw [if_pos g2, List.getD_eq_getElem?_getD, List.getD_eq_getElem?_getD, List.getElem?_eq_getElem g1, List.getElem?_eq_getElem g2] at a
      exact a
    · refine .inr (.inl ?_)
      have hO : ∀ k, k ≤ m.length → S' k = S k := by
        intro k hk
        rcases hmix k (by omega) with e | ⟨e1, e2⟩
        · exact e
        · obtain ⟨_, b⟩ := hE k hk
          rw [e2, parse_print (ent_right hl hn h1 h2 hJ hc e1)] at b
          exfalso
          apply hq
          rw [← b]
          unfold entK
          split <;> rfl
      symm
      refine jl_is ⟨q, w1, fun k hk => ?_, ?_⟩
      · rw [← hO k (by omega)]; exact w2 k hk
      · rw [← hO _ (Nat.le_refl _)]; exact w3
  · exact .inl (jl_none fun m k => hw ⟨m, k⟩)

/-- All of a commit's entries are there. -/
theorem allE (hl : LOk n l) (hn : n ≤ 512) (h1 : 1 ≤ s) (h2 : s ≤ 2147483647) (hJ : J ≤ 256) (hc : l.length < J)
    (hall : ∀ k, k ≤ l.length → S k = printL (entK s l k)) : jl n J S = l := by
  have hr : ∀ k, k ≤ l.length → rightE (entK s l k) = true := fun k hk => ent_right hl hn h1 h2 hJ hc hk
  refine jl_is ⟨s, hc, fun k hk => ?_, ?_⟩
  · have h := hr k (by omega)
    have e := parse_print h
    have m := hl.hi _ (getD_mem hk)
    unfold PageAt
    rw [hall k (by omega), e, is_print h]
    unfold entK
    rw [if_pos hk]
    exact ⟨rfl, rfl, rfl, rfl, m, rfl⟩
  · have h := hr _ (Nat.le_refl l.length)
    have e := parse_print h
    unfold LastAt
    rw [hall _ (Nat.le_refl _), e, is_print h]
    unfold entK
    rw [if_neg (by omega)]
    exact ⟨rfl, rfl, rfl, rfl, rfl⟩

/-- The numbers in a journal that was mixed so. -/
theorem mix_seq (hl : LOk n l) (hn : n ≤ 512) (h1 : 1 ≤ s) (h2 : s ≤ 2147483647) (hJ : J ≤ 256) (hc : l.length < J)
    (hold : ∀ k, k < J → isE (S k) = true → (parseE (S k)).seq < s)
    (hmix : ∀ k, k < J → S' k = S k ∨ (k ≤ l.length ∧ S' k = printL (entK s l k))) : ∀ k, k < J → isE (S' k) = true → (parseE (S' k)).seq ≤ s := by
  intro k hk h
  rcases hmix k hk with e | ⟨e1, e2⟩
  · rw [e] at h ⊢
    have := hold k hk h
    omega
  · rw [e2, parse_print (ent_right hl hn h1 h2 hJ hc e1)]
    unfold entK
    split <;> exact Int.le_refl _
theorem all_most (hl : LOk n l) (hn : n ≤ 512) (h1 : 1 ≤ s) (h2 : s ≤ 2147483647) (hJ : J ≤ 256) (hc : l.length < J)
    (hseq : ∀ k, k < J → isE (S k) = true → (parseE (S k)).seq ≤ s) (hall : S 0 = printL (entK s l 0)) : mostF S J = s := by
  have h := ent_right hl hn h1 h2 hJ hc (Nat.zero_le l.length)
  have a := most_le (S := S) (m := s) (by omega) J hseq
  have b := le_most (S := S) J 0 (by omega) (by rw [hall]; exact is_print h)
  rw [hall, parse_print h] at b
  have e : (entK s l 0).seq = s := by unfold entK; split <;> rfl
  rw [e] at b
  omega
end

/-- Pages' sectors hold these pages. -/
def Homes (n : Nat) (H : Nat → List UInt8) (P : Nat → List UInt8) : Prop := ∀ p, p < n → homeB (H p) p = true ∧ homeV (H p) p = P p
/-- Pages behind those of a list. -/
def ovr (l : List Lf) (P : Nat → List UInt8) (p : Nat) : List UInt8 := l.foldl (fun b x => if x.no = (p : Int) then x.data else b) (P p)
/-- What the journal and the pages' sectors come up as. -/
def Recs (n J : Nat) (S H : Nat → List UInt8) (P : Nat → List UInt8) : Prop := ∃ Q, Homes n H Q ∧ ∀ p, p < n → ovr (jl n J S) Q p = P p

theorem ovr_nil (P : Nat → List UInt8) (p : Nat) : ovr [] P p = P p := rfl
theorem ovr_app (l m : List Lf) (P : Nat → List UInt8) (p : Nat) : ovr (l ++ m) P p = ovr m (ovr l P) p := by unfold ovr; rw [List.foldl_append]
theorem ovr_out {l : List Lf} {p : Nat} (h : ∀ x ∈ l, x.no ≠ (p : Int)) (P : Nat → List UInt8) : ovr l P p = P p := by
  unfold ovr
  suffices ∀ b, l.foldl (fun b x => if x.no = (p : Int) then x.data else b) b = b from this _
  induction l with
  | nil => intro b; rfl
  | cons x l ih =>
    intro b
    rw [List.foldl_cons, if_neg (h x (by simp))]
    exact ih (fun y hy => h y (by simp [hy])) b
theorem ovr_in {l : List Lf} {p : Nat} (h : ∃ x ∈ l, x.no = (p : Int)) (P Q : Nat → List UInt8) : ovr l P p = ovr l Q p := by
  unfold ovr
  suffices ∀ b c, l.foldl (fun b x => if x.no = (p : Int) then x.data else b) b = l.foldl (fun b x => if x.no = (p : Int) then x.data else b) c from this _ _
  induction l with
  | nil => obtain ⟨_, h, _⟩ := h; cases h
  | cons x l ih =>
    intro b c
    rw [List.foldl_cons, List.foldl_cons]
    by_cases e : x.no = (p : Int)
    · rw [if_pos e, if_pos e]
    · rw [if_neg e, if_neg e]
      obtain ⟨y, hy, hp⟩ := h
      rcases List.mem_cons.1 hy with rfl | hy
      · exact absurd hp e
      · exact ih ⟨y, hy, hp⟩ b c
theorem ovr_again (l : List Lf) (P : Nat → List UInt8) (p : Nat) : ovr l (ovr l P) p = ovr l P p := by
  by_cases h : ∃ x ∈ l, x.no = (p : Int)
  · exact ovr_in h _ _
  · rw [ovr_out (fun x hx e => h ⟨x, hx, e⟩)]
theorem ovr_ext {l : List Lf} {P Q : Nat → List UInt8} {p : Nat} (h : P p = Q p) : ovr l P p = ovr l Q p := by unfold ovr; rw [h]
theorem ovr_len {l : List Lf} {P : Nat → List UInt8} {p : Nat} (h : ∀ x ∈ l, x.data.length = 208) (hp : (P p).length = 208) : (ovr l P p).length = 208 := by
  unfold ovr
  suffices ∀ b : List UInt8, b.length = 208 → (l.foldl (fun b (x : Lf) => if x.no = (p : Int) then x.data else b) b).length = 208 from this _ hp
  induction l with
  | nil => intro b hb; exact hb
  | cons x l ih =>
    intro b hb
    rw [List.foldl_cons]
    refine ih (fun y hy => h y (by simp [hy])) _ ?_
    split
    · exact h x (by simp)
    · exact hb

theorem Homes.same {n : Nat} {H P Q : Nat → List UInt8} (h : Homes n H P) (k : Homes n H Q) : ∀ p, p < n → P p = Q p := fun p hp => ((h p hp).2).symm.trans (k p hp).2
theorem Homes.ext {n : Nat} {H H' P : Nat → List UInt8} (h : Homes n H P) (e : ∀ p, p < n → H' p = H p) : Homes n H' P := fun p hp => by rw [e p hp]; exact h p hp
theorem homes_blank (n : Nat) : Homes n (fun _ => zer 256) (fun _ => zer 208) := by
  intro p _
  constructor
  · unfold homeB; simp only [beq_self_eq_true, Bool.true_or]
  · unfold homeV; simp only [beq_self_eq_true, if_true]

section
variable {n J : Nat} {s : Int} {l : List Lf} {S S' H H' P Q : Nat → List UInt8}

/-- A death while the journal is written. -/
theorem recs_A (hl : LOk n l) (hn : n ≤ 512) (h1 : 1 ≤ s) (h2 : s ≤ 2147483647) (hJ : J ≤ 256) (hc : l.length < J)
    (hold : ∀ k, k < J → isE (S k) = true → (parseE (S k)).seq < s)
    (hmix : ∀ k, k < J → S' k = S k ∨ (k ≤ l.length ∧ S' k = printL (entK s l k)))
    (hh : Homes n H P) (hr : Recs n J S H P) : Recs n J S' H P ∨ Recs n J S' H (ovr l P) := by
  rcases mixA hl (by omega) h1 h2 hJ hc hold hmix with e | e | e
  · exact .inl ⟨P, hh, fun p _ => by rw [e]; rfl⟩
  · obtain ⟨Q, q1, q2⟩ := hr
    exact .inl ⟨Q, q1, fun p hp => by rw [e]; exact q2 p hp⟩
  · exact .inr ⟨P, hh, fun p _ => by rw [e]⟩

/-- A death while pages come home: each page's sector is as it was, or that of a page in the list. -/
theorem recs_B (hj : jl n J S = l) (hn : n ≤ 512) (hd : ∀ x ∈ l, x.data.length = 208)
    (hh : Homes n H P) (hmix : ∀ p, p < n → H' p = H p ∨ ∃ x ∈ l, x.no = (p : Int) ∧ H' p = leafL p x.data) : Recs n J S H' (ovr l P) := by
  refine ⟨fun p => homeV (H' p) p, fun p hp => ⟨?_, rfl⟩, fun p hp => ?_⟩
  · rcases hmix p hp with e | ⟨x, hx, hp2, e⟩
    · rw [e]; exact (hh p hp).1
    · rw [e]; exact (home_leaf (by omega) (by omega) (hd x hx)).1
  · rw [hj]
    by_cases h : ∃ x ∈ l, x.no = (p : Int)
    · exact ovr_in h _ _
    · refine ovr_ext ?_
      rcases hmix p hp with e | ⟨x, hx, hp2, _⟩
      · rw [e]; exact (hh p hp).2
      · exact absurd ⟨x, hx, hp2⟩ h

/-- All pages of a list have come home. -/
theorem homes_C (hn : n ≤ 512) (hd : ∀ x ∈ l, x.data.length = 208) (hh : Homes n H P)
    (hall : ∀ p, p < n → (∀ x ∈ l, x.no ≠ (p : Int)) → H' p = H p) (hin : ∀ p, p < n → (∃ x ∈ l, x.no = (p : Int)) → H' p = leafL p (ovr l P p)) : Homes n H' (ovr l P) := by
  intro p hp
  by_cases h : ∃ x ∈ l, x.no = (p : Int)
  · rw [hin p hp h]
    have hl : (ovr l P p).length = 208 := by
      rw [ovr_in h P (fun _ => zer 208)]
      exact ovr_len hd (zer_len _)
    exact home_leaf (by omega) (by omega) hl
  · have h' : ∀ x ∈ l, x.no ≠ (p : Int) := fun x hx e => h ⟨x, hx, e⟩
    rw [hall p hp h', ovr_out h']
    exact hh p hp
end

end Go.Proofs.YtnbbijpmkhdgpaaGreat.Vlt

/- DPlain -/
namespace Go.Proofs.YtnbbijpmkhdgpaaGreat.Dsk
open Go.RowKit

/-- What a disk says. -/
structure DK where
  sure : List ByteArray
  wet : List (Int × ByteArray)
  dead : Bool
  left : Int

def deedD (d : DK) : DK := if d.dead = true ∨ d.left = 0 then { d with dead := true } else if 0 < d.left then { d with left := d.left - 1 } else d

def deedB (d : DK) : Bool := !(d.dead || d.left == 0)

/-- A sector: these bytes, and noughts. -/
def padB (s : ByteArray) : ByteArray := ⟨(s.data.toList ++ List.replicate (256 - s.size) 0).toArray⟩

theorem padB_eq (s : ByteArray) (k : Nat) (hk : k = 256 - s.size) : s ++ (⟨(List.replicate k (0 : UInt8)).toArray⟩ : ByteArray) = padB s := by
  subst hk
  have : s = ⟨s.data.toList.toArray⟩ := by simp
  unfold padB
  conv => lhs; rw [this]
  rw [ByteArray.mk_append_mk]

/-- A new disk of n sectors. -/
def newD (n : Nat) : DK := ⟨List.replicate n (padB ⟨#[]⟩), [], false, -1⟩

abbrev Wt := Int × ByteArray

/-- One round: what is gathered, and whether the new one is placed. -/
def stepW (p : Wt) (st : List Wt × Bool) (o : Wt) : List Wt × Bool :=
  let st1 := if st.2 = false ∧ p.1 < o.1 then (st.1 ++ [p], true) else st
  if o.1 = p.1 then st1 else (st1.1 ++ [o], st1.2)

def withSt (p : Wt) (l : List Wt) : List Wt × Bool := l.foldl (stepW p) ([], false)

def withF (p : Wt) (l : List Wt) : List Wt := if (withSt p l).2 = true then (withSt p l).1 else (withSt p l).1 ++ [p]

theorem withSt_snoc (p : Wt) (l : List Wt) (o : Wt) : withSt p (l ++ [o]) = stepW p (withSt p l) o := by simp [withSt]

theorem stepW_two (p o : Wt) (acc : List Wt) (h : p.1 < o.1) : stepW p (acc, false) o = (acc ++ [p] ++ [o], true) := by
  have h2 : ¬ o.1 = p.1 := by omega
  simp [stepW, h, h2]

theorem stepW_one (p o : Wt) (acc : List Wt) (h : ¬ p.1 < o.1) (h2 : ¬ o.1 = p.1) : stepW p (acc, false) o = (acc ++ [o], false) := by
  simp [stepW, h, h2]

def slack : Bool → Nat | true => 0 | false => 1

theorem stepW_le (p o : Wt) (st : List Wt × Bool) : (stepW p st o).1.length + slack (stepW p st o).2 ≤ st.1.length + slack st.2 + 1 := by
  unfold stepW
  obtain ⟨l, b⟩ := st
  by_cases h1 : b = false ∧ p.1 < o.1
  · by_cases h2 : o.1 = p.1
    · omega
    · simp [h1.1, h1.2, h2, slack]
  · by_cases h2 : o.1 = p.1
    · simp [h2]
    · cases b with
      | true => simp [h2, slack]
      | false => simp at h1; simp [h2]; rw [if_neg (by omega)]; simp [slack]

theorem fold_le (p : Wt) : ∀ (l : List Wt) (st : List Wt × Bool), (l.foldl (stepW p) st).1.length + slack (l.foldl (stepW p) st).2 ≤ st.1.length + slack st.2 + l.length
  | [], st => by simp
  | o :: l, st => by
    have h1 := fold_le p l (stepW p st o)
    have h2 := stepW_le p o st
    simp only [List.foldl_cons, List.length_cons]
    omega

theorem withSt_le (p : Wt) (l : List Wt) : (withSt p l).1.length + slack (withSt p l).2 ≤ l.length + 1 := by
  have := fold_le p l ([], false)
  have e : slack false = 1 := rfl
  simp only [List.length_nil, e] at this
  unfold withSt
  omega

/-- Sector o.1 is o.2, if the bit says so, and there is that sector. -/
def setStep (stay k : Nat) (o : Wt) (s : List ByteArray) : List ByteArray := if stay.testBit (k % 64) = true ∧ 0 ≤ o.1 ∧ o.1 < s.length then s.set o.1.toNat o.2 else s

/-- The sectors behind the first k of those that are to be something. -/
def settleK (stay : Nat) (wet : List Wt) (sure : List ByteArray) : Nat → List ByteArray
  | 0 => sure
  | k + 1 => match wet[k]? with
    | some o => setStep stay k o (settleK stay wet sure k)
    | none => settleK stay wet sure k

def settleF (stay : Nat) (wet : List Wt) (sure : List ByteArray) : List ByteArray := settleK stay wet sure wet.length

theorem setStep_length (stay k : Nat) (o : Wt) (s : List ByteArray) : (setStep stay k o s).length = s.length := by
  unfold setStep; split <;> simp

theorem settleK_length (stay : Nat) (wet : List Wt) (sure : List ByteArray) : ∀ k, (settleK stay wet sure k).length = sure.length
  | 0 => rfl
  | k + 1 => by
    unfold settleK
    split
    · rw [setStep_length, settleK_length stay wet sure k]
    · exact settleK_length stay wet sure k

theorem bit_test (stay j : Nat) (h : stay < 18446744073709551616) : bits .and .u64 ((stay : Int) / 2 ^ j) 1 = if stay.testBit j = true then 1 else 0 := by
  have e : (stay : Int) / 2 ^ j = ((stay / 2 ^ j : Nat) : Int) := by
    rw [Int.natCast_ediv, Int.natCast_pow]; rfl
  have hlt : stay / 2 ^ j < 18446744073709551616 := Nat.lt_of_le_of_lt (Nat.div_le_self _ _) h
  have h1 := bits_and_u64_nat (stay / 2 ^ j) 1 hlt (by omega)
  rw [e, show (1 : Int) = ((1 : Nat) : Int) from rfl, h1, Nat.and_one_is_mod, Nat.testBit_eq_decide_div_mod_eq]
  by_cases hh : stay / 2 ^ j % 2 = 1
  · simp [hh]
  · have h2 : stay / 2 ^ j % 2 = 0 := by omega
    simp [h2]

def allBits : Nat := 18446744073709551615

/-- A disk may be handed on: few sectors, a left that is an int. -/
structure DK.ok (d : DK) : Prop where
  sure : d.sure.length ≤ 2000
  wet : d.wet.length ≤ 2000
  lo : -1 ≤ d.left
  hi : d.left ≤ 9223372036854775807

theorem deedD_ok {d : DK} (h : d.ok) : (deedD d).ok := by
  unfold deedD
  split
  · exact ⟨h.sure, h.wet, h.lo, h.hi⟩
  · split
    · exact ⟨h.sure, h.wet, by dsimp only; omega, by have := h.hi; dsimp only; omega⟩
    · exact h

/-- The disk behind a Write whose argument may be. -/
def writeD (d : DK) (at_ : Int) (data : ByteArray) : DK := if deedB d = true then { deedD d with wet := withF (at_, padB data) d.wet } else deedD d

/-- A sector, as it is to be: what stands last for it, or what it surely is. -/
def readF (wet : List Wt) (sure : List ByteArray) (a : Int) : ByteArray := match wet.reverse.find? (fun o => o.1 == a) with
  | some o => o.2
  | none => sure.getD a.toNat ByteArray.empty

/-- A deed. -/
structure AK where
  kind : Int
  place : Int
  data : ByteArray
  stay : Nat

/-- Write, whatever comes. -/
def wrOk (d : DK) (at_ : Int) (data : ByteArray) : Prop := 0 ≤ at_ ∧ at_ < d.sure.length ∧ data.size ≤ 256

instance (d : DK) (at_ : Int) (data : ByteArray) : Decidable (wrOk d at_ data) := by unfold wrOk; infer_instance

def wrD (d : DK) (at_ : Int) (data : ByteArray) : DK := if wrOk d at_ data then writeD d at_ data else d

def wrE (d : DK) (at_ : Int) (data : ByteArray) : Int := if wrOk d at_ data then (if deedB d = true then 0 else 12) else 1

/-- Read, whatever comes. -/
def rdOk (d : DK) (at_ : Int) : Prop := 0 ≤ at_ ∧ at_ < d.sure.length

instance (d : DK) (at_ : Int) : Decidable (rdOk d at_) := by unfold rdOk; infer_instance

def rdS (d : DK) (at_ : Int) : ByteArray := if rdOk d at_ ∧ d.dead = false then readF d.wet d.sure at_ else ⟨#[]⟩

def rdE (d : DK) (at_ : Int) : Int := if rdOk d at_ then (if d.dead = false then 0 else 12) else 1

def flD (d : DK) : DK := if deedB d = true then { deedD d with sure := settleF allBits d.wet d.sure, wet := [] } else deedD d

def flE (d : DK) : Int := if deedB d = true then 0 else 12

def stD (d : DK) (stay : Nat) : DK := ⟨settleF stay d.wet d.sure, [], false, -1⟩

/-- Behind a deed: the disk, what was read, the error. -/
def doesD (d : DK) (a : AK) : DK := if a.kind = 0 then wrD d a.place a.data else if a.kind = 2 then flD d else if a.kind = 3 then { d with left := max a.place (-1) } else if a.kind = 4 then stD d a.stay else d

def doesS (d : DK) (a : AK) : ByteArray := if a.kind = 1 then rdS d a.place else ⟨#[]⟩

def doesE (d : DK) (a : AK) : Int := if a.kind = 0 then wrE d a.place a.data else if a.kind = 1 then rdE d a.place else if a.kind = 2 then flE d else 0

theorem stepW_len (p : Wt) (st : List Wt × Bool) (o : Wt) : (stepW p st o).1.length + st.2.toNat ≤ st.1.length + 1 + (stepW p st o).2.toNat := by
  obtain ⟨l, b⟩ := st
  unfold stepW
  cases b <;> dsimp only <;> (repeat' split) <;> simp_all <;> omega

theorem foldW_len (p : Wt) (l : List Wt) : ∀ st : List Wt × Bool, (l.foldl (stepW p) st).1.length + st.2.toNat ≤ st.1.length + l.length + (l.foldl (stepW p) st).2.toNat := by
  induction l with
  | nil => intro st; exact Nat.le_refl _
  | cons o l ih =>
    intro st
    have h1 := stepW_len p st o
    have h2 := ih (stepW p st o)
    rw [List.foldl_cons, List.length_cons]
    omega

theorem withF_len (p : Wt) (l : List Wt) : (withF p l).length ≤ l.length + 1 := by
  have h := foldW_len p l ([], false)
  unfold withF withSt
  split
  · rename_i e
    rw [e] at h
    simp at h
    omega
  · rename_i e
    have e' : (List.foldl (stepW p) ([], false) l).2 = false := by simpa using e
    rw [e'] at h
    simp at h
    simp
    omega

/-- A disk of n sectors, at most i of which are to be something else. -/
structure Good (n i : Nat) (d : DK) : Prop where
  sure : d.sure.length = n
  wet : d.wet.length ≤ i
  lo : -1 ≤ d.left
  hi : d.left ≤ 9223372036854775807

theorem Good.ok {n i : Nat} {d : DK} (h : Good n i d) (hn : n ≤ 2000) (hi : i ≤ 2000) : d.ok := ⟨by rw [h.sure]; exact hn, Nat.le_trans h.wet hi, h.lo, h.hi⟩

theorem Good.more {n i j : Nat} {d : DK} (h : Good n i d) (hij : i ≤ j) : Good n j d := ⟨h.sure, Nat.le_trans h.wet hij, h.lo, h.hi⟩

theorem deedD_good {n i : Nat} {d : DK} (h : Good n i d) : Good n i (deedD d) := by
  unfold deedD
  split
  · exact ⟨h.sure, h.wet, h.lo, h.hi⟩
  · split
    · exact ⟨h.sure, h.wet, by dsimp only; omega, by have := h.hi; dsimp only; omega⟩
    · exact h

theorem wrD_good {n i : Nat} {d : DK} (h : Good n i d) (at_ : Int) (data : ByteArray) : Good n (i + 1) (wrD d at_ data) := by
  unfold wrD
  split
  · unfold writeD
    have g := deedD_good h
    split
    · exact ⟨g.sure, Nat.le_trans (withF_len _ _) (by have := h.wet; omega), g.lo, g.hi⟩
    · exact g.more (by omega)
  · exact h.more (by omega)

theorem flD_good {n i : Nat} {d : DK} (h : Good n i d) : Good n i (flD d) := by
  unfold flD
  have g := deedD_good h
  split
  · exact ⟨by dsimp only; rw [settleF, settleK_length]; exact h.sure, by simp, g.lo, g.hi⟩
  · exact g

theorem stD_good {n i : Nat} {d : DK} (h : Good n i d) (stay : Nat) : Good n 0 (stD d stay) :=
  ⟨by unfold stD; dsimp only; rw [settleF, settleK_length]; exact h.sure, by simp [stD], by simp [stD], by simp [stD]⟩

theorem doesD_good {n i : Nat} {d : DK} (h : Good n i d) (a : AK) (ha : a.place ≤ 9223372036854775807) : Good n (i + 1) (doesD d a) := by
  unfold doesD
  split
  · exact wrD_good h _ _
  split
  · exact (flD_good h).more (by omega)
  split
  · exact ⟨h.sure, by have := h.wet; dsimp only; omega, by dsimp only; omega, by dsimp only; omega⟩
  split
  · exact (stD_good h _).more (by omega)
  · exact h.more (by omega)

theorem newD_good (n : Nat) : Good n 0 (newD n) := ⟨by simp [newD], by simp [newD], by simp [newD], by simp [newD]⟩

/-- A disk that was started: its sectors alone. -/
def cleanD (zs : List ByteArray) : DK := ⟨zs, [], false, -1⟩

/-- And one of its sectors is to be P. -/
def oneD (zs : List ByteArray) (k : Nat) (P : ByteArray) : DK := ⟨zs, [((k : Int), P)], false, -1⟩

theorem wr_clean (zs : List ByteArray) (k : Nat) (data : ByteArray) (hk : k < zs.length) (hd : data.size ≤ 256) : wrD (cleanD zs) k data = oneD zs k (padB data) ∧ wrE (cleanD zs) k data = 0 := by
  have h : wrOk (cleanD zs) k data := ⟨by omega, by simp [cleanD]; omega, hd⟩
  unfold wrD wrE
  rw [if_pos h, if_pos h]
  simp [writeD, deedB, deedD, cleanD, oneD, withF, withSt]

theorem fl_one (zs : List ByteArray) (k : Nat) (P : ByteArray) (hk : k < zs.length) : flD (oneD zs k P) = cleanD (zs.set k P) ∧ flE (oneD zs k P) = 0 := by
  have e : settleF allBits [((k : Int), P)] zs = zs.set k P := by
    show setStep allBits 0 ((k : Int), P) zs = _
    unfold setStep
    rw [if_pos ⟨by decide, by simp, by dsimp only; omega⟩]
    simp
  simp [flD, flE, oneD, cleanD, deedB, deedD, e]

theorem rd_clean (zs : List ByteArray) (i : Nat) (hi : i < zs.length) : rdS (cleanD zs) i = zs.getD i ByteArray.empty ∧ rdE (cleanD zs) i = 0 := by
  have h : rdOk (cleanD zs) i := ⟨by omega, by simp [cleanD]; omega⟩
  unfold rdS rdE
  rw [if_pos ⟨h, rfl⟩, if_pos h]
  simp [cleanD, readF]

theorem rd_one (zs : List ByteArray) (k i : Nat) (P : ByteArray) (hi : i < zs.length) : rdS (oneD zs k P) i = (if i = k then P else zs.getD i ByteArray.empty) ∧ rdE (oneD zs k P) i = 0 := by
  have h : rdOk (oneD zs k P) i := ⟨by omega, by simp [oneD]; omega⟩
  unfold rdS rdE
  rw [if_pos ⟨h, rfl⟩, if_pos h]
  by_cases e : i = k
  · simp [oneD, readF, e]
  · have e' : ¬ (k : Int) = (i : Int) := by omega
    simp [oneD, readF, e, e']

theorem clean_ok {zs : List ByteArray} (h : zs.length = 5) : (cleanD zs).ok := ⟨by simp [cleanD]; omega, by simp [cleanD], by simp [cleanD], by simp [cleanD]⟩

theorem one_ok {zs : List ByteArray} (h : zs.length = 5) (k : Nat) (P : ByteArray) : (oneD zs k P).ok := ⟨by simp [oneD]; omega, by simp [oneD], by simp [oneD], by simp [oneD]⟩

theorem bytes_ne {a b : ByteArray} (h : ¬ a = b) : (a.toList == b.toList) = false := by
  rw [ByteArray.toList_eq, ByteArray.toList_eq, Bool.eq_false_iff]
  intro e
  have e1 := eq_of_beq e
  apply h
  cases a with | mk x => cases b with | mk y => simpa using e1

theorem step_mem (p : Wt) (st : List Wt × Bool) (o x : Wt) (h : x ∈ (stepW p st o).1) : x ∈ st.1 ∨ x = p ∨ (x = o ∧ o.1 ≠ p.1) := by
  obtain ⟨l, b⟩ := st
  unfold stepW at h
  by_cases h1 : b = false ∧ p.1 < o.1
  · by_cases h2 : o.1 = p.1
    · omega
    · simp [h1.1, h1.2, h2] at h
      rcases h with h | h | h
      · exact .inl h
      · exact .inr (.inl h)
      · exact .inr (.inr ⟨h, h2⟩)
  · dsimp only at h
    rw [if_neg h1] at h
    by_cases h2 : o.1 = p.1
    · rw [if_pos h2] at h
      exact .inl h
    · rw [if_neg h2] at h
      simp at h
      rcases h with h | h
      · exact .inl h
      · exact .inr (.inr ⟨h, h2⟩)

theorem fold_mem (p : Wt) (l : List Wt) : ∀ (st : List Wt × Bool) (x : Wt), x ∈ (l.foldl (stepW p) st).1 → x ∈ st.1 ∨ x = p ∨ (x ∈ l ∧ x.1 ≠ p.1) := by
  induction l with
  | nil => intro st x h; exact .inl h
  | cons o l ih =>
    intro st x h
    rw [List.foldl_cons] at h
    rcases ih _ x h with h | h | h
    · rcases step_mem p st o x h with h | h | ⟨rfl, h⟩
      · exact .inl h
      · exact .inr (.inl h)
      · exact .inr (.inr ⟨by simp, h⟩)
    · exact .inr (.inl h)
    · exact .inr (.inr ⟨by simp [h.1], h.2⟩)

theorem with_mem (p : Wt) (l : List Wt) (x : Wt) (h : x ∈ withF p l) : x = p ∨ (x ∈ l ∧ x.1 ≠ p.1) := by
  have hf := fold_mem p l ([], false) x
  unfold withF withSt at h
  split at h
  · rcases hf h with h | h | h
    · cases h
    · exact .inl h
    · exact .inr h
  · rcases List.mem_append.1 h with h | h
    · rcases hf h with h | h | h
      · cases h
      · exact .inl h
      · exact .inr h
    · exact .inl (by simpa using h)

/-- Of one place there is one. -/
def Uniq (l : List Wt) : Prop := ∀ o ∈ l, ∀ x ∈ l, o.1 = x.1 → o = x

theorem Uniq.with_ {l : List Wt} (h : Uniq l) (p : Wt) : Uniq (withF p l) := by
  intro o ho x hx e
  rcases with_mem p l o ho with rfl | ⟨h1, h2⟩
  · rcases with_mem o l x hx with rfl | ⟨_, h4⟩
    · rfl
    · exact absurd e.symm h4
  · rcases with_mem p l x hx with rfl | ⟨h3, _⟩
    · exact absurd e h2
    · exact h o h1 x h3 e

theorem settle_at (stay : Nat) (wet : List Wt) (zs : List ByteArray) (j : Nat) : ∀ k, (settleK stay wet zs k).getD j ByteArray.empty = zs.getD j ByteArray.empty ∨ ∃ o ∈ wet, o.1 = (j : Int) ∧ (settleK stay wet zs k).getD j ByteArray.empty = o.2
  | 0 => .inl rfl
  | k + 1 => by
    unfold settleK
    split
    · rename_i o ho
      unfold setStep
      split
      · rename_i hc
        by_cases e : o.1.toNat = j
        · refine .inr ⟨o, List.mem_of_getElem? ho, by omega, ?_⟩
          have hlen : j < (settleK stay wet zs k).length := by omega
          rw [e]
          simp [List.getD_eq_getElem?_getD, hlen]
        · rw [List.getD_eq_getElem?_getD, List.getElem?_set, if_neg e, ← List.getD_eq_getElem?_getD]
          exact settle_at stay wet zs j k
      · exact settle_at stay wet zs j k
    · exact settle_at stay wet zs j k

theorem read_uniq {wet : List Wt} (h : Uniq wet) (zs : List ByteArray) (j : Nat) (o : Wt) (ho : o ∈ wet) (hj : o.1 = (j : Int)) : readF wet zs j = o.2 := by
  unfold readF
  cases e : wet.reverse.find? (fun o => o.1 == (j : Int)) with
  | none =>
    have := List.find?_eq_none.1 e o (by simpa using ho)
    simp [hj] at this
  | some x =>
    have h1 := List.find?_some e
    have h2 := List.mem_of_find?_eq_some e
    have h3 : x = o := h x (by simpa using h2) o ho (by rw [hj]; simpa using h1)
    rw [h3]

/-- A disk that was sure, and what is to be in it. -/
structure SureD (zs : List ByteArray) (i : Nat) (D : DK) : Prop where
  sure : D.sure = zs
  wet : D.wet.length ≤ i
  dead : D.dead = false
  left : D.left = -1
  uniq : Uniq D.wet

theorem SureD.ok {zs : List ByteArray} {i : Nat} {D : DK} (h : SureD zs i D) (hz : zs.length = 5) (hi : i ≤ 60) : D.ok :=
  ⟨by rw [h.sure]; omega, by have := h.wet; omega, by have := h.left; omega, by have := h.left; omega⟩

theorem SureD.more {zs : List ByteArray} {i j : Nat} {D : DK} (h : SureD zs i D) (hij : i ≤ j) : SureD zs j D := ⟨h.sure, Nat.le_trans h.wet hij, h.dead, h.left, h.uniq⟩

theorem SureD.write {zs : List ByteArray} {i : Nat} {D : DK} (h : SureD zs i D) (at_ : Int) (data : ByteArray) : SureD zs (i + 1) (wrD D at_ data) := by
  unfold wrD
  split
  · have e1 : deedB D = true := by simp [deedB, h.dead, h.left]
    have e2 : deedD D = D := by simp [deedD, h.dead, h.left]
    unfold writeD
    rw [if_pos e1, e2]
    exact ⟨h.sure, Nat.le_trans (withF_len _ _) (by have := h.wet; omega), h.dead, h.left, h.uniq.with_ _⟩
  · exact h.more (by omega)

/-- What is there behind a start: what was sure, or what was to be. -/
theorem SureD.end_ {zs : List ByteArray} {i : Nat} {D : DK} (h : SureD zs i D) (stay j : Nat) : (settleF stay D.wet zs).getD j ByteArray.empty = zs.getD j ByteArray.empty ∨ (settleF stay D.wet zs).getD j ByteArray.empty = readF D.wet zs j := by
  rcases settle_at stay D.wet zs j D.wet.length with e | ⟨o, ho, hj, e⟩
  · exact .inl e
  · refine .inr ?_
    rw [read_uniq h.uniq zs j o ho hj]
    exact e

/-- The first one of a place. -/
def findF (wet : List Wt) (sure : List ByteArray) (a : Int) : ByteArray := match wet.find? (fun o => o.1 == a) with
  | some o => o.2
  | none => sure.getD a.toNat ByteArray.empty

theorem find_hit (wet : List Wt) (sure : List ByteArray) (a : Int) (k : Nat) (o : Wt) (h : ∀ j x, j < k → wet[j]? = some x → x.1 ≠ a) (hk : wet[k]? = some o) (ho : o.1 = a) : findF wet sure a = o.2 := by
  have e : wet.find? (fun o => o.1 == a) = some o := by
    induction wet generalizing k with
    | nil => simp at hk
    | cons y l ih =>
      cases k with
      | zero =>
        simp at hk
        subst hk
        simp [ho]
      | succ k =>
        have h0 := h 0 y (by omega) rfl
        have hf : (y.1 == a) = false := by simpa using h0
        rw [List.find?_cons, hf]
        exact ih k (fun j x hj hx => h (j + 1) x (by omega) (by simpa using hx)) (by simpa using hk)
  unfold findF
  rw [e]

theorem find_miss (wet : List Wt) (sure : List ByteArray) (a : Int) (h : ∀ (j : Nat) x, wet[j]? = some x → x.1 ≠ a) : findF wet sure a = sure.getD a.toNat ByteArray.empty := by
  have e : wet.find? (fun o => o.1 == a) = none := by
    rw [List.find?_eq_none]
    intro x hx
    obtain ⟨j, hj⟩ := List.getElem?_of_mem hx
    simpa using h j x hj
  unfold findF
  rw [e]

/-- Places rise. -/
def Rising (l : List Wt) : Prop := List.Pairwise (fun a b : Wt => a.1 < b.1) l

theorem fold_placed (p : Wt) (l : List Wt) : ∀ acc : List Wt, l.foldl (stepW p) (acc, true) = (acc ++ l.filter (fun o => decide (o.1 ≠ p.1)), true) := by
  induction l with
  | nil => intro acc; simp
  | cons o l ih =>
    intro acc
    rw [List.foldl_cons]
    by_cases h : o.1 = p.1
    · have e : stepW p (acc, true) o = (acc, true) := by simp [stepW, h]
      rw [e, ih]
      simp [h]
    · have e : stepW p (acc, true) o = (acc ++ [o], true) := by simp [stepW, h]
      rw [e, ih]
      simp [h]

theorem fold_low (p : Wt) (l : List Wt) : ∀ acc : List Wt, (∀ o ∈ l, o.1 < p.1) → l.foldl (stepW p) (acc, false) = (acc ++ l, false) := by
  induction l with
  | nil => intro acc _; simp
  | cons o l ih =>
    intro acc h
    have h0 := h o (by simp)
    rw [List.foldl_cons, stepW_one p o acc (by omega) (by omega), ih _ (fun x hx => h x (by simp [hx]))]
    simp

theorem fold_high (p : Wt) (r : List Wt) : ∀ acc : List Wt, (∀ o ∈ r, p.1 ≤ o.1) → (if (r.foldl (stepW p) (acc, false)).2 = true then (r.foldl (stepW p) (acc, false)).1 else (r.foldl (stepW p) (acc, false)).1 ++ [p]) = acc ++ [p] ++ r.filter (fun o => decide (o.1 ≠ p.1)) := by
  induction r with
  | nil => intro acc _; simp
  | cons o r ih =>
    intro acc h
    have h0 := h o (by simp)
    rw [List.foldl_cons]
    by_cases e : o.1 = p.1
    · have e1 : stepW p (acc, false) o = (acc, false) := by simp [stepW, e]
      rw [e1, ih acc (fun x hx => h x (by simp [hx]))]
      simp [e]
    · rw [stepW_two p o acc (by omega), fold_placed]
      simp [e]

theorem drop_high {p : Wt} {l : List Wt} (h : Rising l) : ∀ o ∈ l.dropWhile (fun o => decide (o.1 < p.1)), p.1 ≤ o.1 := by
  induction l with
  | nil => intro o ho; cases ho
  | cons x l ih =>
    intro o ho
    have hp := List.pairwise_cons.1 h
    by_cases e : x.1 < p.1
    · rw [List.dropWhile_cons_of_pos (by simpa using e)] at ho
      exact ih hp.2 o ho
    · rw [List.dropWhile_cons_of_neg (by simpa using e)] at ho
      rcases List.mem_cons.1 ho with rfl | ho
      · omega
      · have := hp.1 o ho
        omega

theorem take_low {p : Wt} {l : List Wt} : ∀ o ∈ l.takeWhile (fun o => decide (o.1 < p.1)), o.1 < p.1 := by
  intro o ho
  have := List.all_takeWhile (p := fun o : Wt => decide (o.1 < p.1)) (l := l)
  rw [List.all_eq_true] at this
  simpa using this o ho

/-- What Write comes to: those below, the new one, those above. -/
theorem with_ins {p : Wt} {l : List Wt} (h : Rising l) : withF p l = l.takeWhile (fun o => decide (o.1 < p.1)) ++ [p] ++ (l.dropWhile (fun o => decide (o.1 < p.1))).filter (fun o => decide (o.1 ≠ p.1)) := by
  have e : withSt p l = (l.dropWhile (fun o => decide (o.1 < p.1))).foldl (stepW p) (l.takeWhile (fun o => decide (o.1 < p.1)), false) := by
    unfold withSt
    conv => lhs; rw [← List.takeWhile_append_dropWhile (p := fun o : Wt => decide (o.1 < p.1)) (l := l)]
    rw [List.foldl_append, fold_low p _ [] take_low]
    simp
  unfold withF
  rw [e]
  exact fold_high p _ _ (drop_high h)

theorem Rising.with_ {l : List Wt} (h : Rising l) (p : Wt) : Rising (withF p l) := by
  rw [with_ins h]
  unfold Rising at *
  rw [List.pairwise_append, List.pairwise_append]
  have hs : List.Pairwise (fun a b : Wt => a.1 < b.1) (l.takeWhile (fun o => decide (o.1 < p.1)) ++ l.dropWhile (fun o => decide (o.1 < p.1))) := by rw [List.takeWhile_append_dropWhile]; exact h
  rw [List.pairwise_append] at hs
  have hd : ∀ o ∈ (l.dropWhile (fun o => decide (o.1 < p.1))).filter (fun o => decide (o.1 ≠ p.1)), p.1 < o.1 := by
    intro o ho
    obtain ⟨h1, h2⟩ := List.mem_filter.1 ho
    have h3 := drop_high (p := p) h o h1
    have h4 : o.1 ≠ p.1 := by simpa using h2
    omega
  refine ⟨⟨hs.1, by simp, fun a ha b hb => ?_⟩, hs.2.1.filter _, fun a ha b hb => ?_⟩
  · simp at hb
    subst hb
    exact take_low a ha
  · rcases List.mem_append.1 ha with ha | ha
    · have := take_low a ha
      have := hd b hb
      omega
    · simp at ha
      subst ha
      exact hd b hb

theorem Rising.uniq {l : List Wt} (h : Rising l) : Uniq l := by
  induction l with
  | nil => intro o ho; cases ho
  | cons x l ih =>
    have hp := List.pairwise_cons.1 h
    intro o ho y hy e
    rcases List.mem_cons.1 ho with h1 | h1
    · rcases List.mem_cons.1 hy with h2 | h2
      · rw [h1, h2]
      · have := hp.1 y h2
        rw [← h1] at this
        omega
    · rcases List.mem_cons.1 hy with h2 | h2
      · have := hp.1 o h1
        rw [← h2] at this
        omega
      · exact ih hp.2 o h1 y h2 e

/-- The first one of a place is the last one. -/
theorem find_read {wet : List Wt} (h : Uniq wet) (zs : List ByteArray) (j : Nat) : findF wet zs j = readF wet zs j := by
  unfold findF
  cases e : wet.find? (fun o => o.1 == (j : Int)) with
  | some o =>
    have h1 := List.find?_some e
    have h2 := List.mem_of_find?_eq_some e
    rw [read_uniq h zs j o h2 (by simpa using h1)]
  | none =>
    have hn := List.find?_eq_none.1 e
    have e2 : wet.reverse.find? (fun o => o.1 == (j : Int)) = none := by
      rw [List.find?_eq_none]
      intro x hx
      exact hn x (by simpa using hx)
    unfold readF
    rw [e2]

/-- What is to be somewhere lies in the disk. -/
def WetIn (d : DK) : Prop := ∀ o ∈ d.wet, 0 ≤ o.1 ∧ o.1 < d.sure.length

/-- A disk of n sectors behind i deeds. -/
structure Pl (n i : Nat) (D : DK) : Prop where
  good : Good n i D
  rise : Rising D.wet
  inn : WetIn D

theorem Pl.ok {n i : Nat} {D : DK} (h : Pl n i D) (hn : n ≤ 2000) (hi : i ≤ 2000) : D.ok := h.good.ok hn hi

theorem deedD_wet (d : DK) : (deedD d).wet = d.wet := by unfold deedD; split <;> (try split) <;> rfl

theorem deedD_sure (d : DK) : (deedD d).sure = d.sure := by unfold deedD; split <;> (try split) <;> rfl

theorem WetIn.deed {d : DK} (h : WetIn d) : WetIn (deedD d) := by
  unfold WetIn
  rw [deedD_wet, deedD_sure]; exact h

theorem wetIn_nil {d : DK} (h : d.wet = []) : WetIn d := by
  unfold WetIn
  rw [h]; intro o ho; cases ho

theorem rising_nil : Rising [] := List.Pairwise.nil

theorem wrD_pl {n i : Nat} {D : DK} (h : Pl n i D) (at_ : Int) (data : ByteArray) : Pl n (i + 1) (wrD D at_ data) := by
  refine ⟨wrD_good h.good at_ data, ?_, ?_⟩
  · unfold wrD
    split
    · unfold writeD
      split
      · exact h.rise.with_ _
      · rw [deedD_wet]; exact h.rise
    · exact h.rise
  · unfold wrD
    split
    · rename_i hok
      unfold writeD
      split
      · intro o ho
        show 0 ≤ o.1 ∧ o.1 < (deedD D).sure.length
        rw [deedD_sure]
        rcases with_mem _ _ _ ho with rfl | ⟨ho, _⟩
        · exact ⟨hok.1, hok.2.1⟩
        · exact h.inn o ho
      · exact h.inn.deed
    · exact h.inn

theorem flD_pl {n i : Nat} {D : DK} (h : Pl n i D) : Pl n i (flD D) := by
  refine ⟨flD_good h.good, ?_, ?_⟩
  · unfold flD
    split
    · exact rising_nil
    · rw [deedD_wet]; exact h.rise
  · unfold flD
    split
    · exact wetIn_nil rfl
    · exact h.inn.deed

theorem doesD_pl {n i : Nat} {D : DK} (h : Pl n i D) (a : AK) (ha : a.place ≤ 9223372036854775807) : Pl n (i + 1) (doesD D a) := by
  refine ⟨doesD_good h.good a ha, ?_, ?_⟩
  · unfold doesD
    split
    · exact (wrD_pl h _ _).rise
    · split
      · exact (flD_pl h).rise
      · split
        · exact h.rise
        · split
          · exact rising_nil
          · exact h.rise
  · unfold doesD
    split
    · exact (wrD_pl h _ _).inn
    · split
      · exact (flD_pl h).inn
      · split
        · exact h.inn
        · split
          · exact wetIn_nil rfl
          · exact h.inn

/-- The disk that is none. -/
def zeroD : DK := ⟨[], [], false, 0⟩

/-- What an armed disk is, behind so many deeds that were done. -/
structure DieD (zs : List ByteArray) (i done q : Nat) (D : DK) : Prop where
  sure : D.sure = zs
  wet : D.wet.length ≤ i
  left : D.left = (q : Int) - done
  dead : D.dead = true → done = q
  dq : done ≤ q

theorem DieD.ok {zs : List ByteArray} {i done q : Nat} {D : DK} (h : DieD zs i done q D) (hz : zs.length = 5) (hi : i ≤ 60) (hq : q < 20) : D.ok :=
  ⟨by rw [h.sure]; omega, by have := h.wet; omega, by have := h.left; have := h.dq; omega, by have := h.left; omega⟩

theorem DieD.deed {zs : List ByteArray} {i done q : Nat} {D : DK} (h : DieD zs i done q D) : deedB D = decide (done < q) := by
  unfold deedB
  have h1 := h.left
  have h2 := h.dq
  by_cases hd : done < q
  · have e1 : D.dead = false := by
      cases e : D.dead with
      | false => rfl
      | true => have := h.dead e; omega
    have e2 : (D.left == 0) = false := by simp; omega
    rw [e1, e2]
    simp [hd]
  · have e2 : (D.left == 0) = true := by simp; omega
    rw [e2]
    simp [hd]

theorem DieD.bad {zs : List ByteArray} {i done q : Nat} {D : DK} (h : DieD zs i done q D) (at_ : Int) (data : ByteArray) (hz : zs.length = 5) (hb : at_ < 0 ∨ 5 ≤ at_ ∨ 256 < data.size) : wrE D at_ data = 1 ∧ DieD zs (i + 1) done q (wrD D at_ data) := by
  have hn : ¬ wrOk D at_ data := by
    unfold wrOk
    rw [h.sure, hz]
    omega
  unfold wrE wrD
  rw [if_neg hn, if_neg hn]
  exact ⟨rfl, h.sure, by have := h.wet; omega, h.left, h.dead, h.dq⟩

theorem DieD.does {zs : List ByteArray} {i done q : Nat} {D : DK} (h : DieD zs i done q D) (at_ : Int) (data : ByteArray) (hz : zs.length = 5) (h0 : 0 ≤ at_) (h5 : at_ < 5) (h2 : data.size ≤ 256) (hd : done < q) : wrE D at_ data = 0 ∧ DieD zs (i + 1) (done + 1) q (wrD D at_ data) := by
  have hn : wrOk D at_ data := by
    unfold wrOk
    rw [h.sure, hz]
    omega
  have hdb := h.deed
  rw [decide_eq_true hd] at hdb
  unfold wrE wrD writeD
  rw [if_pos hn, if_pos hn, if_pos hdb, if_pos hdb]
  have e1 : ¬ (D.dead = true ∨ D.left = 0) := by
    simp [deedB] at hdb
    simp [hdb]
  have e2 : 0 < D.left := by have := h.left; omega
  have hl := withF_len (at_, padB data) D.wet
  have hw := h.wet
  have hlf := h.left
  refine ⟨rfl, ?_⟩
  unfold deedD
  rw [if_neg e1, if_pos e2]
  exact ⟨h.sure, by dsimp only; omega, by dsimp only; omega, fun e => by have := h.dead e; omega, by omega⟩

theorem DieD.down {zs : List ByteArray} {i done q : Nat} {D : DK} (h : DieD zs i done q D) (at_ : Int) (data : ByteArray) (hz : zs.length = 5) (h0 : 0 ≤ at_) (h5 : at_ < 5) (h2 : data.size ≤ 256) (hd : ¬ done < q) : wrE D at_ data = 12 ∧ DieD zs (i + 1) done q (wrD D at_ data) := by
  have hn : wrOk D at_ data := by
    unfold wrOk
    rw [h.sure, hz]
    omega
  have hdb := h.deed
  rw [decide_eq_false hd] at hdb
  have hdb' : ¬ deedB D = true := by rw [hdb]; simp
  unfold wrE wrD writeD
  rw [if_pos hn, if_pos hn, if_neg hdb', if_neg hdb']
  have hw := h.wet
  have hlf := h.left
  have hdq := h.dq
  refine ⟨rfl, ?_⟩
  unfold deedD
  rw [if_pos (.inr (by omega))]
  exact ⟨h.sure, by dsimp only; omega, hlf, fun _ => by omega, hdq⟩

/-- Where no bit stays, what is to be is gone. -/
theorem settle_zero (wet : List Wt) (sure : List ByteArray) : ∀ k, settleK 0 wet sure k = sure
  | 0 => rfl
  | k + 1 => by
    unfold settleK
    split
    · unfold setStep
      rw [settle_zero wet sure k, if_neg (by simp)]
    · exact settle_zero wet sure k

end Go.Proofs.YtnbbijpmkhdgpaaGreat.Dsk
