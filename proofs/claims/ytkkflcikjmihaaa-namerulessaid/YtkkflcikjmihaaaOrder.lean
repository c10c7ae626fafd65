/- Places stand in order and lead back: plain mathematics. No statement is proved here. -/
import Derived.Test.YtkkflcikjmihaaaBack
namespace Go.Proofs.Ytkkflcikjmihaaa
open Go.RowKit

theorem tn_less (a b : Int) (ha : 0 ≤ a) (ha' : a < 9223372036854775808) (hb : 0 ≤ b) (hb' : b < 9223372036854775808) : (tn a < tn b) ↔ b < a := by
  unfold tn
  omega
theorem nb_less (a b : Int) (ha : 0 ≤ a) (ha' : a < 9223372036854775808) (hb : 0 ≤ b) (hb' : b < 9223372036854775808) : Op.bytesLess (nb 8 (tn a)) (nb 8 (tn b)) = decide (b < a) := by
  rw [less_num _ _ (by rw [nb_len, nb_len]), numL_nb, numL_nb, Nat.mod_eq_of_lt (tn_lt a), Nat.mod_eq_of_lt (tn_lt b)]
  exact decide_eq_decide.2 (tn_less a b ha ha' hb hb')

theorem index_less (s : List UInt8) (a b : Int) (ha : 0 ≤ a) (ha' : a < 9223372036854775808) (hb : 0 ≤ b) (hb' : b < 9223372036854775808) : ∀ (t : List UInt8), (∀ x ∈ s, x ≠ 0) → (∀ x ∈ t, x ≠ 0) →
    Op.bytesLess (indexL s a) (indexL t b) = (Op.bytesLess s t || (s == t && decide (b < a))) := by
  unfold indexL
  induction s with
  | nil =>
    intro t hs ht
    cases t with
    | nil =>
      simp only [List.nil_append, Op.bytesLess, nb_less a b ha ha' hb hb']
      simp
    | cons y t =>
      have hy : (0 : UInt8) < y := by
        have := ht y (List.mem_cons_self ..)
        rw [UInt8.lt_iff_toNat_lt]
        have h2 : y.toNat ≠ 0 := fun e => this (UInt8.toNat_inj.1 e)
        show 0 < y.toNat
        omega
      simp [Op.bytesLess, hy]
  | cons x s ih =>
    intro t hs ht
    cases t with
    | nil =>
      have hx : ¬ x = 0 := hs x (List.mem_cons_self ..)
      have hx' : ¬ x < 0 := by rw [UInt8.lt_iff_toNat_lt]; exact Nat.not_lt_zero _
      simp [Op.bytesLess, hx, hx']
    | cons y t =>
      have h := ih t (fun z hz => hs z (List.mem_cons_of_mem _ hz)) (fun z hz => ht z (List.mem_cons_of_mem _ hz))
      simp only [List.cons_append, Op.bytesLess] at h ⊢
      rw [h, List.cons_beq_cons]
      cases decide (x < y) <;> cases (x == y) <;> simp

theorem index_eq (s t : List UInt8) (a b : Int) (ha : 0 ≤ a) (ha' : a < 9223372036854775808) (hb : 0 ≤ b) (hb' : b < 9223372036854775808) :
    (indexL s a == indexL t b) = (s == t && decide (a = b)) := by
  rw [Bool.eq_iff_iff, Bool.and_eq_true, beq_iff_eq, beq_iff_eq, decide_eq_true_iff]
  constructor
  · intro h
    unfold indexL at h
    have hl : s.length = t.length := by
      have := congrArg List.length h
      simp only [List.length_append, List.length_cons, nb_len] at this
      omega
    obtain ⟨h1, h2⟩ := List.append_inj h hl
    refine ⟨h1, ?_⟩
    have h3 : nb 8 (tn a) = nb 8 (tn b) := (List.cons.inj h2).2
    have h4 := congrArg numL h3
    rw [numL_nb, numL_nb, Nat.mod_eq_of_lt (tn_lt a), Nat.mod_eq_of_lt (tn_lt b)] at h4
    unfold tn at h4
    omega
  · rintro ⟨rfl, rfl⟩
    rfl

theorem back_index (s : List UInt8) (a : Int) (hs : keyOK s = true) (h0 : -9223372036854775808 ≤ a) (h1 : a < 9223372036854775808) :
    backOK (indexL s a) = true ∧ backK (indexL s a) = s ∧ backN (indexL s a) = a := by
  have hl : (indexL s a).length = s.length + 9 := by simp [indexL, nb_len]
  have ht : (indexL s a).take s.length = s := by simp [indexL]
  have hg : (indexL s a).getD s.length 1 = 0 := by simp [indexL]
  have hd : (indexL s a).drop (s.length + 1) = nb 8 (tn a) := by
    unfold indexL
    rw [List.drop_append, List.drop_of_length_le (by omega), List.nil_append, show s.length + 1 - s.length = 1 by omega]
    rfl
  have hO : backOK (indexL s a) = true := by
    rw [backOK_is _ _ hl, hg, ht, hs]
    rfl
  obtain ⟨h2, h3⟩ := back_yes _ _ hl hO
  refine ⟨hO, h2.trans ht, ?_⟩
  rw [h3, hd, numL_nb, Nat.mod_eq_of_lt (tn_lt a), bk_tn a h0 h1]
end Go.Proofs.Ytkkflcikjmihaaa
