/- A region whose order is drawn, by an invariant over what is done; the operations on a box of type 28, over any frame. No statement is proved here. -/
import Derived.Test.YtnnbbkfdijionaaAwakeC
namespace Go.Proofs.Ytnnbbkfdijionaa
open Go.RowKit

theorem op_load28 {o : Oper} {a : Act} {w : World} {K : Act → World → Prop} {Q : Exit → Act → World → Prop} {t : Tmp} {g : Nat} {u0 u1 u2 u3 : Value} (ho : o.op = .load 28 (.tmp t)) (hp : a.eval (.tmp t) = .pointer (some ⟨g, 0, none⟩))
    (hb : w.heap[g]? = some (.cells #[u0, u1, u2, u3] 28 (0, 0))) (hK : K (a.put o.dst (.agg #[u0, u1, u2, u3])) w) : o.wp Try.prog a w K Q := by
  obtain ⟨⟨c0, c1, c2, c3⟩, _⟩ := box4 hb
  unfold Oper.wp
  simp only [execOp, ho]
  rw [hp]
  simp [go_sem, c0, c1, c2, c3]
  exact hK

theorem op_alloc28 {o : Oper} {a : Act} {w : World} {K : Act → World → Prop} {Q : Exit → Act → World → Prop} (ho : o.op = .alloc 28)
    (hK : K (a.put o.dst (.pointer (some ⟨w.heap.size, 0, none⟩))) (w.alloc (.cells #[.slice none 0 0, .slice none 0 0, .bool false, .int .i64 0] 28))) : o.wp Try.prog a w K Q := by
  unfold Oper.wp
  simp only [execOp, ho]
  simp [go_sem]
  exact hK

theorem op_store28 {o : Oper} {a : Act} {w : World} {K : Act → World → Prop} {Q : Exit → Act → World → Prop} {t t' : Tmp} {g : Nat} {v0 v1 v2 v3 : Value} {A B : Option Addr} {n c m d : Nat} {b : Bool} {l : Int} (ho : o.op = .store 28 (.tmp t) (.tmp t')) (hp : a.eval (.tmp t) = .pointer (some ⟨g, 0, none⟩))
    (hv : a.eval (.tmp t') = .agg #[.slice A n c, .slice B m d, .bool b, .int .i64 l]) (hb : w.heap[g]? = some (.cells #[v0, v1, v2, v3] 28 (0, 0)))
    (hK : ∀ w2, w2.heap[g]? = some (.cells #[.slice A n c, .slice B m d, .bool b, .int .i64 l] 28 (0, 0)) → (∀ k : Nat, k ≠ g → w2.heap[k]? = w.heap[k]?) → (∀ (B : Nat) (a : World), Below B a w → B ≤ g → Below B a w2) → K (a.put o.dst undef) w2) : o.wp Try.prog a w K Q := by
  obtain ⟨⟨c0, c1, c2, c3⟩, f0, f1, f2, f3⟩ := box4 hb
  obtain ⟨w2, e2, h1, h2, h3⟩ := box_store4 hb (.slice A n c) (.slice B m d) (.bool b) (.int .i64 l)
  unfold Oper.wp
  simp only [execOp, ho]
  rw [hp, hv]
  simp [go_sem, c0, c1, c2, c3, f0, f1, f2, f3]
  rw [e2]
  exact hK w2 h1 h2 h3

theorem op_call {o : Oper} {a : Act} {w : World} {K : Act → World → Prop} {Q : Exit → Act → World → Prop} {t : Tmp} {k : Value} (ho : o.op = .call { callee := .value (.func 20), args := #[.tmp t, .const k], argTypes := #[28, 33] })
    (hc : Calls Try.prog 20 #[a.eval (.tmp t), k] w fun e w' => ∃ v, e = .returned v ∧ K (a.put o.dst v) w') : o.wp Try.prog a w K Q := by
  unfold Oper.wp
  simp only [execOp, ho]
  have he : ∀ args W, (callFunc 20 args).run Try.prog W = .ok (.enter 20 args) W := enters_of Try.func20 (by kernel_rfl) rfl
  simp [go_sem, resolve, invoke, Act.eval, he] at hc ⊢
  refine hc.mono ?_
  rintro e w' ⟨v, rfl, hk⟩
  exact hk

theorem count_set_false : ∀ (L : List Bool) (i : Nat), L[i]? = some false → (L.set i true).count false + 1 = L.count false
  | [], _, h => by cases h
  | b :: L, 0, h => by
    simp at h
    subst h
    simp
  | b :: L, i + 1, h => by
    have := count_set_false L i (by simpa using h)
    cases b <;> simp [List.set_cons_succ, List.count_cons] <;> omega

/-- A region whose order is drawn: what holds at its start, and is handed on by every operation that is ready, holds at its end. -/
theorem wpAny_inv {P : Program} {md : Region.Mode} {ops : Array Oper} {Q : Exit → Act → World → Prop} (Inv : Array Bool → Act → World → Prop)
    (hstep : ∀ listed a w i, Inv listed a w → i ∈ Region.ready md ops listed → wpOp P ops Q i (Inv (listed.setIfInBounds i true)) a w)
    (hend : ∀ listed a w, Inv listed a w → Region.ready md ops listed = [] → Q .normal a w) (hsz : ∀ listed a w, Inv listed a w → listed.size = ops.size) :
    ∀ fuel listed a w, listed.toList.count false ≤ fuel → Inv listed a w → wpAny P md ops Q fuel listed a w := by
  intro fuel
  induction fuel with
  | zero =>
    intro listed a w hc hI
    have hr : Region.ready md ops listed = [] := by
      unfold Region.ready
      rw [List.filter_eq_nil_iff]
      intro i hi
      have h1 : listed.getD i true = true := by
        by_cases hlt : i < listed.size
        · have hm : listed[i] ∈ listed.toList := by simp
          cases hb : listed[i] with
          | true => simp [Array.getD, hlt, hb]
          | false =>
            rw [hb] at hm
            have := List.count_pos_iff.2 hm
            omega
        · simp [Array.getD, hlt]
      simp [h1]
    exact ⟨hr, hend listed a w hI hr⟩
  | succ fuel ih =>
    intro listed a w hc hI
    refine ⟨hend listed a w hI, fun i hi => ?_⟩
    refine wpOp_mono (fun a' w' h => ih _ a' w' ?_ h) (hstep listed a w i hI hi)
    have hs := hsz listed a w hI
    unfold Region.ready at hi
    rw [List.mem_filter] at hi
    have hlt : i < listed.size := by rw [hs]; simpa using hi.1
    have hf : listed[i] = false := by
      have := hi.2
      simp [Array.getD, hlt] at this
      exact this.1
    have : (listed.setIfInBounds i true).toList.count false + 1 = listed.toList.count false := by
      rw [Array.toList_setIfInBounds]
      exact count_set_false listed.toList i (by simp [hlt, hf])
    omega

end Go.Proofs.Ytnnbbkfdijionaa
