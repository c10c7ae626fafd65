/- Contracts and plain mathematics that the statement's proof wants: no statement is proved here, nothing is assumed. -/
import Derived.Deep.MidRow
import Derived.Test.YtnbbijpmkhdgpaaGreatMg40
/- LKOps -/
namespace Go.Proofs.YtnbbijpmkhdgpaaGreat.Vlt
open Go.RowKit Go.Sort
open Dsk

theorem count_set_false : ∀ (L : List Bool) (i : Nat), L[i]? = some false → (L.set i true).count false + 1 = L.count false
  | [], _, h => by cases h
  | b :: L, 0, h => by
    simp at h
    subst h
    simp
  | b :: L, i + 1, h => by
    have := count_set_false L i (by simpa using h)
    cases b <;> simp [List.set_cons_succ, List.count_cons] <;> omega

/-- A region whose order is drawn: what holds at its start, and is handed on by every operation that is ready, holds at its end. -/
theorem wpAny_inv {P : Program} {md : Region.Mode} {ops : Array Oper} {Q : Exit → Act → World → Prop} (Inv : Array Bool → Act → World → Prop)
    (hstep : ∀ listed a w i, Inv listed a w → i ∈ Region.ready md ops listed → wpOp P ops Q i (Inv (listed.setIfInBounds i true)) a w)
    (hend : ∀ listed a w, Inv listed a w → Region.ready md ops listed = [] → Q .normal a w) (hsz : ∀ listed a w, Inv listed a w → listed.size = ops.size) :
    ∀ fuel listed a w, listed.toList.count false ≤ fuel → Inv listed a w → wpAny P md ops Q fuel listed a w := by
  intro fuel
  induction fuel with
  | zero =>
    intro listed a w hc hI
    have hr : Region.ready md ops listed = [] := by
      unfold Region.ready
      rw [List.filter_eq_nil_iff]
      intro i hi
      have h1 : listed.getD i true = true := by
        by_cases hlt : i < listed.size
        · have hm : listed[i] ∈ listed.toList := by simp
          cases hb : listed[i] with
          | true => simp [Array.getD, hlt, hb]
          | false =>
            rw [hb] at hm
            have := List.count_pos_iff.2 hm
            omega
        · simp [Array.getD, hlt]
      simp [h1]
    exact ⟨hr, hend listed a w hI hr⟩
  | succ fuel ih =>
    intro listed a w hc hI
    refine ⟨hend listed a w hI, fun i hi => ?_⟩
    refine wpOp_mono (fun a' w' h => ih _ a' w' ?_ h) (hstep listed a w i hI hi)
    have hs := hsz listed a w hI
    unfold Region.ready at hi
    rw [List.mem_filter] at hi
    have hlt : i < listed.size := by rw [hs]; simpa using hi.1
    have hf : listed[i] = false := by
      have := hi.2
      simp [Array.getD, hlt] at this
      exact this.1
    have : (listed.setIfInBounds i true).toList.count false + 1 = listed.toList.count false := by
      rw [Array.toList_setIfInBounds]
      exact count_set_false listed.toList i (by simp [hlt, hf])
    omega


theorem wpOp_of {P : Program} {ops : Array Oper} {Q : Exit → Act → World → Prop} {i : Nat} {o : Oper} {K : Act → World → Prop} {a : Act} {w : World} (ho : ops[i]? = some o) (hg : o.guard = none) (h : o.wp P a w K Q) : wpOp P ops Q i K a w := by
  have hw : Region.wanted o (yielded ops a.tmps) = true := by simp [Region.wanted, hg]
  unfold wpOp
  rw [ho]
  show if Region.wanted o (yielded ops a.tmps) = true then _ else _
  rw [if_pos hw]
  exact .inl h


theorem under44 : Tryz.prog.underlying 44 = some (.array 16 9) := Tryz.underlying44
theorem info44 : (Tryz.prog.info? 44).map (·.size) = some 16 := by kernel_rfl
theorem row16_list (f : Nat → List UInt8) : (row16 f).toList.toArray = row16 f := by simp
theorem row16_len (f : Nat → List UInt8) : (row16 f).toList.length = 16 := rfl
theorem row16_one (f : Nat → List UInt8) : (row16 f).all (·.oneCell') = true := by simp [row16, Value.oneCell']
theorem op_load44 {o : Oper} {a : Act} {w : World} {K : Act → World → Prop} {Q : Exit → Act → World → Prop} {t : Tmp} {p : Nat} {f : Nat → List UInt8} (ho : o.op = .load 44 (.tmp t)) (hp : a.eval (.tmp t) = .pointer (some ⟨p, 0, none⟩))
    (hb : AB w p f) (hK : K (a.put o.dst (.agg (row16 f))) w) : o.wp Tryz.prog a w K Q := by
  refine wp_load_mid 44 (.tmp t) ho p 0 hp (row16 f).toList _ ?_ under44 rfl (by rw [row16_len]; exact info44) (by rw [row16_list]; exact hK)
  intro j v hj
  rw [Nat.zero_add, cell_of_row w p j _ _ _ hb.box]
  simpa using hj
theorem op_store44 {o : Oper} {a : Act} {w : World} {K : Act → World → Prop} {Q : Exit → Act → World → Prop} {t s : Tmp} {p : Nat} {f g : Nat → List UInt8} (ho : o.op = .store 44 (.tmp t) (.tmp s)) (hp : a.eval (.tmp t) = .pointer (some ⟨p, 0, none⟩))
    (hv : a.eval (.tmp s) = .agg (row16 g)) (hb : AB w p f) (hK : ∀ X, AB X p g → (∀ q : Nat, q ≠ p → X.heap[q]? = w.heap[q]?) → (∀ (B : Nat) (a : World), Below B a w → B ≤ p → Below B a X) → K (a.put o.dst undef) X) : o.wp Tryz.prog a w K Q := by
  obtain ⟨X, e, h1, h2, h3⟩ := hb.fill g
  refine wp_store_mid 44 (.tmp t) (.tmp s) ho p 0 (row16 g) hp hv ?_ info44 (row16_one g) ?_
  · intro j hj
    have hj' : j < 16 := hj
    rw [Nat.zero_add]
    exact ⟨by rw [hb.at_ hj']; rfl, hb.free j⟩
  · have : w.setCells p 0 (row16 g).toList = X := e
    rw [this]
    exact hK X h1 h2 h3
theorem op_field7 {o : Oper} {a : Act} {w : World} {K : Act → World → Prop} {Q : Exit → Act → World → Prop} {t : Tmp} {g : Nat} (ho : o.op = .fieldAddr 33 (.tmp t) 3) (hp : a.eval (.tmp t) = .pointer (some ⟨g, 0, none⟩))
    (hK : K (a.put o.dst (.pointer (some ⟨g, 7, none⟩))) w) : o.wp Tryz.prog a w K Q := by
  unfold Oper.wp
  simp only [execOp, ho]
  rw [hp]
  simp [go_sem]
  exact hK
theorem op_nil7 {o : Oper} {a : Act} {w : World} {K : Act → World → Prop} {Q : Exit → Act → World → Prop} {t : Tmp} {g : Nat} {v : Value} (ho : o.op = .store 31 (.tmp t) (.const (.slice none 0 0))) (hp : a.eval (.tmp t) = .pointer (some ⟨g, 7, none⟩))
    (hc : w.cell? ⟨g, 7, none⟩ = some v) (hf : w.frozen? ⟨g, 7, none⟩ = false) (hK : K (a.put o.dst undef) (w.setCell ⟨g, 7, none⟩ (.slice none 0 0))) : o.wp Tryz.prog a w K Q := by
  unfold Oper.wp
  simp only [execOp, ho]
  rw [hp]
  simp [go_sem, Act.eval, hc, hf]
  exact hK

def pt (p : Nat) : Value := .pointer (some ⟨p, 0, none⟩)
/-- 2 loads of an array, and 2 stores of it into others. -/
structure copy2F (F : Value → Value → Act) (s : Tmp) (t0 t1 d0 d1 : Tmp) (p q0 q1 : Nat) : Prop where
  put0 : ∀ x0 x1 v, (F x0 x1).put (some d0) v = F v x1
  put1 : ∀ x0 x1 v, (F x0 x1).put (some d1) v = F x0 v
  es : ∀ x0 x1, (F x0 x1).eval (.tmp s) = .pointer (some ⟨p, 0, none⟩)
  et0 : ∀ x0 x1, (F x0 x1).eval (.tmp t0) = .pointer (some ⟨q0, 0, none⟩)
  et1 : ∀ x0 x1, (F x0 x1).eval (.tmp t1) = .pointer (some ⟨q1, 0, none⟩)
  ed0 : ∀ x0 x1, (F x0 x1).eval (.tmp d0) = x0
  ed1 : ∀ x0 x1, (F x0 x1).eval (.tmp d1) = x1
def copy2N (b0 b1 b2 b3 : Bool) : Nat → Bool
  | 0 => !b0
  | 1 => !b1
  | 2 => !b2 && b0
  | 3 => !b3 && b1
  | _ => false
theorem copy2 {F : Value → Value → Act} {s t0 t1 d0 d1 : Tmp} {p q0 q1 : Nat} (hF : copy2F F s t0 t1 d0 d1 p q0 q1) {n : Nat} {ops : Array Oper}
    (ho : ∃ o0 o1 o2 o3, ops = #[o0, o1, o2, o3] ∧ (o0.op = .load 44 (.tmp s) ∧ o0.dst = some d0 ∧ o0.guard = none) ∧ (o1.op = .load 44 (.tmp s) ∧ o1.dst = some d1 ∧ o1.guard = none) ∧ (o2.op = .store 44 (.tmp t0) (.tmp d0) ∧ o2.dst = none ∧ o2.guard = none) ∧ (o3.op = .store 44 (.tmp t1) (.tmp d1) ∧ o3.dst = none ∧ o3.guard = none))
    (hr : ∀ b0 b1 b2 b3 : Bool, (Region.ready .any ops #[b0, b1, b2, b3]).all (copy2N b0 b1 b2 b3) = true)
    (hd : ∀ b0 b1 b2 b3 : Bool, (!(Region.ready .any ops #[b0, b1, b2, b3]).isEmpty || (b0 && b1 && b2 && b3)) = true)
    {W : World} {f : Nat → List UInt8} (I : World → (Nat → List UInt8) → (Nat → List UInt8) → Prop)
    (hs : ∀ X F0 F1, I X F0 F1 → AB X p f)
    (hw0 : ∀ X F0 F1, I X F0 F1 → AB X q0 F0 ∧ ∀ Y, AB Y q0 f → (∀ q : Nat, q ≠ q0 → Y.heap[q]? = X.heap[q]?) → (∀ (B : Nat) (a : World), Below B a X → B ≤ q0 → Below B a Y) → I Y f F1)
    (hw1 : ∀ X F0 F1, I X F0 F1 → AB X q1 F1 ∧ ∀ Y, AB Y q1 f → (∀ q : Nat, q ≠ q1 → Y.heap[q]? = X.heap[q]?) → (∀ (B : Nat) (a : World), Below B a X → B ≤ q1 → Below B a Y) → I Y F0 f)
    {g0 g1 : Nat → List UInt8} (h0 : I W.drew g0 g1) (x0 x1 : Value) {Q : Exit → Act → World → Prop} (hQ : ∀ X, I X f f → Q .normal (F (.agg (row16 f)) (.agg (row16 f))) X) :
    (Code.region n ops true).wp Tryz.prog Q (F x0 x1) W := by
  obtain ⟨o0, o1, o2, o3, rfl, ⟨p0, e0, n0⟩, ⟨p1, e1, n1⟩, ⟨p2, e2, n2⟩, ⟨p3, e3, n3⟩⟩ := ho
  refine wp_region_any (by kernel_rfl) ?_
  refine wpAny_inv (fun listed a X => ∃ b0 b1 b2 b3 y0 y1 F0 F1, listed = #[b0, b1, b2, b3] ∧ a = F y0 y1 ∧ I X F0 F1 ∧ (b0 = true → y0 = .agg (row16 f)) ∧ (b1 = true → y1 = .agg (row16 f)) ∧ (b2 = true → F0 = f) ∧ (b3 = true → F1 = f)) ?step ?fin ?sz _ _ _ _ (by simp) ?start
  case sz =>
    rintro listed a X ⟨b0, b1, b2, b3, _, _, _, _, rfl, _⟩
    rfl
  case start =>
    exact ⟨false, false, false, false, x0, x1, g0, g1, rfl, rfl, h0, by simp, by simp, by simp, by simp⟩
  case fin =>
    rintro listed a X ⟨b0, b1, b2, b3, y0, y1, F0, F1, rfl, rfl, hI, k0, k1, k2, k3⟩ hrd
    have hdd := hd b0 b1 b2 b3
    rw [hrd] at hdd
    simp only [List.isEmpty_nil, Bool.not_true, Bool.false_or, Bool.and_eq_true] at hdd
    obtain ⟨⟨⟨rfl, rfl⟩, rfl⟩, rfl⟩ := hdd
    obtain rfl := k0 rfl
    obtain rfl := k1 rfl
    obtain rfl := k2 rfl
    obtain rfl := k3 rfl
    exact hQ X hI
  case step =>
    rintro listed a X i ⟨b0, b1, b2, b3, y0, y1, F0, F1, rfl, rfl, hI, k0, k1, k2, k3⟩ hi
    have hn := List.all_eq_true.1 (hr b0 b1 b2 b3) i hi
    clear hi
    match i, hn with
    | 0, _ =>
      refine wpOp_of (o := o0) rfl n0 ?_
      refine op_load44 p0 (hF.es ..) (hs _ _ _ hI) ?_
      rw [e0, hF.put0]
      exact ⟨true, b1, b2, b3, _, y1, F0, F1, rfl, rfl, hI, fun _ => rfl, k1, k2, k3⟩
    | 1, _ =>
      refine wpOp_of (o := o1) rfl n1 ?_
      refine op_load44 p1 (hF.es ..) (hs _ _ _ hI) ?_
      rw [e1, hF.put1]
      exact ⟨b0, true, b2, b3, y0, _, F0, F1, rfl, rfl, hI, k0, fun _ => rfl, k2, k3⟩
    | 2, hn =>
      simp only [copy2N, Bool.and_eq_true, Bool.not_eq_true'] at hn
      obtain ⟨hb, hb'⟩ := hn
      subst hb
      subst hb'
      refine wpOp_of (o := o2) rfl n2 ?_
      obtain ⟨hq, hw⟩ := hw0 _ _ _ hI
      refine op_store44 p2 (hF.et0 ..) (by rw [hF.ed0]; exact k0 rfl) hq ?_
      intro Y z1 z2 z3
      rw [e2]
      exact ⟨true, b1, true, b3, y0, y1, f, F1, rfl, rfl, hw Y z1 z2 z3, k0, k1, fun _ => rfl, k3⟩
    | 3, hn =>
      simp only [copy2N, Bool.and_eq_true, Bool.not_eq_true'] at hn
      obtain ⟨hb, hb'⟩ := hn
      subst hb
      subst hb'
      refine wpOp_of (o := o3) rfl n3 ?_
      obtain ⟨hq, hw⟩ := hw1 _ _ _ hI
      refine op_store44 p3 (hF.et1 ..) (by rw [hF.ed1]; exact k1 rfl) hq ?_
      intro Y z1 z2 z3
      rw [e3]
      exact ⟨b0, true, b2, true, y0, y1, F0, f, rfl, rfl, hw Y z1 z2 z3, k0, k1, k2, fun _ => rfl⟩
    | i + 4, hn => simp [copy2N] at hn

/-- 3 loads of an array, and 3 stores of it into others. -/
structure copy3F (F : Value → Value → Value → Act) (s : Tmp) (t0 t1 t2 d0 d1 d2 : Tmp) (p q0 q1 q2 : Nat) : Prop where
  put0 : ∀ x0 x1 x2 v, (F x0 x1 x2).put (some d0) v = F v x1 x2
  put1 : ∀ x0 x1 x2 v, (F x0 x1 x2).put (some d1) v = F x0 v x2
  put2 : ∀ x0 x1 x2 v, (F x0 x1 x2).put (some d2) v = F x0 x1 v
  es : ∀ x0 x1 x2, (F x0 x1 x2).eval (.tmp s) = .pointer (some ⟨p, 0, none⟩)
  et0 : ∀ x0 x1 x2, (F x0 x1 x2).eval (.tmp t0) = .pointer (some ⟨q0, 0, none⟩)
  et1 : ∀ x0 x1 x2, (F x0 x1 x2).eval (.tmp t1) = .pointer (some ⟨q1, 0, none⟩)
  et2 : ∀ x0 x1 x2, (F x0 x1 x2).eval (.tmp t2) = .pointer (some ⟨q2, 0, none⟩)
  ed0 : ∀ x0 x1 x2, (F x0 x1 x2).eval (.tmp d0) = x0
  ed1 : ∀ x0 x1 x2, (F x0 x1 x2).eval (.tmp d1) = x1
  ed2 : ∀ x0 x1 x2, (F x0 x1 x2).eval (.tmp d2) = x2
def copy3N (b0 b1 b2 b3 b4 b5 : Bool) : Nat → Bool
  | 0 => !b0
  | 1 => !b1
  | 2 => !b2
  | 3 => !b3 && b0
  | 4 => !b4 && b1
  | 5 => !b5 && b2
  | _ => false
theorem copy3 {F : Value → Value → Value → Act} {s t0 t1 t2 d0 d1 d2 : Tmp} {p q0 q1 q2 : Nat} (hF : copy3F F s t0 t1 t2 d0 d1 d2 p q0 q1 q2) {n : Nat} {ops : Array Oper}
    (ho : ∃ o0 o1 o2 o3 o4 o5, ops = #[o0, o1, o2, o3, o4, o5] ∧ (o0.op = .load 44 (.tmp s) ∧ o0.dst = some d0 ∧ o0.guard = none) ∧ (o1.op = .load 44 (.tmp s) ∧ o1.dst = some d1 ∧ o1.guard = none) ∧ (o2.op = .load 44 (.tmp s) ∧ o2.dst = some d2 ∧ o2.guard = none) ∧ (o3.op = .store 44 (.tmp t0) (.tmp d0) ∧ o3.dst = none ∧ o3.guard = none) ∧ (o4.op = .store 44 (.tmp t1) (.tmp d1) ∧ o4.dst = none ∧ o4.guard = none) ∧ (o5.op = .store 44 (.tmp t2) (.tmp d2) ∧ o5.dst = none ∧ o5.guard = none))
    (hr : ∀ b0 b1 b2 b3 b4 b5 : Bool, (Region.ready .any ops #[b0, b1, b2, b3, b4, b5]).all (copy3N b0 b1 b2 b3 b4 b5) = true)
    (hd : ∀ b0 b1 b2 b3 b4 b5 : Bool, (!(Region.ready .any ops #[b0, b1, b2, b3, b4, b5]).isEmpty || (b0 && b1 && b2 && b3 && b4 && b5)) = true)
    {W : World} {f : Nat → List UInt8} (I : World → (Nat → List UInt8) → (Nat → List UInt8) → (Nat → List UInt8) → Prop)
    (hs : ∀ X F0 F1 F2, I X F0 F1 F2 → AB X p f)
    (hw0 : ∀ X F0 F1 F2, I X F0 F1 F2 → AB X q0 F0 ∧ ∀ Y, AB Y q0 f → (∀ q : Nat, q ≠ q0 → Y.heap[q]? = X.heap[q]?) → (∀ (B : Nat) (a : World), Below B a X → B ≤ q0 → Below B a Y) → I Y f F1 F2)
    (hw1 : ∀ X F0 F1 F2, I X F0 F1 F2 → AB X q1 F1 ∧ ∀ Y, AB Y q1 f → (∀ q : Nat, q ≠ q1 → Y.heap[q]? = X.heap[q]?) → (∀ (B : Nat) (a : World), Below B a X → B ≤ q1 → Below B a Y) → I Y F0 f F2)
    (hw2 : ∀ X F0 F1 F2, I X F0 F1 F2 → AB X q2 F2 ∧ ∀ Y, AB Y q2 f → (∀ q : Nat, q ≠ q2 → Y.heap[q]? = X.heap[q]?) → (∀ (B : Nat) (a : World), Below B a X → B ≤ q2 → Below B a Y) → I Y F0 F1 f)
    {g0 g1 g2 : Nat → List UInt8} (h0 : I W.drew g0 g1 g2) (x0 x1 x2 : Value) {Q : Exit → Act → World → Prop} (hQ : ∀ X, I X f f f → Q .normal (F (.agg (row16 f)) (.agg (row16 f)) (.agg (row16 f))) X) :
    (Code.region n ops true).wp Tryz.prog Q (F x0 x1 x2) W := by
  obtain ⟨o0, o1, o2, o3, o4, o5, rfl, ⟨p0, e0, n0⟩, ⟨p1, e1, n1⟩, ⟨p2, e2, n2⟩, ⟨p3, e3, n3⟩, ⟨p4, e4, n4⟩, ⟨p5, e5, n5⟩⟩ := ho
  refine wp_region_any (by kernel_rfl) ?_
  refine wpAny_inv (fun listed a X => ∃ b0 b1 b2 b3 b4 b5 y0 y1 y2 F0 F1 F2, listed = #[b0, b1, b2, b3, b4, b5] ∧ a = F y0 y1 y2 ∧ I X F0 F1 F2 ∧ (b0 = true → y0 = .agg (row16 f)) ∧ (b1 = true → y1 = .agg (row16 f)) ∧ (b2 = true → y2 = .agg (row16 f)) ∧ (b3 = true → F0 = f) ∧ (b4 = true → F1 = f) ∧ (b5 = true → F2 = f)) ?step ?fin ?sz _ _ _ _ (by simp) ?start
  case sz =>
    rintro listed a X ⟨b0, b1, b2, b3, b4, b5, _, _, _, _, _, _, rfl, _⟩
    rfl
  case start =>
    exact ⟨false, false, false, false, false, false, x0, x1, x2, g0, g1, g2, rfl, rfl, h0, by simp, by simp, by simp, by simp, by simp, by simp⟩
  case fin =>
    rintro listed a X ⟨b0, b1, b2, b3, b4, b5, y0, y1, y2, F0, F1, F2, rfl, rfl, hI, k0, k1, k2, k3, k4, k5⟩ hrd
    have hdd := hd b0 b1 b2 b3 b4 b5
    rw [hrd] at hdd
    simp only [List.isEmpty_nil, Bool.not_true, Bool.false_or, Bool.and_eq_true] at hdd
    obtain ⟨⟨⟨⟨⟨rfl, rfl⟩, rfl⟩, rfl⟩, rfl⟩, rfl⟩ := hdd
    obtain rfl := k0 rfl
    obtain rfl := k1 rfl
    obtain rfl := k2 rfl
    obtain rfl := k3 rfl
    obtain rfl := k4 rfl
    obtain rfl := k5 rfl
    exact hQ X hI
  case step =>
    rintro listed a X i ⟨b0, b1, b2, b3, b4, b5, y0, y1, y2, F0, F1, F2, rfl, rfl, hI, k0, k1, k2, k3, k4, k5⟩ hi
    have hn := List.all_eq_true.1 (hr b0 b1 b2 b3 b4 b5) i hi
    clear hi
    match i, hn with
    | 0, _ =>
      refine wpOp_of (o := o0) rfl n0 ?_
      refine op_load44 p0 (hF.es ..) (hs _ _ _ _ hI) ?_
      rw [e0, hF.put0]
      exact ⟨true, b1, b2, b3, b4, b5, _, y1, y2, F0, F1, F2, rfl, rfl, hI, fun _ => rfl, k1, k2, k3, k4, k5⟩
    | 1, _ =>
      refine wpOp_of (o := o1) rfl n1 ?_
      refine op_load44 p1 (hF.es ..) (hs _ _ _ _ hI) ?_
      rw [e1, hF.put1]
      exact ⟨b0, true, b2, b3, b4, b5, y0, _, y2, F0, F1, F2, rfl, rfl, hI, k0, fun _ => rfl, k2, k3, k4, k5⟩
    | 2, _ =>
      refine wpOp_of (o := o2) rfl n2 ?_
      refine op_load44 p2 (hF.es ..) (hs _ _ _ _ hI) ?_
      rw [e2, hF.put2]
      exact ⟨b0, b1, true, b3, b4, b5, y0, y1, _, F0, F1, F2, rfl, rfl, hI, k0, k1, fun _ => rfl, k3, k4, k5⟩
    | 3, hn =>
      simp only [copy3N, Bool.and_eq_true, Bool.not_eq_true'] at hn
      obtain ⟨hb, hb'⟩ := hn
      subst hb
      subst hb'
      refine wpOp_of (o := o3) rfl n3 ?_
      obtain ⟨hq, hw⟩ := hw0 _ _ _ _ hI
      refine op_store44 p3 (hF.et0 ..) (by rw [hF.ed0]; exact k0 rfl) hq ?_
      intro Y z1 z2 z3
      rw [e3]
      exact ⟨true, b1, b2, true, b4, b5, y0, y1, y2, f, F1, F2, rfl, rfl, hw Y z1 z2 z3, k0, k1, k2, fun _ => rfl, k4, k5⟩
    | 4, hn =>
      simp only [copy3N, Bool.and_eq_true, Bool.not_eq_true'] at hn
      obtain ⟨hb, hb'⟩ := hn
      subst hb
      subst hb'
      refine wpOp_of (o := o4) rfl n4 ?_
      obtain ⟨hq, hw⟩ := hw1 _ _ _ _ hI
      refine op_store44 p4 (hF.et1 ..) (by rw [hF.ed1]; exact k1 rfl) hq ?_
      intro Y z1 z2 z3
      rw [e4]
      exact ⟨b0, true, b2, b3, true, b5, y0, y1, y2, F0, f, F2, rfl, rfl, hw Y z1 z2 z3, k0, k1, k2, k3, fun _ => rfl, k5⟩
    | 5, hn =>
      simp only [copy3N, Bool.and_eq_true, Bool.not_eq_true'] at hn
      obtain ⟨hb, hb'⟩ := hn
      subst hb
      subst hb'
      refine wpOp_of (o := o5) rfl n5 ?_
      obtain ⟨hq, hw⟩ := hw2 _ _ _ _ hI
      refine op_store44 p5 (hF.et2 ..) (by rw [hF.ed2]; exact k2 rfl) hq ?_
      intro Y z1 z2 z3
      rw [e5]
      exact ⟨b0, b1, true, b3, b4, true, y0, y1, y2, F0, F1, f, rfl, rfl, hw Y z1 z2 z3, k0, k1, k2, k3, k4, fun _ => rfl⟩
    | i + 6, hn => simp [copy3N] at hn

/-- A plain copy. -/
theorem copy1 {F : Value → Act} {s t d : Tmp} {p q n : Nat} (put : ∀ x v, (F x).put (some d) v = F v) (es : ∀ x, (F x).eval (.tmp s) = .pointer (some ⟨p, 0, none⟩)) (et : ∀ x, (F x).eval (.tmp t) = .pointer (some ⟨q, 0, none⟩)) (ed : ∀ x, (F x).eval (.tmp d) = x) {ops : Array Oper}
    (ho : ∃ o0 o1, ops = #[o0, o1] ∧ (o0.op = .load 44 (.tmp s) ∧ o0.dst = some d ∧ o0.guard = none) ∧ (o1.op = .store 44 (.tmp t) (.tmp d) ∧ o1.dst = none ∧ o1.guard = none))
    {W : World} {f g : Nat → List UInt8} (h1 : AB W p f) (h2 : AB W q g) (x : Value) {Q : Exit → Act → World → Prop}
    (hQ : ∀ X, AB X q f → (∀ k : Nat, k ≠ q → X.heap[k]? = W.heap[k]?) → (∀ (B : Nat) (a : World), Below B a W → B ≤ q → Below B a X) → Q .normal (F (.agg (row16 f))) X) :
    (Code.region n ops false).wp Tryz.prog Q (F x) W := by
  obtain ⟨o0, o1, rfl, ⟨p0, e0, n0⟩, ⟨p1, e1, n1⟩⟩ := ho
  refine wp_region_list ?_
  show wpList Tryz.prog _ Q [o0, o1] _ _
  refine wpList_plain n0 fun K hK => op_load44 p0 (es _) h1 (hK _ _ ?_)
  refine wpList_plain n1 fun K hK => op_store44 p1 (by rw [e0, put]; exact et _) (by rw [e0, put]; exact ed _) h2 fun X x1 x2 x3 => hK _ _ ?_
  rw [e0, put, e1]
  exact wpList_nil (hQ X x1 x2 x3)

def nilN (b0 b1 b2 b3 : Bool) : Nat → Bool
  | 0 => !b0
  | 1 => !b1
  | 2 => !b2 && b1
  | 3 => !b3 && b0
  | _ => false
/-- An array is copied, and a vault's pages are forgotten. -/
theorem copyNil {F : Value → Value → Act} {s t v d e : Tmp} {G P n : Nat} (put0 : ∀ x y u, (F x y).put (some d) u = F u y) (put1 : ∀ x y u, (F x y).put (some e) u = F x u)
    (es : ∀ x y, (F x y).eval (.tmp s) = .pointer (some ⟨P + 1, 0, none⟩)) (et : ∀ x y, (F x y).eval (.tmp t) = .pointer (some ⟨P, 0, none⟩)) (ev : ∀ x y, (F x y).eval (.tmp v) = .pointer (some ⟨G, 0, none⟩)) (ed : ∀ x y, (F x y).eval (.tmp d) = x) (ee : ∀ x y, (F x y).eval (.tmp e) = y) {ops : Array Oper}
    (ho : ∃ o0 o1 o2 o3, ops = #[o0, o1, o2, o3] ∧ (o0.op = .load 44 (.tmp s) ∧ o0.dst = some d ∧ o0.guard = none) ∧ (o1.op = .fieldAddr 33 (.tmp v) 3 ∧ o1.dst = some e ∧ o1.guard = none) ∧ (o2.op = .store 31 (.tmp e) (.const (.slice none 0 0)) ∧ o2.dst = none ∧ o2.guard = none) ∧ (o3.op = .store 44 (.tmp t) (.tmp d) ∧ o3.dst = none ∧ o3.guard = none))
    (hr : ∀ b0 b1 b2 b3 : Bool, (Region.ready .any ops #[b0, b1, b2, b3]).all (nilN b0 b1 b2 b3) = true)
    (hd : ∀ b0 b1 b2 b3 : Bool, (!(Region.ready .any ops #[b0, b1, b2, b3]).isEmpty || (b0 && b1 && b2 && b3)) = true)
    {b W : World} {v0 v1 v7 : Value} {k : VK} {f g h : Nat → List UInt8} (c : KB b W G P v0 v1 v7 k f g h) (x0 x1 : Value) {Q : Exit → Act → World → Prop}
    (hQ : ∀ X, KB b X G P v0 v1 (.slice none 0 0) { k with dirty := [] } g g h → Q .normal (F (.agg (row16 g)) (.pointer (some ⟨G, 7, none⟩))) X) :
    (Code.region n ops true).wp Tryz.prog Q (F x0 x1) W := by
  obtain ⟨o0, o1, o2, o3, rfl, ⟨p0, e0, n0⟩, ⟨p1, e1, n1⟩, ⟨p2, e2, n2⟩, ⟨p3, e3, n3⟩⟩ := ho
  refine wp_region_any (by kernel_rfl) ?_
  refine wpAny_inv (fun listed a X => ∃ b0 b1 b2 b3 y0 y1 u7 q F0, listed = #[b0, b1, b2, b3] ∧ a = F y0 y1 ∧ KB b X G P v0 v1 u7 { k with dirty := q } F0 g h ∧ (b0 = true → y0 = .agg (row16 g)) ∧ (b1 = true → y1 = .pointer (some ⟨G, 7, none⟩)) ∧ (b2 = true → u7 = .slice none 0 0 ∧ q = []) ∧ (b3 = true → F0 = g)) ?step ?fin ?sz _ _ _ _ (by simp) ?start
  case sz =>
    rintro listed a X ⟨b0, b1, b2, b3, _, _, _, _, _, rfl, _⟩
    rfl
  case start =>
    exact ⟨false, false, false, false, x0, x1, v7, k.dirty, f, rfl, rfl, c.more (Below.refl _ _).drew, by simp, by simp, by simp, by simp⟩
  case fin =>
    rintro listed a X ⟨b0, b1, b2, b3, y0, y1, u7, q, F0, rfl, rfl, hI, k0, k1, k2, k3⟩ hrd
    have hdd := hd b0 b1 b2 b3
    rw [hrd] at hdd
    simp only [List.isEmpty_nil, Bool.not_true, Bool.false_or, Bool.and_eq_true] at hdd
    obtain ⟨⟨⟨rfl, rfl⟩, rfl⟩, rfl⟩ := hdd
    obtain rfl := k0 rfl
    obtain rfl := k1 rfl
    obtain ⟨rfl, rfl⟩ := k2 rfl
    obtain rfl := k3 rfl
    exact hQ X hI
  case step =>
    rintro listed a X i ⟨b0, b1, b2, b3, y0, y1, u7, q, F0, rfl, rfl, hI, k0, k1, k2, k3⟩ hi
    have hn := List.all_eq_true.1 (hr b0 b1 b2 b3) i hi
    clear hi
    match i, hn with
    | 0, _ =>
      refine wpOp_of (o := o0) rfl n0 ?_
      refine op_load44 p0 (es ..) hI.s ?_
      rw [e0, put0]
      exact ⟨true, b1, b2, b3, _, y1, u7, q, F0, rfl, rfl, hI, fun _ => rfl, k1, k2, k3⟩
    | 1, _ =>
      refine wpOp_of (o := o1) rfl n1 ?_
      refine op_field7 p1 (ev ..) ?_
      rw [e1, put1]
      exact ⟨b0, true, b2, b3, y0, _, u7, q, F0, rfl, rfl, hI, k0, fun _ => rfl, k2, k3⟩
    | 2, hn =>
      simp only [nilN, Bool.and_eq_true, Bool.not_eq_true'] at hn
      obtain ⟨hb, hb'⟩ := hn
      subst hb
      subst hb'
      refine wpOp_of (o := o2) rfl n2 ?_
      refine op_nil7 p2 (by rw [ee]; exact k1 rfl) hI.v.box.at_.c7 (hI.v.box.free 7) ?_
      rw [e2]
      obtain ⟨Y, hY, hc⟩ := hI.set7
      rw [hY]
      exact ⟨b0, true, true, b3, y0, y1, _, [], F0, rfl, rfl, hc, k0, k1, fun _ => ⟨rfl, rfl⟩, k3⟩
    | 3, hn =>
      simp only [nilN, Bool.and_eq_true, Bool.not_eq_true'] at hn
      obtain ⟨hb, hb'⟩ := hn
      subst hb
      subst hb'
      refine wpOp_of (o := o3) rfl n3 ?_
      refine op_store44 p3 (et ..) (by rw [ed]; exact k0 rfl) hI.n ?_
      intro Y y1' y2' y3'
      rw [e3]
      exact ⟨true, b1, b2, true, y0, y1, u7, q, g, rfl, rfl, hI.fill0 y1' y2' y3', k0, k1, k2, fun _ => rfl⟩
    | i + 4, hn => simp [nilN] at hn

end Go.Proofs.YtnbbijpmkhdgpaaGreat.Vlt

/- LKRegs -/
namespace Go.Proofs.YtnbbijpmkhdgpaaGreat.Vlt
open Go.RowKit Go.Sort
open Dsk

/-- A region of a function's code, by its number. -/
def regOf (n : Nat) : Code → Option Code
  | .region id ops b => if id = n then some (.region id ops b) else none
  | .seq x y => match regOf n x with
    | some c => some c
    | none => regOf n y
  | .block _ c => regOf n c
  | .loop c => regOf n c
  | .scope c => regOf n c
  | .cond _ x y => match regOf n x with
    | some c => some c
    | none => regOf n y
  | _ => none
noncomputable def keepsReg (n : Nat) : Code := (Tryz.f4.body.bind (regOf n)).getD .skip

set_option maxRecDepth 100000 in
set_option maxHeartbeats 4000000 in
theorem keeps_reg22 {b W : World} {G P H Q : Nat} {v0 v1 v7 w0 w1 w7 : Value} {k k2 : VK} {f g h : Nat → List UInt8} {a : AK} {u0 u1 u2 u3 u4 u5 u6 u10 u11 u12 u13 u14 u15 u16 u17 u18 u19 u20 u21 u22 u23 u24 u25 u26 u27 u28 u29 u30 u31 u32 u33 u34 u35 u36 u37 u38 u39 u40 u41 u42 u43 u44 u45 u46 u47 u48 u49 u50 u51 u52 u53 u54 u55 u56 u57 u58 u59 u60 u61 u62 u63 u64 u65 u66 u67 u68 u69 u70 u71 u72 u73 u74 u75 u76 u77 u78 u79 u80 u81 u82 u83 u84 u85 u86 u87 u88 u89 u90 u91 u92 u93 u94 u95 u96 u97 u98 u99 u100 u101 u102 u103 u104 u105 u106 u107 u108 u109 u110 u111 u112 u113 u114 u115 u116 u117 u118 u119 u120 u121 u122 u123 u124 u125 u126 u127 u128 u129 u130 u131 u132 u133 u134 u135 u136 u137 u138 u139 u140 u141 u142 u143 u144 u145 u146 u147 u148 u149 u150 u151 u152 u153 u154 u155 u156 u157 u158 u159 u160 u161 u162 u163 u164 u165 u166 u167 u168 u169 u170 u171 u172 u173 u174 u175 u176 u177 u178 u179 u180 u181 u182 u183 u184 u185 u186 u187 u188 u189 u190 u191 u192 u193 u194 : Value} {R : Exit → Act → World → Prop} (c : KX b W G P H Q v0 v1 v7 k f g h a w0 w1 w7 k2)
    (hR : ∀ (X : World) (y108 y109 : Value), KX b X G P H Q v0 v1 v7 k f f f a w0 w1 w7 k2 → R .normal ⟨#[u0, u1, u2, u3, u4, u5, u6, .pointer (some ⟨P, 0, none⟩), .pointer (some ⟨P + 1, 0, none⟩), .pointer (some ⟨P + 1 + 1, 0, none⟩), u10, u11, u12, u13, u14, u15, u16, u17, u18, u19, u20, u21, u22, u23, u24, u25, u26, u27, u28, u29, u30, u31, u32, u33, u34, u35, u36, u37, u38, u39, u40, u41, u42, u43, u44, u45, u46, u47, u48, u49, u50, u51, u52, u53, u54, u55, u56, u57, u58, u59, u60, u61, u62, u63, u64, u65, u66, u67, u68, u69, u70, u71, u72, u73, u74, u75, u76, u77, u78, u79, u80, u81, u82, u83, u84, u85, u86, u87, u88, u89, u90, u91, u92, u93, u94, u95, u96, u97, u98, u99, u100, u101, u102, u103, u104, u105, u106, u107, y108, y109, u110, u111, u112, u113, u114, u115, u116, u117, u118, u119, u120, u121, u122, u123, u124, u125, u126, u127, u128, u129, u130, u131, u132, u133, u134, u135, u136, u137, u138, u139, u140, u141, u142, u143, u144, u145, u146, u147, u148, u149, u150, u151, u152, u153, u154, u155, u156, u157, u158, u159, u160, u161, u162, u163, u164, u165, u166, u167, u168, u169, u170, u171, u172, u173, u174, u175, u176, u177, u178, u179, u180, u181, u182, u183, u184, u185, u186, u187, u188, u189, u190, u191, u192, u193, u194], []⟩ X) :
    Code.wp Tryz.prog (keepsReg 22) R ⟨#[u0, u1, u2, u3, u4, u5, u6, .pointer (some ⟨P, 0, none⟩), .pointer (some ⟨P + 1, 0, none⟩), .pointer (some ⟨P + 1 + 1, 0, none⟩), u10, u11, u12, u13, u14, u15, u16, u17, u18, u19, u20, u21, u22, u23, u24, u25, u26, u27, u28, u29, u30, u31, u32, u33, u34, u35, u36, u37, u38, u39, u40, u41, u42, u43, u44, u45, u46, u47, u48, u49, u50, u51, u52, u53, u54, u55, u56, u57, u58, u59, u60, u61, u62, u63, u64, u65, u66, u67, u68, u69, u70, u71, u72, u73, u74, u75, u76, u77, u78, u79, u80, u81, u82, u83, u84, u85, u86, u87, u88, u89, u90, u91, u92, u93, u94, u95, u96, u97, u98, u99, u100, u101, u102, u103, u104, u105, u106, u107, u108, u109, u110, u111, u112, u113, u114, u115, u116, u117, u118, u119, u120, u121, u122, u123, u124, u125, u126, u127, u128, u129, u130, u131, u132, u133, u134, u135, u136, u137, u138, u139, u140, u141, u142, u143, u144, u145, u146, u147, u148, u149, u150, u151, u152, u153, u154, u155, u156, u157, u158, u159, u160, u161, u162, u163, u164, u165, u166, u167, u168, u169, u170, u171, u172, u173, u174, u175, u176, u177, u178, u179, u180, u181, u182, u183, u184, u185, u186, u187, u188, u189, u190, u191, u192, u193, u194], []⟩ W := by
  conv => arg 2; whnf
  refine copy2 (s := 7) (t0 := 8) (t1 := 9) (d0 := 108) (d1 := 109) (p := P) (q0 := P + 1) (q1 := P + 1 + 1) (F := fun x108 x109 => ⟨#[u0, u1, u2, u3, u4, u5, u6, .pointer (some ⟨P, 0, none⟩), .pointer (some ⟨P + 1, 0, none⟩), .pointer (some ⟨P + 1 + 1, 0, none⟩), u10, u11, u12, u13, u14, u15, u16, u17, u18, u19, u20, u21, u22, u23, u24, u25, u26, u27, u28, u29, u30, u31, u32, u33, u34, u35, u36, u37, u38, u39, u40, u41, u42, u43, u44, u45, u46, u47, u48, u49, u50, u51, u52, u53, u54, u55, u56, u57, u58, u59, u60, u61, u62, u63, u64, u65, u66, u67, u68, u69, u70, u71, u72, u73, u74, u75, u76, u77, u78, u79, u80, u81, u82, u83, u84, u85, u86, u87, u88, u89, u90, u91, u92, u93, u94, u95, u96, u97, u98, u99, u100, u101, u102, u103, u104, u105, u106, u107, x108, x109, u110, u111, u112, u113, u114, u115, u116, u117, u118, u119, u120, u121, u122, u123, u124, u125, u126, u127, u128, u129, u130, u131, u132, u133, u134, u135, u136, u137, u138, u139, u140, u141, u142, u143, u144, u145, u146, u147, u148, u149, u150, u151, u152, u153, u154, u155, u156, u157, u158, u159, u160, u161, u162, u163, u164, u165, u166, u167, u168, u169, u170, u171, u172, u173, u174, u175, u176, u177, u178, u179, u180, u181, u182, u183, u184, u185, u186, u187, u188, u189, u190, u191, u192, u193, u194], []⟩) ⟨fun _ _ _ => rfl, fun _ _ _ => rfl, fun _ _ => rfl, fun _ _ => rfl, fun _ _ => rfl, fun _ _ => rfl, fun _ _ => rfl⟩ ⟨_, _, _, _, rfl, ⟨rfl, rfl, rfl⟩, ⟨rfl, rfl, rfl⟩, ⟨rfl, rfl, rfl⟩, ⟨rfl, rfl, rfl⟩⟩ (by decide +kernel) (by decide +kernel) (f := f) (fun X F0 F1 => KX b X G P H Q v0 v1 v7 k f F0 F1 a w0 w1 w7 k2) (fun X F0 F1 h => h.c.n) (fun X F0 F1 h => ⟨h.c.s, fun Y y1 y2 y3 => h.fill1 y1 y2 y3⟩) (fun X F0 F1 h => ⟨h.c.y, fun Y y1 y2 y3 => h.fill2 y1 y2 y3⟩) (c.more (Below.refl _ _).drew) _ _ ?_
  exact fun X h => hR X _ _ h

set_option maxRecDepth 100000 in
set_option maxHeartbeats 4000000 in
theorem keeps_reg24 {b W : World} {G P H Q : Nat} {v0 v1 v7 w0 w1 w7 : Value} {k k2 : VK} {f g h : Nat → List UInt8} {a : AK} {u0 u1 u2 u3 u4 u5 u6 u9 u10 u11 u12 u13 u14 u15 u16 u17 u18 u19 u20 u21 u22 u23 u24 u25 u26 u27 u28 u29 u30 u31 u32 u33 u34 u35 u36 u37 u38 u39 u40 u41 u42 u43 u44 u45 u46 u47 u48 u49 u50 u51 u52 u53 u54 u55 u56 u57 u58 u59 u60 u61 u62 u63 u64 u65 u66 u67 u68 u69 u70 u71 u72 u73 u74 u75 u76 u77 u78 u79 u80 u81 u82 u83 u84 u85 u86 u87 u88 u89 u90 u91 u92 u93 u94 u95 u96 u97 u98 u99 u100 u101 u102 u103 u104 u105 u106 u107 u108 u109 u110 u111 u112 u113 u114 u115 u116 u117 u118 u119 u120 u121 u122 u123 u124 u125 u126 u127 u128 u129 u130 u131 u132 u133 u134 u135 u136 u137 u138 u139 u140 u141 u142 u143 u144 u145 u146 u147 u148 u149 u150 u151 u152 u153 u154 u155 u156 u157 u158 u159 u160 u161 u162 u163 u164 u165 u166 u167 u168 u169 u170 u171 u172 u173 u174 u175 u176 u177 u178 u179 u180 u181 u182 u183 u184 u185 u186 u187 u188 u189 u190 u191 u192 u193 u194 : Value} {R : Exit → Act → World → Prop} (c : KX b W G P H Q v0 v1 v7 k f g h a w0 w1 w7 k2)
    (hR : ∀ (X : World) (y118 : Value), KX b X G P H Q v0 v1 v7 k g g h a w0 w1 w7 k2 → R .normal ⟨#[u0, u1, u2, u3, u4, u5, u6, .pointer (some ⟨P, 0, none⟩), .pointer (some ⟨P + 1, 0, none⟩), u9, u10, u11, u12, u13, u14, u15, u16, u17, u18, u19, u20, u21, u22, u23, u24, u25, u26, u27, u28, u29, u30, u31, u32, u33, u34, u35, u36, u37, u38, u39, u40, u41, u42, u43, u44, u45, u46, u47, u48, u49, u50, u51, u52, u53, u54, u55, u56, u57, u58, u59, u60, u61, u62, u63, u64, u65, u66, u67, u68, u69, u70, u71, u72, u73, u74, u75, u76, u77, u78, u79, u80, u81, u82, u83, u84, u85, u86, u87, u88, u89, u90, u91, u92, u93, u94, u95, u96, u97, u98, u99, u100, u101, u102, u103, u104, u105, u106, u107, u108, u109, u110, u111, u112, u113, u114, u115, u116, u117, y118, u119, u120, u121, u122, u123, u124, u125, u126, u127, u128, u129, u130, u131, u132, u133, u134, u135, u136, u137, u138, u139, u140, u141, u142, u143, u144, u145, u146, u147, u148, u149, u150, u151, u152, u153, u154, u155, u156, u157, u158, u159, u160, u161, u162, u163, u164, u165, u166, u167, u168, u169, u170, u171, u172, u173, u174, u175, u176, u177, u178, u179, u180, u181, u182, u183, u184, u185, u186, u187, u188, u189, u190, u191, u192, u193, u194], []⟩ X) :
    Code.wp Tryz.prog (keepsReg 24) R ⟨#[u0, u1, u2, u3, u4, u5, u6, .pointer (some ⟨P, 0, none⟩), .pointer (some ⟨P + 1, 0, none⟩), u9, u10, u11, u12, u13, u14, u15, u16, u17, u18, u19, u20, u21, u22, u23, u24, u25, u26, u27, u28, u29, u30, u31, u32, u33, u34, u35, u36, u37, u38, u39, u40, u41, u42, u43, u44, u45, u46, u47, u48, u49, u50, u51, u52, u53, u54, u55, u56, u57, u58, u59, u60, u61, u62, u63, u64, u65, u66, u67, u68, u69, u70, u71, u72, u73, u74, u75, u76, u77, u78, u79, u80, u81, u82, u83, u84, u85, u86, u87, u88, u89, u90, u91, u92, u93, u94, u95, u96, u97, u98, u99, u100, u101, u102, u103, u104, u105, u106, u107, u108, u109, u110, u111, u112, u113, u114, u115, u116, u117, u118, u119, u120, u121, u122, u123, u124, u125, u126, u127, u128, u129, u130, u131, u132, u133, u134, u135, u136, u137, u138, u139, u140, u141, u142, u143, u144, u145, u146, u147, u148, u149, u150, u151, u152, u153, u154, u155, u156, u157, u158, u159, u160, u161, u162, u163, u164, u165, u166, u167, u168, u169, u170, u171, u172, u173, u174, u175, u176, u177, u178, u179, u180, u181, u182, u183, u184, u185, u186, u187, u188, u189, u190, u191, u192, u193, u194], []⟩ W := by
  conv => arg 2; whnf
  refine copy1 (s := 8) (t := 7) (d := 118) (p := P + 1) (q := P) (F := fun x118 => ⟨#[u0, u1, u2, u3, u4, u5, u6, .pointer (some ⟨P, 0, none⟩), .pointer (some ⟨P + 1, 0, none⟩), u9, u10, u11, u12, u13, u14, u15, u16, u17, u18, u19, u20, u21, u22, u23, u24, u25, u26, u27, u28, u29, u30, u31, u32, u33, u34, u35, u36, u37, u38, u39, u40, u41, u42, u43, u44, u45, u46, u47, u48, u49, u50, u51, u52, u53, u54, u55, u56, u57, u58, u59, u60, u61, u62, u63, u64, u65, u66, u67, u68, u69, u70, u71, u72, u73, u74, u75, u76, u77, u78, u79, u80, u81, u82, u83, u84, u85, u86, u87, u88, u89, u90, u91, u92, u93, u94, u95, u96, u97, u98, u99, u100, u101, u102, u103, u104, u105, u106, u107, u108, u109, u110, u111, u112, u113, u114, u115, u116, u117, x118, u119, u120, u121, u122, u123, u124, u125, u126, u127, u128, u129, u130, u131, u132, u133, u134, u135, u136, u137, u138, u139, u140, u141, u142, u143, u144, u145, u146, u147, u148, u149, u150, u151, u152, u153, u154, u155, u156, u157, u158, u159, u160, u161, u162, u163, u164, u165, u166, u167, u168, u169, u170, u171, u172, u173, u174, u175, u176, u177, u178, u179, u180, u181, u182, u183, u184, u185, u186, u187, u188, u189, u190, u191, u192, u193, u194], []⟩) (fun _ _ => rfl) (fun _ => rfl) (fun _ => rfl) (fun _ => rfl) ⟨_, _, rfl, ⟨rfl, rfl, rfl⟩, ⟨rfl, rfl, rfl⟩⟩ c.c.s c.c.n _ ?_
  exact fun X x1 x2 x3 => hR X _ (c.fill0 x1 x2 x3)

set_option maxRecDepth 100000 in
set_option maxHeartbeats 4000000 in
theorem keeps_reg26 {b W : World} {G P H Q : Nat} {v0 v1 v7 w0 w1 w7 : Value} {k k2 : VK} {f g h : Nat → List UInt8} {a : AK} {u0 u1 u2 u3 u4 u5 u6 u8 u10 u11 u12 u13 u14 u15 u16 u17 u18 u19 u20 u21 u22 u23 u24 u25 u26 u27 u28 u29 u30 u31 u32 u33 u34 u35 u36 u37 u38 u39 u40 u41 u42 u43 u44 u45 u46 u47 u48 u49 u50 u51 u52 u53 u54 u55 u56 u57 u58 u59 u60 u61 u62 u63 u64 u65 u66 u67 u68 u69 u70 u71 u72 u73 u74 u75 u76 u77 u78 u79 u80 u81 u82 u83 u84 u85 u86 u87 u88 u89 u90 u91 u92 u93 u94 u95 u96 u97 u98 u99 u100 u101 u102 u103 u104 u105 u106 u107 u108 u109 u110 u111 u112 u113 u114 u115 u116 u117 u118 u119 u120 u121 u122 u123 u124 u125 u126 u127 u128 u129 u130 u131 u132 u133 u134 u135 u136 u137 u138 u139 u140 u141 u142 u143 u144 u145 u146 u147 u148 u149 u150 u151 u152 u153 u154 u155 u156 u157 u158 u159 u160 u161 u162 u163 u164 u165 u166 u167 u168 u169 u170 u171 u172 u173 u174 u175 u176 u177 u178 u179 u180 u181 u182 u183 u184 u185 u186 u187 u188 u189 u190 u191 u192 u193 u194 : Value} {R : Exit → Act → World → Prop} (c : KX b W G P H Q v0 v1 v7 k f g h a w0 w1 w7 k2)
    (hR : ∀ (X : World) (y131 : Value), KX b X G P H Q v0 v1 v7 k f g f a w0 w1 w7 k2 → R .normal ⟨#[u0, u1, u2, u3, u4, u5, u6, .pointer (some ⟨P, 0, none⟩), u8, .pointer (some ⟨P + 1 + 1, 0, none⟩), u10, u11, u12, u13, u14, u15, u16, u17, u18, u19, u20, u21, u22, u23, u24, u25, u26, u27, u28, u29, u30, u31, u32, u33, u34, u35, u36, u37, u38, u39, u40, u41, u42, u43, u44, u45, u46, u47, u48, u49, u50, u51, u52, u53, u54, u55, u56, u57, u58, u59, u60, u61, u62, u63, u64, u65, u66, u67, u68, u69, u70, u71, u72, u73, u74, u75, u76, u77, u78, u79, u80, u81, u82, u83, u84, u85, u86, u87, u88, u89, u90, u91, u92, u93, u94, u95, u96, u97, u98, u99, u100, u101, u102, u103, u104, u105, u106, u107, u108, u109, u110, u111, u112, u113, u114, u115, u116, u117, u118, u119, u120, u121, u122, u123, u124, u125, u126, u127, u128, u129, u130, y131, u132, u133, u134, u135, u136, u137, u138, u139, u140, u141, u142, u143, u144, u145, u146, u147, u148, u149, u150, u151, u152, u153, u154, u155, u156, u157, u158, u159, u160, u161, u162, u163, u164, u165, u166, u167, u168, u169, u170, u171, u172, u173, u174, u175, u176, u177, u178, u179, u180, u181, u182, u183, u184, u185, u186, u187, u188, u189, u190, u191, u192, u193, u194], []⟩ X) :
    Code.wp Tryz.prog (keepsReg 26) R ⟨#[u0, u1, u2, u3, u4, u5, u6, .pointer (some ⟨P, 0, none⟩), u8, .pointer (some ⟨P + 1 + 1, 0, none⟩), u10, u11, u12, u13, u14, u15, u16, u17, u18, u19, u20, u21, u22, u23, u24, u25, u26, u27, u28, u29, u30, u31, u32, u33, u34, u35, u36, u37, u38, u39, u40, u41, u42, u43, u44, u45, u46, u47, u48, u49, u50, u51, u52, u53, u54, u55, u56, u57, u58, u59, u60, u61, u62, u63, u64, u65, u66, u67, u68, u69, u70, u71, u72, u73, u74, u75, u76, u77, u78, u79, u80, u81, u82, u83, u84, u85, u86, u87, u88, u89, u90, u91, u92, u93, u94, u95, u96, u97, u98, u99, u100, u101, u102, u103, u104, u105, u106, u107, u108, u109, u110, u111, u112, u113, u114, u115, u116, u117, u118, u119, u120, u121, u122, u123, u124, u125, u126, u127, u128, u129, u130, u131, u132, u133, u134, u135, u136, u137, u138, u139, u140, u141, u142, u143, u144, u145, u146, u147, u148, u149, u150, u151, u152, u153, u154, u155, u156, u157, u158, u159, u160, u161, u162, u163, u164, u165, u166, u167, u168, u169, u170, u171, u172, u173, u174, u175, u176, u177, u178, u179, u180, u181, u182, u183, u184, u185, u186, u187, u188, u189, u190, u191, u192, u193, u194], []⟩ W := by
  conv => arg 2; whnf
  refine copy1 (s := 7) (t := 9) (d := 131) (p := P) (q := P + 1 + 1) (F := fun x131 => ⟨#[u0, u1, u2, u3, u4, u5, u6, .pointer (some ⟨P, 0, none⟩), u8, .pointer (some ⟨P + 1 + 1, 0, none⟩), u10, u11, u12, u13, u14, u15, u16, u17, u18, u19, u20, u21, u22, u23, u24, u25, u26, u27, u28, u29, u30, u31, u32, u33, u34, u35, u36, u37, u38, u39, u40, u41, u42, u43, u44, u45, u46, u47, u48, u49, u50, u51, u52, u53, u54, u55, u56, u57, u58, u59, u60, u61, u62, u63, u64, u65, u66, u67, u68, u69, u70, u71, u72, u73, u74, u75, u76, u77, u78, u79, u80, u81, u82, u83, u84, u85, u86, u87, u88, u89, u90, u91, u92, u93, u94, u95, u96, u97, u98, u99, u100, u101, u102, u103, u104, u105, u106, u107, u108, u109, u110, u111, u112, u113, u114, u115, u116, u117, u118, u119, u120, u121, u122, u123, u124, u125, u126, u127, u128, u129, u130, x131, u132, u133, u134, u135, u136, u137, u138, u139, u140, u141, u142, u143, u144, u145, u146, u147, u148, u149, u150, u151, u152, u153, u154, u155, u156, u157, u158, u159, u160, u161, u162, u163, u164, u165, u166, u167, u168, u169, u170, u171, u172, u173, u174, u175, u176, u177, u178, u179, u180, u181, u182, u183, u184, u185, u186, u187, u188, u189, u190, u191, u192, u193, u194], []⟩) (fun _ _ => rfl) (fun _ => rfl) (fun _ => rfl) (fun _ => rfl) ⟨_, _, rfl, ⟨rfl, rfl, rfl⟩, ⟨rfl, rfl, rfl⟩⟩ c.c.n c.c.y _ ?_
  exact fun X x1 x2 x3 => hR X _ (c.fill2 x1 x2 x3)

set_option maxRecDepth 100000 in
set_option maxHeartbeats 4000000 in
theorem keeps_reg40 {b W : World} {G P H Q : Nat} {v0 v1 v7 w0 w1 w7 : Value} {k k2 : VK} {f g h : Nat → List UInt8} {a : AK} {u0 u1 u2 u3 u4 u5 u6 u10 u11 u12 u13 u14 u15 u16 u17 u18 u20 u21 u22 u23 u24 u25 u26 u27 u28 u29 u30 u31 u32 u33 u34 u35 u36 u37 u38 u39 u40 u41 u42 u43 u44 u45 u46 u47 u48 u49 u50 u51 u52 u53 u54 u55 u56 u57 u58 u59 u60 u61 u62 u63 u64 u65 u66 u67 u68 u69 u70 u71 u72 u73 u74 u75 u76 u77 u78 u79 u80 u81 u82 u83 u84 u85 u86 u87 u88 u89 u90 u91 u92 u93 u94 u95 u96 u97 u98 u99 u100 u101 u102 u103 u104 u105 u106 u107 u108 u109 u110 u111 u112 u113 u114 u115 u116 u117 u118 u119 u120 u121 u122 u123 u124 u125 u126 u127 u128 u129 u130 u131 u132 u133 u134 u135 u136 u137 u138 u139 u140 u141 u142 u143 u144 u145 u146 u147 u148 u149 u150 u151 u152 u153 u154 u155 u156 u157 u158 u159 u160 u161 u162 u163 u164 u165 u166 u167 u168 u169 u170 u171 u172 u173 u174 u175 u176 u177 u178 u179 u180 u181 u182 u183 u184 u185 u186 u187 u188 u189 u190 u191 u192 u193 u194 : Value} {R : Exit → Act → World → Prop} {T : Nat} {q : Nat → List UInt8} (t : AB W T q) (hT : Q < T) (c : KX b W G P H Q v0 v1 v7 k f g h a w0 w1 w7 k2)
    (hR : ∀ (X : World) (y177 y178 y179 : Value), KX b X G P H Q v0 v1 v7 k q q q a w0 w1 w7 k2 → R .normal ⟨#[u0, u1, u2, u3, u4, u5, u6, .pointer (some ⟨P, 0, none⟩), .pointer (some ⟨P + 1, 0, none⟩), .pointer (some ⟨P + 1 + 1, 0, none⟩), u10, u11, u12, u13, u14, u15, u16, u17, u18, .pointer (some ⟨T, 0, none⟩), u20, u21, u22, u23, u24, u25, u26, u27, u28, u29, u30, u31, u32, u33, u34, u35, u36, u37, u38, u39, u40, u41, u42, u43, u44, u45, u46, u47, u48, u49, u50, u51, u52, u53, u54, u55, u56, u57, u58, u59, u60, u61, u62, u63, u64, u65, u66, u67, u68, u69, u70, u71, u72, u73, u74, u75, u76, u77, u78, u79, u80, u81, u82, u83, u84, u85, u86, u87, u88, u89, u90, u91, u92, u93, u94, u95, u96, u97, u98, u99, u100, u101, u102, u103, u104, u105, u106, u107, u108, u109, u110, u111, u112, u113, u114, u115, u116, u117, u118, u119, u120, u121, u122, u123, u124, u125, u126, u127, u128, u129, u130, u131, u132, u133, u134, u135, u136, u137, u138, u139, u140, u141, u142, u143, u144, u145, u146, u147, u148, u149, u150, u151, u152, u153, u154, u155, u156, u157, u158, u159, u160, u161, u162, u163, u164, u165, u166, u167, u168, u169, u170, u171, u172, u173, u174, u175, u176, y177, y178, y179, u180, u181, u182, u183, u184, u185, u186, u187, u188, u189, u190, u191, u192, u193, u194], []⟩ X) :
    Code.wp Tryz.prog (keepsReg 40) R ⟨#[u0, u1, u2, u3, u4, u5, u6, .pointer (some ⟨P, 0, none⟩), .pointer (some ⟨P + 1, 0, none⟩), .pointer (some ⟨P + 1 + 1, 0, none⟩), u10, u11, u12, u13, u14, u15, u16, u17, u18, .pointer (some ⟨T, 0, none⟩), u20, u21, u22, u23, u24, u25, u26, u27, u28, u29, u30, u31, u32, u33, u34, u35, u36, u37, u38, u39, u40, u41, u42, u43, u44, u45, u46, u47, u48, u49, u50, u51, u52, u53, u54, u55, u56, u57, u58, u59, u60, u61, u62, u63, u64, u65, u66, u67, u68, u69, u70, u71, u72, u73, u74, u75, u76, u77, u78, u79, u80, u81, u82, u83, u84, u85, u86, u87, u88, u89, u90, u91, u92, u93, u94, u95, u96, u97, u98, u99, u100, u101, u102, u103, u104, u105, u106, u107, u108, u109, u110, u111, u112, u113, u114, u115, u116, u117, u118, u119, u120, u121, u122, u123, u124, u125, u126, u127, u128, u129, u130, u131, u132, u133, u134, u135, u136, u137, u138, u139, u140, u141, u142, u143, u144, u145, u146, u147, u148, u149, u150, u151, u152, u153, u154, u155, u156, u157, u158, u159, u160, u161, u162, u163, u164, u165, u166, u167, u168, u169, u170, u171, u172, u173, u174, u175, u176, u177, u178, u179, u180, u181, u182, u183, u184, u185, u186, u187, u188, u189, u190, u191, u192, u193, u194], []⟩ W := by
  conv => arg 2; whnf
  have hb := c.c.base
  have hi := c.hi
  have hj := c.hj
  refine copy3 (s := 19) (t0 := 7) (t1 := 8) (t2 := 9) (d0 := 177) (d1 := 178) (d2 := 179) (p := T) (q0 := P) (q1 := P + 1) (q2 := P + 1 + 1) (F := fun x177 x178 x179 => ⟨#[u0, u1, u2, u3, u4, u5, u6, .pointer (some ⟨P, 0, none⟩), .pointer (some ⟨P + 1, 0, none⟩), .pointer (some ⟨P + 1 + 1, 0, none⟩), u10, u11, u12, u13, u14, u15, u16, u17, u18, .pointer (some ⟨T, 0, none⟩), u20, u21, u22, u23, u24, u25, u26, u27, u28, u29, u30, u31, u32, u33, u34, u35, u36, u37, u38, u39, u40, u41, u42, u43, u44, u45, u46, u47, u48, u49, u50, u51, u52, u53, u54, u55, u56, u57, u58, u59, u60, u61, u62, u63, u64, u65, u66, u67, u68, u69, u70, u71, u72, u73, u74, u75, u76, u77, u78, u79, u80, u81, u82, u83, u84, u85, u86, u87, u88, u89, u90, u91, u92, u93, u94, u95, u96, u97, u98, u99, u100, u101, u102, u103, u104, u105, u106, u107, u108, u109, u110, u111, u112, u113, u114, u115, u116, u117, u118, u119, u120, u121, u122, u123, u124, u125, u126, u127, u128, u129, u130, u131, u132, u133, u134, u135, u136, u137, u138, u139, u140, u141, u142, u143, u144, u145, u146, u147, u148, u149, u150, u151, u152, u153, u154, u155, u156, u157, u158, u159, u160, u161, u162, u163, u164, u165, u166, u167, u168, u169, u170, u171, u172, u173, u174, u175, u176, x177, x178, x179, u180, u181, u182, u183, u184, u185, u186, u187, u188, u189, u190, u191, u192, u193, u194], []⟩) ⟨fun _ _ _ _ => rfl, fun _ _ _ _ => rfl, fun _ _ _ _ => rfl, fun _ _ _ => rfl, fun _ _ _ => rfl, fun _ _ _ => rfl, fun _ _ _ => rfl, fun _ _ _ => rfl, fun _ _ _ => rfl, fun _ _ _ => rfl⟩ ⟨_, _, _, _, _, _, rfl, ⟨rfl, rfl, rfl⟩, ⟨rfl, rfl, rfl⟩, ⟨rfl, rfl, rfl⟩, ⟨rfl, rfl, rfl⟩, ⟨rfl, rfl, rfl⟩, ⟨rfl, rfl, rfl⟩⟩ (by decide +kernel) (by decide +kernel) (f := q) (fun X F0 F1 F2 => AB X T q ∧ KX b X G P H Q v0 v1 v7 k F0 F1 F2 a w0 w1 w7 k2) (fun X F0 F1 F2 h => h.1)
    (fun X F0 F1 F2 h => ⟨h.2.c.n, fun Y y1 y2 y3 => ⟨h.1.keep (y2 _ (by omega)), h.2.fill0 y1 y2 y3⟩⟩) (fun X F0 F1 F2 h => ⟨h.2.c.s, fun Y y1 y2 y3 => ⟨h.1.keep (y2 _ (by omega)), h.2.fill1 y1 y2 y3⟩⟩) (fun X F0 F1 F2 h => ⟨h.2.c.y, fun Y y1 y2 y3 => ⟨h.1.keep (y2 _ (by omega)), h.2.fill2 y1 y2 y3⟩⟩) ⟨t.below (Below.refl _ _).drew, c.more (Below.refl _ _).drew⟩ _ _ _ ?_
  exact fun X h => hR X _ _ _ h.2

set_option maxRecDepth 100000 in
set_option maxHeartbeats 4000000 in
theorem keeps_reg45 {b W : World} {G P : Nat} {v0 v1 v7 : Value} {k : VK} {f g h : Nat → List UInt8} {u0 u1 u2 u3 u4 u6 u9 u10 u11 u12 u13 u14 u15 u16 u17 u18 u19 u20 u21 u22 u23 u24 u25 u26 u27 u28 u29 u30 u31 u32 u33 u34 u35 u36 u37 u38 u39 u40 u41 u42 u43 u44 u45 u46 u47 u48 u49 u50 u51 u52 u53 u54 u55 u56 u57 u58 u59 u60 u61 u62 u63 u64 u65 u66 u67 u68 u69 u70 u71 u72 u73 u74 u75 u76 u77 u78 u79 u80 u81 u82 u83 u84 u85 u86 u87 u88 u89 u90 u91 u92 u93 u94 u95 u96 u97 u98 u99 u100 u101 u102 u103 u104 u105 u106 u107 u108 u109 u110 u111 u112 u113 u114 u115 u116 u117 u118 u119 u120 u121 u122 u123 u124 u125 u126 u127 u128 u129 u130 u131 u132 u133 u134 u135 u136 u137 u138 u139 u140 u141 u142 u143 u144 u145 u146 u147 u148 u149 u150 u151 u152 u153 u154 u155 u156 u157 u158 u159 u160 u161 u162 u163 u164 u165 u166 u167 u168 u169 u170 u171 u172 u173 u174 u175 u176 u177 u178 u179 u180 u181 u182 u183 u184 u185 u186 u187 u188 u189 u190 u191 u192 u193 u194 : Value} {R : Exit → Act → World → Prop} (c : KB b W G P v0 v1 v7 k f g h)
    (hR : ∀ (X : World) (y192 y193 : Value), KB b X G P v0 v1 (.slice none 0 0) { k with dirty := [] } g g h → R .normal ⟨#[u0, u1, u2, u3, u4, .pointer (some ⟨G, 0, none⟩), u6, .pointer (some ⟨P, 0, none⟩), .pointer (some ⟨P + 1, 0, none⟩), u9, u10, u11, u12, u13, u14, u15, u16, u17, u18, u19, u20, u21, u22, u23, u24, u25, u26, u27, u28, u29, u30, u31, u32, u33, u34, u35, u36, u37, u38, u39, u40, u41, u42, u43, u44, u45, u46, u47, u48, u49, u50, u51, u52, u53, u54, u55, u56, u57, u58, u59, u60, u61, u62, u63, u64, u65, u66, u67, u68, u69, u70, u71, u72, u73, u74, u75, u76, u77, u78, u79, u80, u81, u82, u83, u84, u85, u86, u87, u88, u89, u90, u91, u92, u93, u94, u95, u96, u97, u98, u99, u100, u101, u102, u103, u104, u105, u106, u107, u108, u109, u110, u111, u112, u113, u114, u115, u116, u117, u118, u119, u120, u121, u122, u123, u124, u125, u126, u127, u128, u129, u130, u131, u132, u133, u134, u135, u136, u137, u138, u139, u140, u141, u142, u143, u144, u145, u146, u147, u148, u149, u150, u151, u152, u153, u154, u155, u156, u157, u158, u159, u160, u161, u162, u163, u164, u165, u166, u167, u168, u169, u170, u171, u172, u173, u174, u175, u176, u177, u178, u179, u180, u181, u182, u183, u184, u185, u186, u187, u188, u189, u190, u191, y192, y193, u194], []⟩ X) :
    Code.wp Tryz.prog (keepsReg 45) R ⟨#[u0, u1, u2, u3, u4, .pointer (some ⟨G, 0, none⟩), u6, .pointer (some ⟨P, 0, none⟩), .pointer (some ⟨P + 1, 0, none⟩), u9, u10, u11, u12, u13, u14, u15, u16, u17, u18, u19, u20, u21, u22, u23, u24, u25, u26, u27, u28, u29, u30, u31, u32, u33, u34, u35, u36, u37, u38, u39, u40, u41, u42, u43, u44, u45, u46, u47, u48, u49, u50, u51, u52, u53, u54, u55, u56, u57, u58, u59, u60, u61, u62, u63, u64, u65, u66, u67, u68, u69, u70, u71, u72, u73, u74, u75, u76, u77, u78, u79, u80, u81, u82, u83, u84, u85, u86, u87, u88, u89, u90, u91, u92, u93, u94, u95, u96, u97, u98, u99, u100, u101, u102, u103, u104, u105, u106, u107, u108, u109, u110, u111, u112, u113, u114, u115, u116, u117, u118, u119, u120, u121, u122, u123, u124, u125, u126, u127, u128, u129, u130, u131, u132, u133, u134, u135, u136, u137, u138, u139, u140, u141, u142, u143, u144, u145, u146, u147, u148, u149, u150, u151, u152, u153, u154, u155, u156, u157, u158, u159, u160, u161, u162, u163, u164, u165, u166, u167, u168, u169, u170, u171, u172, u173, u174, u175, u176, u177, u178, u179, u180, u181, u182, u183, u184, u185, u186, u187, u188, u189, u190, u191, u192, u193, u194], []⟩ W := by
  conv => arg 2; whnf
  refine copyNil (s := 8) (t := 7) (v := 5) (d := 192) (e := 193) (G := G) (P := P) (F := fun x192 x193 => ⟨#[u0, u1, u2, u3, u4, .pointer (some ⟨G, 0, none⟩), u6, .pointer (some ⟨P, 0, none⟩), .pointer (some ⟨P + 1, 0, none⟩), u9, u10, u11, u12, u13, u14, u15, u16, u17, u18, u19, u20, u21, u22, u23, u24, u25, u26, u27, u28, u29, u30, u31, u32, u33, u34, u35, u36, u37, u38, u39, u40, u41, u42, u43, u44, u45, u46, u47, u48, u49, u50, u51, u52, u53, u54, u55, u56, u57, u58, u59, u60, u61, u62, u63, u64, u65, u66, u67, u68, u69, u70, u71, u72, u73, u74, u75, u76, u77, u78, u79, u80, u81, u82, u83, u84, u85, u86, u87, u88, u89, u90, u91, u92, u93, u94, u95, u96, u97, u98, u99, u100, u101, u102, u103, u104, u105, u106, u107, u108, u109, u110, u111, u112, u113, u114, u115, u116, u117, u118, u119, u120, u121, u122, u123, u124, u125, u126, u127, u128, u129, u130, u131, u132, u133, u134, u135, u136, u137, u138, u139, u140, u141, u142, u143, u144, u145, u146, u147, u148, u149, u150, u151, u152, u153, u154, u155, u156, u157, u158, u159, u160, u161, u162, u163, u164, u165, u166, u167, u168, u169, u170, u171, u172, u173, u174, u175, u176, u177, u178, u179, u180, u181, u182, u183, u184, u185, u186, u187, u188, u189, u190, u191, x192, x193, u194], []⟩) (fun _ _ _ => rfl) (fun _ _ _ => rfl) (fun _ _ => rfl) (fun _ _ => rfl) (fun _ _ => rfl) (fun _ _ => rfl) (fun _ _ => rfl) ⟨_, _, _, _, rfl, ⟨rfl, rfl, rfl⟩, ⟨rfl, rfl, rfl⟩, ⟨rfl, rfl, rfl⟩, ⟨rfl, rfl, rfl⟩⟩ (by decide +kernel) (by decide +kernel) c _ _ ?_
  exact fun X h => hR X _ _ h

end Go.Proofs.YtnbbijpmkhdgpaaGreat.Vlt
