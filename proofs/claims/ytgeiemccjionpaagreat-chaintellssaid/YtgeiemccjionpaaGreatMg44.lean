/- Contracts and plain mathematics that the statement's proof wants: no statement is proved here, nothing is assumed. -/
import Derived.Test.YtgeiemccjionpaaGreatMg26
import Derived.Test.YtgeiemccjionpaaGreatMg30
import Derived.Test.YtgeiemccjionpaaGreatMg38
import Derived.Test.YtgeiemccjionpaaGreatMg41
import Derived.Test.YtgeiemccjionpaaGreatMg43
/- HPlaysP -/
namespace Go.Proofs.YtgeiemccjionpaaGreat.Chn
open Go.RowKit Go.Sort
open Dsk Vlt

theorem dirty_few : ∀ (l : List Lf) (lo n : Int), (∀ x ∈ l, lo ≤ x.no ∧ x.no < n) → List.Pairwise (fun a b : Lf => a.no < b.no) l → lo ≤ n → (l.length : Int) ≤ n - lo
  | [], lo, n, _, _, h => by simp; omega
  | x :: l, lo, n, h1, h2, h => by
    rw [List.pairwise_cons] at h2
    have hx := h1 x (by simp)
    have := dirty_few l (x.no + 1) n (fun y hy => ⟨by have := h2.1 y hy; omega, (h1 y (by simp [hy])).2⟩) h2.2 (by omega)
    rw [List.length_cons]
    omega
theorem wrap_lk {a : Int} (h1 : 0 ≤ a) (h2 : a < 65536) : wrap64 a = a := by unfold wrap64; omega
theorem vault_keep {W X : World} {v : Value} {k : VK} (h : IsVault W v k) (hk : ∀ (q : Nat) (ob : Obj), W.heap[q]? = some ob → (∀ c fr, ob ≠ .cells c 3 fr) → X.heap[q]? = some ob) : IsVault X v k := by
  obtain ⟨vs, vw, vd, e, ⟨ds, dw, e2, h3, h4⟩, h2⟩ := h
  have hh : ∀ (t : TypeId), t ≠ 3 → ∀ (b : Nat) (cur : Array Value) (fr : Nat × Nat), W.heap[b]? = some (.cells cur t fr) → X.heap[b]? = some (.cells cur t fr) := fun t ht b cur fr hb => hk b _ hb (fun c f e => ht (by injection e))
  exact ⟨vs, vw, vd, e, ⟨ds, dw, e2, h3.keep (hh 9 (by decide)), h4.keep (hh 106 (by decide))⟩, h2.keep (hh 98 (by decide))⟩
theorem VV.keep {w W X : World} {g : Nat} {cs : Array Value} {k : VK} (h : VV w W g cs k) (hb : Below w.heap.size w X) (hk : ∀ (q : Nat) (ob : Obj), W.heap[q]? = some ob → (∀ c fr, ob ≠ .cells c 3 fr) → X.heap[q]? = some ob) : VV w X g cs k :=
  ⟨hk _ _ h.a (fun c fr e => by injection e with _ e; exact absurd e (by decide)), vault_keep h.v hk, hb, h.ge⟩
theorem VV.beside {w W X : World} {g g2 : Nat} {cs cs' ds : Array Value} {k k' k2 : VK} (h : VV w W g cs k) (h2 : VV w W g2 ds k2) (hX : VV w X g cs' k') (hk : ∀ q : Nat, q ≠ g → X.heap[q]? = W.heap[q]?) (hne : g2 ≠ g) : VV w X g2 ds k2 :=
  ⟨(hk _ hne).trans h2.a, h2.v.other h.a hk, hX.below, h2.ge⟩
theorem OwnI.other {w W X : World} {B g : Nat} {cs : Array Value} {k : VK} {v : Value} {l : List Int} (h : VV w W g cs k) (ho : OwnI B W v l) (hk : ∀ q : Nat, q ≠ g → X.heap[q]? = W.heap[q]?) : OwnI B X v l := by
  refine ⟨ho.1, ?_⟩
  rcases ho.2 with hn | ⟨g', cap, cur, rfl, hg1, hg, rest⟩
  · exact .inl hn
  · refine .inr ⟨g', cap, cur, rfl, hg1, (hk _ (fun e => ?_)).trans hg, rest⟩
    rw [e, h.a] at hg
    cases hg
theorem OwnI.mono {W : World} {B B' : Nat} {v : Value} {l : List Int} (ho : OwnI B' W v l) (hB : B ≤ B') : OwnI B W v l := by
  refine ⟨ho.1, ?_⟩
  rcases ho.2 with hn | ⟨g', cap, cur, rfl, hg1, rest⟩
  · exact .inl hn
  · exact .inr ⟨g', cap, cur, rfl, Nat.le_trans hB hg1, rest⟩
/-- Behind an append to a row of one's own of numbers, the boxes stay. -/
theorem push_kept {W X : World} {B : Nat} {v : Value} {l : List Int} (ho : OwnI B W v l) (hk : ∀ (q : Nat) (ob : Obj), W.heap[q]? = some ob → some q ≠ v.ownBlock → X.heap[q]? = some ob) :
    ∀ (q : Nat) (ob : Obj), W.heap[q]? = some ob → (∀ c fr, ob ≠ .cells c 3 fr) → X.heap[q]? = some ob := fun q ob h1 h2 => hk q ob h1 fun e => by
  obtain ⟨c, hc, _⟩ := own_kind ho q e.symm
  rw [h1] at hc
  injection hc with hc
  exact h2 _ _ hc
theorem step_app {w : World} {ops : Array Oper} {o : Oper} {a : Act} {K : Act → World → Prop} {Q : Exit → Act → World → Prop} {E : Prop} (hg0 : o.guard = none) (s x : Operand)
    (ho : o.op = Op.call { callee := Callee.builtin Builtin.append, args := #[s, x], argTypes := #[36, 36] }) (B : Nat) (v u : Value) (l m : List Int)
    (hs : a.eval s = v) (hx : a.eval x = u) (hown : OwnI B w v l) (hu : IsInts w u m) (hl : l.length + m.length ≤ 1000000) (hB : B ≤ w.heap.size)
    (h : ∀ Z z w', OwnI B w' (.slice Z (l.length + m.length) z) (l ++ m) → (∀ (a : World), Below B a w → Below B a w') → K (a.put o.dst (.slice Z (l.length + m.length) z)) w') :
    if Region.wanted o (yielded ops a.tmps) = true then Oper.wp Tryz.prog o a w K Q else E := by
  have hw : Region.wanted o (yielded ops a.tmps) = true := by simp [Region.wanted, hg0]
  rw [if_pos hw]
  obtain ⟨v', w', hr, h2, h3⟩ := app_run o.type hown hu hl hB
  obtain ⟨Z, z, e⟩ := h2.form
  rw [List.length_append] at e
  subst e
  unfold Oper.wp
  simp [execOp, ho, resolve, invoke, builtin, hs, hx, hr, Result.andThen]
  exact h Z z w' h2 h3
section
variable {n : Nat} {k : VK} {ts A O B : List TX} {old l : List Nat} {t t0 : List UInt8}
theorem Still.lens {x : Sh} (hx : rightS x = true) (h : Still x k) : k.disk.sure.length ≤ 1000000 ∧ k.disk.wet.length ≤ 1000000 ∧ k.dirty.length ≤ 1000000 := by
  have h0 : Vlt.Rest x (fun _ => Ent.zer 208) 1 k := h
  have h1 := h0.pl.good.sure
  have h2 := h0.pl.good.wet
  have h3 := right_nat hx
  have h4 := dirty_few k.dirty 0 (PN x) (fun y hy => ⟨h0.lok.lo y hy, h0.lok.hi y hy⟩) h0.rise (by omega)
  unfold NN at h1
  refine ⟨by omega, by omega, by omega⟩
theorem law_same (h : TV (shL n) k ts) (h1 : 16 ≤ n) (h2 : n ≤ 512) : ∀ v u W, IsVault W v k → IsVault W u k → Calls Tryz.prog 15 #[v, u] W fun e w' => e = .returned (.bool true) ∧ Below W.heap.size W w' := fun v u W hv hu => by
  obtain ⟨a, b, c⟩ := h.still.lens (shL_right h1 h2)
  exact same_calls v u k W hv hu a b c
/-- Put at both sides. -/
theorem both_put (h : TV (shL n) k (A ++ O ++ B)) (h1 : 16 ≤ n) (h2 : n ≤ 512) {no : Int} (ho : At O old no) (ht : t.length ≤ 100000) (hf : needC t.length + (1 + (pagesOf (A ++ B)).length) ≤ n) :
    ∃ k' l, PutOk n k A B old t k' l ∧ (∀ v W, IsVault W v k → Calls Tryz.prog 11 #[v, .int .i64 no, .string (strB t)] W fun e w' => ∃ v', e = .returned (.tuple #[v', .int .i64 ((l.getD 0 0 : Nat) : Int), .int .i64 0]) ∧ IsVault w' v' k' ∧ Below W.heap.size W w') ∧
      (∀ v W, IsVault W v k → Calls Tryz.prog 12 #[v, .int .i64 no, .string (strB t)] W fun e w' => ∃ v', e = .returned (.tuple #[v', .int .i64 ((l.getD 0 0 : Nat) : Int), .int .i64 0]) ∧ IsVault w' v' k' ∧ Below W.heap.size W w') := by
  obtain ⟨k', l, pk, hk, hl, hc⟩ := law_put h h1 h2 ho ht hf
  refine ⟨k', l, pk, hc, fun v W hv => ?_⟩
  have hx := shL_right h1 h2
  have hn := shL_n n
  have hfit : fitC (CV k) (PN (shL n)) old (needC t.length) := (fit_iff h.inv ho.o _).2 (by rw [hn]; exact hf)
  have := rput_fit v no old t W hx h.still hv (ho.old_ h) ht hfit
  rw [hn, ← hl, ← hk] at this
  exact this
theorem both_put_no (h : TV (shL n) k (A ++ O ++ B)) (h1 : 16 ≤ n) (h2 : n ≤ 512) {no : Int} (ho : At O old no) (ht : t.length ≤ 100000) (hf : ¬ needC t.length + (1 + (pagesOf (A ++ B)).length) ≤ n) :
    (∀ v W, IsVault W v k → Calls Tryz.prog 11 #[v, .int .i64 no, .string (strB t)] W fun e w' => ∃ v', e = .returned (.tuple #[v', .int .i64 0, .int .i64 7]) ∧ IsVault w' v' k ∧ Below W.heap.size W w') ∧
      (∀ v W, IsVault W v k → Calls Tryz.prog 12 #[v, .int .i64 no, .string (strB t)] W fun e w' => ∃ v', e = .returned (.tuple #[v', .int .i64 0, .int .i64 7]) ∧ IsVault w' v' k ∧ Below W.heap.size W w') := by
  refine ⟨law_put_no h h1 h2 ho ht hf, fun v W hv => ?_⟩
  have hx := shL_right h1 h2
  have hn := shL_n n
  have hfit : ¬ fitC (CV k) (PN (shL n)) old (needC t.length) := fun e => hf (by have := (fit_iff h.inv ho.o _).1 e; rw [hn] at this; exact this)
  exact rput_no v no old t W hx h.still hv (ho.old_ h) ht hfit
theorem both_drop (h : TV (shL n) k (A ++ [(l, t)] ++ B)) (h1 : 16 ≤ n) (h2 : n ≤ 512) :
    TV (shL n) (freeV k (natI l)) (A ++ B) ∧ (∀ v W, IsVault W v k → Calls Tryz.prog 13 #[v, .int .i64 ((l.getD 0 0 : Nat) : Int)] W fun e w' => ∃ v', e = .returned (.tuple #[v', .int .i64 0]) ∧ IsVault w' v' (freeV k (natI l)) ∧ Below W.heap.size W w') ∧
      (∀ v W, IsVault W v k → Calls Tryz.prog 14 #[v, .int .i64 ((l.getD 0 0 : Nat) : Int)] W fun e w' => ∃ v', e = .returned (.tuple #[v', .int .i64 0]) ∧ IsVault w' v' (freeV k (natI l)) ∧ Below W.heap.size W w') :=
  ⟨(law_drop h h1 h2).1, (law_drop h h1 h2).2, fun v W hv => rdrop_ok v _ l t W (shL_right h1 h2) h.still hv (h.walk (by simp))⟩
theorem both_drop_no (h : TV (shL n) k ts) (h1 : 16 ≤ n) (h2 : n ≤ 512) :
    (∀ v W, IsVault W v k → Calls Tryz.prog 13 #[v, .int .i64 0] W fun e w' => ∃ v', e = .returned (.tuple #[v', .int .i64 1]) ∧ IsVault w' v' k ∧ Below W.heap.size W w') ∧
      (∀ v W, IsVault W v k → Calls Tryz.prog 14 #[v, .int .i64 0] W fun e w' => ∃ v', e = .returned (.tuple #[v', .int .i64 1]) ∧ IsVault w' v' k ∧ Below W.heap.size W w') :=
  ⟨law_drop_no h h1 h2, fun v W hv => rdrop_no v W (shL_right h1 h2) h.still hv⟩
/-- Walk at both sides, wherever. -/
theorem both_walk (h : TV (shL n) k ts) (h1 : 16 ≤ n) (h2 : n ≤ 512) (no : Int) : ∃ (ps : List Nat) (t : List UInt8) (er : Int), ps.length ≤ 512 ∧ (∀ v W, IsVault W v k → Calls Tryz.prog 16 #[v, .int .i64 no] W fun e w' => ∃ vp, e = .returned (.tuple #[vp, .string (strB t), .int .i64 er]) ∧ IsInts w' vp (natI ps) ∧ Below W.heap.size W w') ∧
    (∀ v W, IsVault W v k → Calls Tryz.prog 17 #[v, .int .i64 no] W fun e w' => ∃ vp, e = .returned (.tuple #[vp, .string (strB t), .int .i64 er]) ∧ IsInts w' vp (natI ps) ∧ Below W.heap.size W w') := by
  obtain ⟨R, hR⟩ : ∃ R, walkZ (CV k) (PN (shL n)) (PN (shL n)) [] [] no = R := ⟨_, rfl⟩
  have hl := (walkZ_ok (CV k) (PN (shL n)) no).2
  rw [hR, shL_n] at hl
  exact ⟨R.1, R.2.1, R.2.2, by omega, fun v W hv => walk_calls v no W (shL_right h1 h2) h.still hv R hR, fun v W hv => rwalk_calls v no W (shL_right h1 h2) h.still hv R hR⟩
/-- Where the texts begin. -/
def firsts (ts : List TX) : List Int := ts.map fun x => ((x.1.getD 0 0 : Nat) : Int)
theorem firsts_len (ts : List TX) : (firsts ts).length = ts.length := by simp [firsts]
theorem firsts_at {ts : List TX} {j : Nat} {x : TX} (h : ts[j]? = some x) : (firsts ts)[j]? = some ((x.1.getD 0 0 : Nat) : Int) := by simp [firsts, h]
theorem firsts_cut (A B : List TX) (x : TX) : (firsts (A ++ [x] ++ B)).take A.length ++ (firsts (A ++ [x] ++ B)).drop (A.length + 1) = firsts (A ++ B) := by
  simp [firsts, List.drop_append]
theorem push_firsts {W : World} {B : Nat} {Z : Option Addr} {z p1 N : Nat} {ts : List TX} {l2 : List Nat} {t : List UInt8} (h : OwnI B W (.slice Z ((firsts ts).length + 1) z) (firsts ts ++ [((p1 : Nat) : Int)])) (hp : p1 = l2.getD 0 0) (hN : N = ts.length) : OwnI B W (.slice Z (N + 1) z) (firsts (ts ++ [(l2, t)])) := by
  have e : firsts (ts ++ [(l2, t)]) = firsts ts ++ [((p1 : Nat) : Int)] := by rw [hp]; simp [firsts]
  rw [e, hN, ← firsts_len ts]
  exact h
theorem firsts_same {A B : List TX} {l l2 : List Nat} {t t0 : List UInt8} (h : l2.getD 0 0 = l.getD 0 0) : firsts (A ++ [(l2, t)] ++ B) = firsts (A ++ [(l, t0)] ++ B) := by
  simp only [firsts, List.map_append, List.map_cons, List.map_nil, h]
theorem ts_split {ts : List TX} {j : Nat} (h : j < ts.length) : ∃ A x B, ts = A ++ [x] ++ B ∧ A.length = j ∧ ts[j]? = some x := by
  refine ⟨ts.take j, ts[j], ts.drop (j + 1), ?_, by rw [List.length_take]; omega, List.getElem?_eq_getElem h⟩
  simp
end
end Go.Proofs.YtgeiemccjionpaaGreat.Chn
