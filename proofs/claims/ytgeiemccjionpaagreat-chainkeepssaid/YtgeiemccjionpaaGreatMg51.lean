/- Contracts and plain mathematics that the statement's proof wants: no statement is proved here, nothing is assumed. -/
import Derived.Laws.OwnMore
import Derived.Deep.Cut
import Derived.Test.YtgeiemccjionpaaGreatMg44
/- HKWords -/
namespace Go.Proofs.YtgeiemccjionpaaGreat.Chn
open Go.RowKit Go.Sort
open Dsk Vlt
open Bit (tk freeN)

/-! Plain -/
section
variable {n : Nat} {k : VK} {ts A B : List TX} {l l2 : List Nat} {t t0 : List UInt8}
/-- The texts' sizes. -/
def sizes (ts : List TX) : List Int := ts.map fun x => ((x.2.length : Nat) : Int)
theorem sizes_len (ts : List TX) : (sizes ts).length = ts.length := by simp [sizes]
theorem sizes_at {ts : List TX} {j : Nat} {x : TX} (h : ts[j]? = some x) : (sizes ts)[j]? = some ((x.2.length : Nat) : Int) := by simp [sizes, h]
theorem sizes_cut (A B : List TX) (x : TX) : (sizes (A ++ [x] ++ B)).take A.length ++ (sizes (A ++ [x] ++ B)).drop (A.length + 1) = sizes (A ++ B) := by
  simp [sizes, List.drop_append]
theorem sizes_set (A B : List TX) (l l2 : List Nat) (t0 t : List UInt8) {s : Nat} (hs : t.length = s) : (sizes (A ++ [(l, t0)] ++ B)).set A.length ((s : Nat) : Int) = sizes (A ++ [(l2, t)] ++ B) := by
  simp [sizes, hs]
theorem sizes_push (ts : List TX) (l2 : List Nat) (t : List UInt8) {s : Nat} (hs : t.length = s) : sizes ts ++ [((s : Nat) : Int)] = sizes (ts ++ [(l2, t)]) := by
  simp [sizes, hs]
theorem firsts_push (ts : List TX) {l2 : List Nat} {t : List UInt8} {p1 : Nat} (hp : l2.getD 0 0 = p1) : firsts ts ++ [((p1 : Nat) : Int)] = firsts (ts ++ [(l2, t)]) := by
  simp only [firsts, List.map_append, List.map_cons, List.map_nil, hp]
/-- All texts are long ones. -/
def LongT (ts : List TX) : Prop := ∀ x ∈ ts, x.2.length < 900 ∧ x.2 = longL x.2.length
theorem LongT.put {O : List TX} (h : LongT (A ++ O ++ B)) {kk : Nat} (hk : kk < 900) : LongT (A ++ [(l2, longL kk)] ++ B) := fun x hx => by
  have hx' : x ∈ A ∨ x = (l2, longL kk) ∨ x ∈ B := by simpa [or_assoc] using hx
  rcases hx' with hx | hx | hx
  · exact h x (by simp [hx])
  · rw [hx, longL_len]; exact ⟨hk, rfl⟩
  · exact h x (by simp [hx])
theorem LongT.drop {O : List TX} (h : LongT (A ++ O ++ B)) : LongT (A ++ B) := fun x hx => by
  have hx' : x ∈ A ∨ x ∈ B := by simpa using hx
  rcases hx' with hx | hx
  · exact h x (by simp [hx])
  · exact h x (by simp [hx])
theorem pages_app (a b : List TX) : pagesOf (a ++ b) = pagesOf a ++ pagesOf b := by simp [pagesOf]
theorem pages_take {ts : List TX} {j : Nat} (h : ts[j]? = some (l, t)) : pagesOf (ts.take (j + 1)) = pagesOf (ts.take j) ++ l := by
  rw [List.take_add_one, h]
  simp [pagesOf]
theorem pages_take_len {ts : List TX} {j : Nat} (h : ts[j]? = some (l, t)) : (pagesOf (ts.take (j + 1))).length = (pagesOf (ts.take j)).length + l.length := by
  rw [pages_take h, List.length_append]
theorem pages_part {ts : List TX} {j : Nat} (h : ts[j]? = some (l, t)) : pagesOf ts = pagesOf (ts.take j) ++ l ++ pagesOf (ts.drop (j + 1)) := by
  rw [← pages_take h, ← pages_app, List.take_append_drop]
/-- A page of a text wasn't seen with the texts ahead, nor ahead in its own text; it is there, and marked. -/
theorem seen_not (h : TV (shL n) k ts) {j i p : Nat} (hj : ts[j]? = some (l, t)) (hi : l[i]? = some p) : p ∉ pagesOf (ts.take j) ++ l.take i ∧ 1 ≤ p ∧ p < n ∧ tk (CV k 0) p = true := by
  have hm : (l, t) ∈ ts := List.mem_of_getElem? hj
  have hp : p ∈ l := List.mem_of_getElem? hi
  have hin := h.inv.inn _ hm p hp
  rw [shL_n] at hin
  refine ⟨fun hq => ?_, hin.1, hin.2, (h.inv.mrk p hin.1 (by rw [shL_n]; exact hin.2)).2 ⟨_, hm, hp⟩⟩
  have hnd := (h.inv.pages).1
  rw [pages_part hj] at hnd
  have hl : l = l.take i ++ p :: l.drop (i + 1) := by
    have hil := (List.getElem?_eq_some_iff.1 hi).1
    have := (List.getElem?_eq_some_iff.1 hi).2
    rw [← this, ← List.drop_eq_getElem_cons hil, List.take_append_drop]
  rw [hl] at hnd
  have hq' : p ∈ pagesOf (ts.take j) ∨ p ∈ l.take i := by simpa using hq
  simp only [List.append_assoc, List.nodup_append, List.mem_append, List.mem_cons, List.cons_append] at hnd
  rcases hq' with hq | hq
  · exact hnd.2.2 p hq p (.inr (.inl rfl)) rfl
  · exact hnd.2.1.2.2 p hq p (.inl rfl) rfl
theorem pages_few (h : TV (shL n) k ts) (hn2 : n ≤ 512) : (pagesOf ts).length ≤ 512 := by
  by_cases hne : ts = []
  · rw [hne]; simp [pagesOf]
  · have := free_is h.inv hne
    rw [shL_n] at this
    omega
theorem ts_few (h : TV (shL n) k ts) (hn2 : n ≤ 512) : ts.length ≤ 512 := by
  have hp := pages_few h hn2
  have : ∀ us : List TX, (∀ x ∈ us, x.1 ≠ []) → us.length ≤ (pagesOf us).length := by
    intro us
    induction us with
    | nil => intro _; simp
    | cons a us ih =>
      intro hx
      have e : pagesOf (a :: us) = a.1 ++ pagesOf us := by simp [pagesOf]
      have h1 : a.1 ≠ [] := hx a (by simp)
      have h2 := ih fun x hx' => hx x (by simp [hx'])
      have h3 : 0 < a.1.length := List.length_pos_iff.2 h1
      rw [e, List.length_append, List.length_cons]
      omega
  have := this ts fun x hx => (h.inv.ch _ hx).ne
  omega
/-- Where a deed is asked of. -/
theorem there_is (tv : TV (shL n) k ts) {N : Nat} (hN : N = ts.length) (nn : Int) :
    ∃ (b : Bool) (no : Int) (A O B : List TX) (old : List Nat), ts = A ++ O ++ B ∧ At O old no ∧
      ((b = true ∧ ∃ (j p1 : Nat) (t0 : List UInt8), nn = (j : Int) ∧ (j : Int) < (N : Int) ∧ O = [(old, t0)] ∧ A.length = j ∧ no = ((p1 : Nat) : Int) ∧ old.getD 0 0 = p1 ∧ old ≠ [] ∧ 1 ≤ p1 ∧ (firsts ts)[j]? = some ((p1 : Nat) : Int)) ∨
      (b = false ∧ no = 0 ∧ O = [] ∧ B = [] ∧ old = [] ∧ A = ts ∧ (¬ 0 ≤ nn ∨ (0 ≤ nn ∧ ¬ nn < (N : Int))))) := by
  by_cases h : 0 ≤ nn ∧ nn < (N : Int)
  · obtain ⟨j, rfl⟩ : ∃ j : Nat, nn = (j : Int) := ⟨nn.toNat, by omega⟩
    obtain ⟨A, ⟨l, t0⟩, B, hts, hA, hx⟩ := ts_split (show j < ts.length by omega)
    obtain ⟨p1, hp1, hp1a, _⟩ := tv.first (l := l) (t := t0) (by rw [hts]; simp)
    have hg1 := getD_at hp1
    refine ⟨true, ((p1 : Nat) : Int), A, [(l, t0)], B, l, hts, .inr ⟨t0, rfl, by rw [hg1]⟩, .inl ⟨rfl, j, p1, t0, rfl, h.2, rfl, hA, rfl, hg1, ?_, hp1a, ?_⟩⟩
    · rintro rfl
      simp at hp1
    · have := firsts_at hx
      dsimp only at this
      rw [hg1] at this
      exact this
  · refine ⟨false, 0, ts, [], [], [], by simp, .inl ⟨rfl, rfl, rfl⟩, .inr ⟨rfl, rfl, rfl, rfl, rfl, rfl, by omega⟩⟩
end

/-! Memory -/
/-- Two rows of the call's own, apart. -/
structure Two (w W : World) (vw vs : Value) (la lb : List Int) : Prop where
  a : OwnI w.heap.size W vw la
  b : OwnI w.heap.size W vs lb
  ne : ∀ q, vw.ownBlock = some q → vs.ownBlock = some q → False
theorem OwnI.kept {W X : World} {B : Nat} {v u : Value} {l : List Int} (ho : OwnI B W v l) (hk : ∀ (q : Nat) (ob : Obj), W.heap[q]? = some ob → some q ≠ u.ownBlock → X.heap[q]? = some ob) (hne : ∀ q, v.ownBlock = some q → u.ownBlock = some q → False) : OwnI B X v l := by
  refine ⟨ho.1, ?_⟩
  rcases ho.2 with hn | ⟨g, cap, cur, rfl, hg1, hg, rest⟩
  · exact .inl hn
  · exact .inr ⟨g, cap, cur, rfl, hg1, hk g _ hg (fun e => hne g rfl e.symm), rest⟩
theorem OwnI.lt {W : World} {B : Nat} {v : Value} {l : List Int} (ho : OwnI B W v l) : ∀ q, v.ownBlock = some q → B ≤ q ∧ q < W.heap.size := World.ownsRow.lt ho
section
variable {w W X : World} {vw vs : Value} {la lb : List Int}
theorem Two.more (h : Two w W vw vs la lb) (hb : Below W.heap.size W X) : Two w X vw vs la lb := ⟨h.a.below hb, h.b.below hb, h.ne⟩
theorem Two.other {g : Nat} {cs : Array Value} {k : VK} (h : Two w W vw vs la lb) (hv : VV w W g cs k) (hk : ∀ q : Nat, q ≠ g → X.heap[q]? = W.heap[q]?) : Two w X vw vs la lb := ⟨OwnI.other hv h.a hk, OwnI.other hv h.b hk, h.ne⟩
/-- One number more behind the first row. -/
theorem Two.push1 (h : Two w W vw vs la lb) {u : Value} {lc : List Int} (ho : OwnI w.heap.size X u lc) (hk : ∀ (q : Nat) (ob : Obj), W.heap[q]? = some ob → some q ≠ vw.ownBlock → X.heap[q]? = some ob) (ha : u.ownBlock = vw.ownBlock ∨ u.ownBlock = some W.heap.size) : Two w X u vs lc lb := by
  refine ⟨ho, h.b.kept hk (fun q h1 h2 => h.ne q h2 h1), fun q h1 h2 => ?_⟩
  rcases ha with ha | ha
  · exact h.ne q (ha ▸ h1) h2
  · have := (h.b.lt q h2).2
    rw [ha] at h1
    have := Option.some.inj h1
    omega
/-- One number more behind the second row. -/
theorem Two.push2 (h : Two w W vw vs la lb) {u : Value} {lc : List Int} (ho : OwnI w.heap.size X u lc) (hk : ∀ (q : Nat) (ob : Obj), W.heap[q]? = some ob → some q ≠ vs.ownBlock → X.heap[q]? = some ob) (ha : u.ownBlock = vs.ownBlock ∨ u.ownBlock = some W.heap.size) : Two w X vw u la lc := by
  refine ⟨h.a.kept hk h.ne, ho, fun q h1 h2 => ?_⟩
  rcases ha with ha | ha
  · exact h.ne q h1 (ha ▸ h2)
  · have := (h.a.lt q h1).2
    rw [ha] at h2
    have := Option.some.inj h2
    omega
/-- Another second row, made behind. -/
theorem Two.new2 (h : Two w W vw vs la lb) {u : Value} {lc : List Int} (ho : OwnI W.heap.size X u lc) (hb : Below W.heap.size W X) (hw : w.heap.size ≤ W.heap.size) : Two w X vw u la lc :=
  ⟨h.a.below hb, OwnI.mono ho hw, fun q h1 h2 => by have := (h.a.lt q h1).2; have := (ho.lt q h2).1; omega⟩
/-- Another first row, made behind. -/
theorem Two.new1 (h : Two w W vw vs la lb) {u : Value} {lc : List Int} (ho : OwnI W.heap.size X u lc) (hb : Below W.heap.size W X) (hw : w.heap.size ≤ W.heap.size) : Two w X u vs lc lb :=
  ⟨OwnI.mono ho hw, h.b.below hb, fun q h1 h2 => by have := (h.b.lt q h2).2; have := (ho.lt q h1).1; omega⟩
end
/-- A number is stored into a row of the call's own. -/
theorem OwnI.set {W : World} {B g N z j : Nat} {l : List Int} (ho : OwnI B W (.slice (some ⟨g, 0, none⟩) N z) l) (hN : N = l.length) (hj : j < N) (y : Int) :
    OwnI B (W.setCell ⟨g, j, none⟩ (.int .i64 y)) (.slice (some ⟨g, 0, none⟩) N z) (l.set j y) ∧ W.frozen? ⟨g, j, none⟩ = false ∧ (∃ u, W.cell? ⟨g, j, none⟩ = some u) ∧ (∀ q : Nat, q ≠ g → (W.setCell ⟨g, j, none⟩ (.int .i64 y)).heap[q]? = W.heap[q]?) ∧ B ≤ g := by
  subst hN
  have h0 : W.ownsRow B 3 1 (.slice (some ⟨g, 0, none⟩) l.length z) l.length (intC l) := ho
  obtain ⟨h1, h2⟩ := World.ownsRow.stored h0 j (.int .i64 y)
  refine ⟨?_, World.ownsRow.frozenAt h0 j, ?_, fun q hq => Below.heap_setCell _ _ _ _ hq, (h0.lt g rfl).1⟩
  · unfold OwnI
    rw [List.length_set, show intC (l.set j y) = (intC l).set j (.int .i64 y) by simp [intC, List.map_set]]
    exact h1
  · rw [World.ownsRow.cellAt h0 j (by omega)]
    exact ⟨_, List.getElem?_eq_getElem (by rw [intC_length]; omega)⟩
/-- Behind a store into a block of one's own of numbers: the second row. -/
theorem Two.set2 {w W X : World} {vw : Value} {g N z : Nat} {la lb lc : List Int} (h : Two w W vw (.slice (some ⟨g, 0, none⟩) N z) la lb) (ho : OwnI w.heap.size X (.slice (some ⟨g, 0, none⟩) N z) lc) (hk : ∀ q : Nat, q ≠ g → X.heap[q]? = W.heap[q]?) : Two w X vw (.slice (some ⟨g, 0, none⟩) N z) la lc :=
  ⟨h.a.kept (u := .slice (some ⟨g, 0, none⟩) N z) (fun q ob h1 h2 => (hk q (fun e => h2 (by rw [e]; rfl))).trans h1) h.ne, ho, h.ne⟩

/-- A row of marks: 512, these are set. -/
def RowQ (w : World) (g : Nat) (S : List Nat) : Prop :=
  ∃ cur : Array Value, w.heap[g]? = some (.cells cur 4 (0, 0)) ∧ cur.size = 512 ∧ ∀ j, j < 512 → cur[j]? = some (.bool (decide (j ∈ S)))
theorem info4 : (Tryz.prog.info? 4).map (fun i => (i.zero, i.size, i.bytes)) = some (some (.bool false), 1, 1) := by kernel_rfl
theorem RowQ.new (w : World) : ∃ Y, (Instr.makeSlice 55 (.int .i64 512) (.int .i64 512)).run Tryz.prog w = .ok (.slice (some ⟨w.heap.size, 0, none⟩) 512 512) Y ∧ RowQ Y w.heap.size [] ∧ Below w.heap.size w Y := by
  obtain ⟨i0, hi, hz0, hz1, hz2⟩ := info_parts info4
  have hm := run_make (P := Tryz.prog) w 55 4 i0 (.bool false) Tryz.underlying55 hi hz0 .i64 .i64 512 512 (by omega) (by omega) (by rw [hz2]; omega) (by omega)
  rw [hz1] at hm
  refine ⟨_, by rw [hm]; rfl, ⟨_, heap_alloc_new w _, size_madeCells _ _, fun j hj => ?_⟩, below_one _ _⟩
  have := toList_madeCells_one (.bool false) 512
  have e : (madeCells (Value.cells (.bool false)) 512)[j]? = (madeCells #[.bool false] 512).toList[j]? := by simp [Value.cells]
  refine Eq.trans ?_ (e.trans ?_)
  · simp
  · rw [this, List.getElem?_replicate, if_pos hj]
    simp
theorem RowQ.more {w w' : World} {g : Nat} {S : List Nat} (h : RowQ w g S) (hb : Below w.heap.size w w') : RowQ w' g S := by
  obtain ⟨cur, h1, h2⟩ := h
  exact ⟨cur, box_kept _ h1 hb, h2⟩
theorem RowQ.cell {w : World} {g j : Nat} {S : List Nat} (h : RowQ w g S) (hj : j < 512) : w.cell? ⟨g, j, none⟩ = some (.bool (decide (j ∈ S))) := by
  obtain ⟨cur, hb, hs, hc⟩ := h
  rw [Go.Joins.cell_of_block hb]
  exact hc j hj
theorem RowQ.free {w : World} {g : Nat} {S : List Nat} (h : RowQ w g S) (j : Nat) : w.frozen? ⟨g, j, none⟩ = false := by
  obtain ⟨cur, hb, _⟩ := h
  simp [World.frozen?, hb]
theorem RowQ.set {w : World} {g p : Nat} {S : List Nat} (h : RowQ w g S) (hp : p < 512) : RowQ (w.setCell ⟨g, p, none⟩ (.bool true)) g (S ++ [p]) := by
  obtain ⟨cur, hb, hs, hc⟩ := h
  refine ⟨_, Go.Joins.block_setCell hb _, by simpa using hs, fun i hi => ?_⟩
  rw [Bit.set_get (by omega)]
  by_cases e : p = i
  · subst e; simp
  · rw [if_neg e, hc i hi]
    simp [show ¬ i = p from fun e2 => e e2.symm]
theorem vault_keepQ {W X : World} {v : Value} {k : VK} (h : IsVault W v k) (hk : ∀ (q : Nat) (ob : Obj), W.heap[q]? = some ob → (∀ c fr, ob ≠ .cells c 4 fr) → X.heap[q]? = some ob) : IsVault X v k := by
  obtain ⟨vs, vw, vd, e, ⟨ds, dw, e2, h3, h4⟩, h2⟩ := h
  have hh : ∀ (t : TypeId), t ≠ 4 → ∀ (b : Nat) (cur : Array Value) (fr : Nat × Nat), W.heap[b]? = some (.cells cur t fr) → X.heap[b]? = some (.cells cur t fr) := fun t ht b cur fr hb => hk b _ hb (fun c f e => ht (by injection e))
  exact ⟨vs, vw, vd, e, ⟨ds, dw, e2, h3.keep (hh 9 (by decide)), h4.keep (hh 106 (by decide))⟩, h2.keep (hh 98 (by decide))⟩
/-- What a store into the marks leaves. -/
theorem RowQ.leaves {w : World} {g : Nat} {S : List Nat} (h : RowQ w g S) (p : Nat) (u : Value) : ∀ (q : Nat) (ob : Obj), w.heap[q]? = some ob → (∀ c fr, ob ≠ .cells c 4 fr) → (w.setCell ⟨g, p, none⟩ u).heap[q]? = some ob := fun q ob h1 h2 => by
  obtain ⟨cur, hb, _⟩ := h
  rw [Below.heap_setCell _ _ _ _ (show q ≠ g from fun e => ?_), h1]
  rw [e, hb] at h1
  exact h2 _ _ (Option.some.inj h1).symm
theorem OwnI.keepQ {W X : World} {B : Nat} {v : Value} {l : List Int} (ho : OwnI B W v l) (hk : ∀ (q : Nat) (ob : Obj), W.heap[q]? = some ob → (∀ c fr, ob ≠ .cells c 4 fr) → X.heap[q]? = some ob) : OwnI B X v l := by
  refine ⟨ho.1, ?_⟩
  rcases ho.2 with hn | ⟨g, cap, cur, rfl, hg1, hg, rest⟩
  · exact .inl hn
  · exact .inr ⟨g, cap, cur, rfl, hg1, hk g _ hg (fun c fr e => by injection e with _ e; exact absurd e (by decide)), rest⟩
theorem IsInts.keepQ {W X : World} {v : Value} {l : List Int} (h : IsInts W v l) (hk : ∀ (q : Nat) (ob : Obj), W.heap[q]? = some ob → (∀ c fr, ob ≠ .cells c 4 fr) → X.heap[q]? = some ob) : IsInts X v l :=
  SL.keep h fun b cur fr hb => hk b _ hb fun c f e => by injection e with _ e; exact absurd e (by decide)
theorem VV.keepQ {w W X : World} {g : Nat} {cs : Array Value} {k : VK} (h : VV w W g cs k) (hb : Below w.heap.size w X) (hk : ∀ (q : Nat) (ob : Obj), W.heap[q]? = some ob → (∀ c fr, ob ≠ .cells c 4 fr) → X.heap[q]? = some ob) : VV w X g cs k :=
  ⟨hk _ _ h.a (fun c fr e => by injection e with _ e; exact absurd e (by decide)), vault_keepQ h.v hk, hb, h.ge⟩
theorem Two.keepQ {w W X : World} {vw vs : Value} {la lb : List Int} (h : Two w W vw vs la lb) (hk : ∀ (q : Nat) (ob : Obj), W.heap[q]? = some ob → (∀ c fr, ob ≠ .cells c 4 fr) → X.heap[q]? = some ob) : Two w X vw vs la lb := ⟨h.a.keepQ hk, h.b.keepQ hk, h.ne⟩
end Go.Proofs.YtgeiemccjionpaaGreat.Chn

/- HKPut -/
namespace Go.Proofs.YtgeiemccjionpaaGreat.Chn
open Go.RowKit Go.Sort
open Dsk Vlt

/-- A block of a function's code, by its number. -/
def blockOf (n : Nat) : Code → Option Code
  | .block m c => if m = n then some (.block m c) else blockOf n c
  | .seq x y => match blockOf n x with
    | some c => some c
    | none => blockOf n y
  | .loop c => blockOf n c
  | .scope c => blockOf n c
  | .cond _ x y => match blockOf n x with
    | some c => some c
    | none => blockOf n y
  | _ => none
noncomputable def keepsReg (n : Nat) : Code := (Tryz.f5.body.bind (regOf n)).getD .skip
noncomputable def keepsBlock (n : Nat) : Code := (Tryz.f5.body.bind (blockOf n)).getD .skip
/-- Nothing below has turned since. -/
structure Fol (W X : World) : Prop where
  b : Below W.heap.size W X
theorem Fol.below {W X Y : World} (h : Fol W X) (hb : Below X.heap.size X Y) : Fol W Y := ⟨Dsk.below_trans' h.b hb⟩
theorem VV.fresh2 {w W X0 : World} {g gz : Nat} {cs : Array Value} {b0 b1 b2 b3 b4 b5 b6 b7 : Value} {k k' : VK} (h : VV w W g cs k) (hz : W.heap[gz]? = some (.cells #[.slice none 0 0, .slice none 0 0, .bool false, .int .i64 0, .int .i64 0, .int .i64 0, .int .i64 0, .slice none 0 0] 32 (0, 0))) (hg : g < gz) (hv : IsVault W (.agg #[b0, b1, b2, b3, b4, b5, b6, b7]) k') (hf : Fol X0 W) (hgw : X0.heap.size ≤ gz) :
    ∃ X, (((((((W.setCell ⟨gz, 0, none⟩ b0).setCell ⟨gz, 1, none⟩ b1).setCell ⟨gz, 2, none⟩ b2).setCell ⟨gz, 3, none⟩ b3).setCell ⟨gz, 4, none⟩ b4).setCell ⟨gz, 5, none⟩ b5).setCell ⟨gz, 6, none⟩ b6).setCell ⟨gz, 7, none⟩ b7 = X ∧
      VV w X gz #[b0, b1, b2, b3, b4, b5, b6, b7] k' ∧ VV w X g cs k ∧ Below X0.heap.size X0 X := by
  obtain ⟨X, hX, hbX, hkX, hBX⟩ := box_store8 hz b0 b1 b2 b3 b4 b5 b6 b7
  have hge := h.ge
  exact ⟨X, hX, ⟨hbX, hv.other hz hkX, hBX _ _ h.below (by omega), by omega⟩, ⟨(hkX _ (by omega)).trans h.a, h.v.other hz hkX, hBX _ _ h.below (by omega), hge⟩, hBX _ _ hf.b hgw⟩

set_option maxRecDepth 100000 in
set_option maxHeartbeats 32000000 in
theorem keeps_put {u0 u1 u2 u3 u4 u6 u7 u8 u9 u11 u12 u14 u15 u16 u17 u18 u19 u20 u21 u22 u23 u24 u25 u26 u27 u28 u29 u30 u31 u32 u33 u34 u35 u36 u37 u38 u39 u40 u41 u42 u43 u44 u45 u46 u47 u48 u49 u50 u51 u52 u53 u54 u55 u56 u57 u58 u59 u60 u61 u62 u63 u64 u65 u66 u67 u68 u69 u70 u71 u72 u73 u74 u75 u76 u77 u78 u79 u80 u81 u82 u83 u84 u85 u86 u87 u88 u89 u90 u91 u92 u93 u94 u95 u96 u97 u98 u99 u100 u101 u102 u103 u104 u105 u106 u107 u108 u109 u110 u111 u112 u113 u114 u115 u116 u117 u118 u119 u120 u121 u122 u123 u124 u125 u126 u127 u128 u129 u130 u131 u132 u133 u134 u135 u136 u137 u138 u139 u140 u141 u142 u143 u144 u145 u146 u147 u148 u149 u150 u151 u152 u153 u154 u155 u156 u157 u158 u159 u160 u161 u162 u163 u164 u165 u166 u167 u168 u169 u170 u171 u172 u173 u174 u175 u176 u177 u178 u179 u180 u181 u182 u183 u184 u185 u186 u187 u188 u189 u190 u191 u192 u193 u194 u195 u196 u197 u198 u199 u200 u201 u202 u203 u204 u205 u206 u207 u208 u209 u210 u211 u212 u213 u214 u215 u216 u217 u218 u219 u220 u221 u222 u223 u224 u225 u226 u227 u228 u229 u230 u231 u232 u233 u234 u235 u236 u237 u238 u239 u240 u241 u242 u243 u244 u245 u246 u247 u248 u249 u250 u251 u252 u253 u254 u255 u256 : Value} {R : Exit → Act → World → Prop} {w W : World} {g n kk : Nat} {no a e : Int} {T : ByteArray} {k k2 : VK} {qA1 : Option Addr} {qn1 qc1 : Nat} {qA2 : Option Addr} {qn2 qc2 : Nat} {qdl qjr qsq : Int} {qA7 : Option Addr} {qn7 qc7 : Nat}
    (hv : VV w W g #[.slice qA1 qn1 qc1, .slice qA2 qn2 qc2, .bool false, .int .i64 qdl, .int .i64 (n : Nat), .int .i64 qjr, .int .i64 qsq, .slice qA7 qn7 qc7] k)
    (CL : ∀ W : World, Calls Tryz.prog 10 #[.int .i64 (kk : Nat)] W fun e0 w' => e0 = .returned (.string T) ∧ Below W.heap.size W w')
    (CP : ∀ (v : Value) (W : World), IsVault W v k → Calls Tryz.prog 11 #[v, .int .i64 no, .string T] W fun e0 w' => ∃ v', e0 = .returned (.tuple #[v', .int .i64 a, .int .i64 e]) ∧ IsVault w' v' k2 ∧ Below W.heap.size W w')
    (CF : ∀ (W : World) (v : Value), IsVault W v k2 → ∃ A1 n1 c1 A2 n2 c2 dl jr sq A7 n7 c7, v = .agg #[.slice A1 n1 c1, .slice A2 n2 c2, .bool false, .int .i64 dl, .int .i64 (n : Nat), .int .i64 jr, .int .i64 sq, .slice A7 n7 c7])
    (hR : ∀ (X : World) (g2 : Nat) (rA1 : Option Addr) (rn1 rc1 : Nat) (rA2 : Option Addr) (rn2 rc2 : Nat) (rdl rjr rsq : Int) (rA7 : Option Addr) (rn7 rc7 : Nat) (y79 y80 y81 y82 y83 y84 y85 y86 y87 : Value), VV w X g2 #[.slice rA1 rn1 rc1, .slice rA2 rn2 rc2, .bool false, .int .i64 rdl, .int .i64 (n : Nat), .int .i64 rjr, .int .i64 rsq, .slice rA7 rn7 rc7] k2 → VV w X g #[.slice qA1 qn1 qc1, .slice qA2 qn2 qc2, .bool false, .int .i64 qdl, .int .i64 (n : Nat), .int .i64 qjr, .int .i64 qsq, .slice qA7 qn7 qc7] k → Below W.heap.size W X → R .normal ⟨#[u0, u1, u2, u3, u4, .pointer (some ⟨g, 0, none⟩), u6, u7, u8, u9, .int .i64 no, u11, u12, .int .i64 (kk : Nat), u14, .pointer (some ⟨g2, 0, none⟩), .int .i64 a, .int .i64 e, u18, u19, u20, u21, u22, u23, u24, u25, u26, u27, u28, u29, u30, u31, u32, u33, u34, u35, u36, u37, u38, u39, u40, u41, u42, u43, u44, u45, u46, u47, u48, u49, u50, u51, u52, u53, u54, u55, u56, u57, u58, u59, u60, u61, u62, u63, u64, u65, u66, u67, u68, u69, u70, u71, u72, u73, u74, u75, u76, u77, u78, y79, y80, y81, y82, y83, y84, y85, y86, y87, u88, u89, u90, u91, u92, u93, u94, u95, u96, u97, u98, u99, u100, u101, u102, u103, u104, u105, u106, u107, u108, u109, u110, u111, u112, u113, u114, u115, u116, u117, u118, u119, u120, u121, u122, u123, u124, u125, u126, u127, u128, u129, u130, u131, u132, u133, u134, u135, u136, u137, u138, u139, u140, u141, u142, u143, u144, u145, u146, u147, u148, u149, u150, u151, u152, u153, u154, u155, u156, u157, u158, u159, u160, u161, u162, u163, u164, u165, u166, u167, u168, u169, u170, u171, u172, u173, u174, u175, u176, u177, u178, u179, u180, u181, u182, u183, u184, u185, u186, u187, u188, u189, u190, u191, u192, u193, u194, u195, u196, u197, u198, u199, u200, u201, u202, u203, u204, u205, u206, u207, u208, u209, u210, u211, u212, u213, u214, u215, u216, u217, u218, u219, u220, u221, u222, u223, u224, u225, u226, u227, u228, u229, u230, u231, u232, u233, u234, u235, u236, u237, u238, u239, u240, u241, u242, u243, u244, u245, u246, u247, u248, u249, u250, u251, u252, u253, u254, u255, u256], []⟩ X) :
    Code.wp Tryz.prog (keepsReg 15) R ⟨#[u0, u1, u2, u3, u4, .pointer (some ⟨g, 0, none⟩), u6, u7, u8, u9, .int .i64 no, u11, u12, .int .i64 (kk : Nat), u14, u15, u16, u17, u18, u19, u20, u21, u22, u23, u24, u25, u26, u27, u28, u29, u30, u31, u32, u33, u34, u35, u36, u37, u38, u39, u40, u41, u42, u43, u44, u45, u46, u47, u48, u49, u50, u51, u52, u53, u54, u55, u56, u57, u58, u59, u60, u61, u62, u63, u64, u65, u66, u67, u68, u69, u70, u71, u72, u73, u74, u75, u76, u77, u78, u79, u80, u81, u82, u83, u84, u85, u86, u87, u88, u89, u90, u91, u92, u93, u94, u95, u96, u97, u98, u99, u100, u101, u102, u103, u104, u105, u106, u107, u108, u109, u110, u111, u112, u113, u114, u115, u116, u117, u118, u119, u120, u121, u122, u123, u124, u125, u126, u127, u128, u129, u130, u131, u132, u133, u134, u135, u136, u137, u138, u139, u140, u141, u142, u143, u144, u145, u146, u147, u148, u149, u150, u151, u152, u153, u154, u155, u156, u157, u158, u159, u160, u161, u162, u163, u164, u165, u166, u167, u168, u169, u170, u171, u172, u173, u174, u175, u176, u177, u178, u179, u180, u181, u182, u183, u184, u185, u186, u187, u188, u189, u190, u191, u192, u193, u194, u195, u196, u197, u198, u199, u200, u201, u202, u203, u204, u205, u206, u207, u208, u209, u210, u211, u212, u213, u214, u215, u216, u217, u218, u219, u220, u221, u222, u223, u224, u225, u226, u227, u228, u229, u230, u231, u232, u233, u234, u235, u236, u237, u238, u239, u240, u241, u242, u243, u244, u245, u246, u247, u248, u249, u250, u251, u252, u253, u254, u255, u256], []⟩ W := by
  have HTA := Lib.hid ((hv.more (below_one W (.cells #[.slice none 0 0, .slice none 0 0, .bool false, .int .i64 0, .int .i64 0, .int .i64 0, .int .i64 0, .slice none 0 0] 32))).more (Below.refl _ _).drew)
  have HZA : Hid ((W.alloc (.cells #[.slice none 0 0, .slice none 0 0, .bool false, .int .i64 0, .int .i64 0, .int .i64 0, .int .i64 0, .slice none 0 0] 32)).drew.heap[W.heap.size]? = some (.cells #[.slice none 0 0, .slice none 0 0, .bool false, .int .i64 0, .int .i64 0, .int .i64 0, .int .i64 0, .slice none 0 0] 32 (0, 0))) := Lib.hid (heap_alloc_new W _)
  have HGZA := Lib.hid hv.lt
  have HGWA : Hid (W.heap.size ≤ W.heap.size) := Lib.hid (Nat.le_refl _)
  have HPA : Hid (Fol W (W.alloc (.cells #[.slice none 0 0, .slice none 0 0, .bool false, .int .i64 0, .int .i64 0, .int .i64 0, .int .i64 0, .slice none 0 0] 32)).drew) := Lib.hid ⟨(below_one W _).drew⟩
  have HT := Lib.hid (hv.more (Below.refl _ _).drew)
  have HP : Hid (Fol W W.drew) := Lib.hid ⟨(Below.refl _ _).drew⟩
  have HRR := Lib.hid hR
  replace CL := Lib.hid CL
  replace CP := Lib.hid CP
  replace CF := Lib.hid CF
  clear hv hR
  refine Code.wp_mono (Q := fun e a w => match e with | .normal => R .normal a w | _ => False) (fun e a w h => by cases e <;> first | exact h | exact h.elim) ?_
  conv => arg 2; whnf
  obtain ⟨⟨d0, d1, d2, d3, d4, d5, d6, d7⟩, df⟩ := box8 HTA.out.a
  obtain ⟨⟨i0, i1, i2, i3, i4, i5, i6, i7⟩, kf⟩ := box8 HT.out.a; obtain ⟨⟨a0, a1, a2, a3, a4, a5, a6, a7⟩, af⟩ := box8 (HT.out.more (below_one _ (.cells #[.slice none 0 0, .slice none 0 0, .bool false, .int .i64 0, .int .i64 0, .int .i64 0, .int .i64 0, .slice none 0 0] 32))).a; obtain ⟨⟨z0, z1, z2, z3, z4, z5, z6, z7⟩, zf⟩ := box8 HT.out.zero; (try (have yz := box8 HZ.out; obtain ⟨⟨y0, y1, y2, y3, y4, y5, y6, y7⟩, yf⟩ := yz))
  go_region_with (first
    | (go_at_call 10; (with_reducible refine (CL.out _).mono ?_); rintro e0 wa ⟨rfl, hBa⟩; first
      | ((with_reducible replace HT := Lib.hid (HT.out.more hBa)); (try (with_reducible replace HZ := Lib.hid (box_kept _ HZ.out hBa))); (with_reducible replace HP := Lib.hid (HP.out.below hBa)); clear i0 i1 i2 i3 i4 i5 i6 i7 kf a0 a1 a2 a3 a4 a5 a6 a7 af z0 z1 z2 z3 z4 z5 z6 z7 zf; (try clear y0 y1 y2 y3 y4 y5 y6 y7 yf); obtain ⟨⟨i0, i1, i2, i3, i4, i5, i6, i7⟩, kf⟩ := box8 HT.out.a; obtain ⟨⟨a0, a1, a2, a3, a4, a5, a6, a7⟩, af⟩ := box8 (HT.out.more (below_one _ (.cells #[.slice none 0 0, .slice none 0 0, .bool false, .int .i64 0, .int .i64 0, .int .i64 0, .int .i64 0, .slice none 0 0] 32))).a; obtain ⟨⟨z0, z1, z2, z3, z4, z5, z6, z7⟩, zf⟩ := box8 HT.out.zero; (try (have yz := box8 HZ.out; obtain ⟨⟨y0, y1, y2, y3, y4, y5, y6, y7⟩, yf⟩ := yz)); clear hBa)
      | ((with_reducible have HZ := Lib.hid (box_kept _ HZA.out hBa)); have HGZ := HGZA; have HGW := HGWA; (with_reducible replace HT := Lib.hid (HTA.out.more hBa)); (with_reducible replace HP := Lib.hid (HPA.out.below hBa)); clear i0 i1 i2 i3 i4 i5 i6 i7 kf a0 a1 a2 a3 a4 a5 a6 a7 af z0 z1 z2 z3 z4 z5 z6 z7 zf; (try clear y0 y1 y2 y3 y4 y5 y6 y7 yf); obtain ⟨⟨i0, i1, i2, i3, i4, i5, i6, i7⟩, kf⟩ := box8 HT.out.a; obtain ⟨⟨a0, a1, a2, a3, a4, a5, a6, a7⟩, af⟩ := box8 (HT.out.more (below_one _ (.cells #[.slice none 0 0, .slice none 0 0, .bool false, .int .i64 0, .int .i64 0, .int .i64 0, .int .i64 0, .slice none 0 0] 32))).a; obtain ⟨⟨z0, z1, z2, z3, z4, z5, z6, z7⟩, zf⟩ := box8 HT.out.zero; (try (have yz := box8 HZ.out; obtain ⟨⟨y0, y1, y2, y3, y4, y5, y6, y7⟩, yf⟩ := yz)); clear hBa)
      | ((with_reducible have HZ := Lib.hid (box_kept _ HT.out.zero hBa)); have HGZ := Lib.hid HT.out.lt; have HGW := Lib.hid HP.out.b.size; (with_reducible replace HT := Lib.hid ((HT.out.more (below_one _ _)).more hBa)); (with_reducible replace HP := Lib.hid ((HP.out.below (below_one _ _)).below hBa)); clear i0 i1 i2 i3 i4 i5 i6 i7 kf a0 a1 a2 a3 a4 a5 a6 a7 af z0 z1 z2 z3 z4 z5 z6 z7 zf; (try clear y0 y1 y2 y3 y4 y5 y6 y7 yf); obtain ⟨⟨i0, i1, i2, i3, i4, i5, i6, i7⟩, kf⟩ := box8 HT.out.a; obtain ⟨⟨a0, a1, a2, a3, a4, a5, a6, a7⟩, af⟩ := box8 (HT.out.more (below_one _ (.cells #[.slice none 0 0, .slice none 0 0, .bool false, .int .i64 0, .int .i64 0, .int .i64 0, .int .i64 0, .slice none 0 0] 32))).a; obtain ⟨⟨z0, z1, z2, z3, z4, z5, z6, z7⟩, zf⟩ := box8 HT.out.zero; (try (have yz := box8 HZ.out; obtain ⟨⟨y0, y1, y2, y3, y4, y5, y6, y7⟩, yf⟩ := yz)); clear hBa))
    | (go_at_call 11; (with_reducible refine (CP.out _ _ HT.out.v).mono ?_); rintro e0 wa ⟨v', rfl, hv', hBa⟩; obtain ⟨rA1, rn1, rc1, rA2, rn2, rc2, rdl, rjr, rsq, rA7, rn7, rc7, rfl⟩ := CF.out _ _ hv'; have HV' := Lib.hid hv'; clear hv'; (with_reducible replace HT := Lib.hid (HT.out.more hBa)); (try (with_reducible replace HZ := Lib.hid (box_kept _ HZ.out hBa))); (with_reducible replace HP := Lib.hid (HP.out.below hBa)); clear i0 i1 i2 i3 i4 i5 i6 i7 kf a0 a1 a2 a3 a4 a5 a6 a7 af z0 z1 z2 z3 z4 z5 z6 z7 zf; (try clear y0 y1 y2 y3 y4 y5 y6 y7 yf); obtain ⟨⟨i0, i1, i2, i3, i4, i5, i6, i7⟩, kf⟩ := box8 HT.out.a; obtain ⟨⟨a0, a1, a2, a3, a4, a5, a6, a7⟩, af⟩ := box8 (HT.out.more (below_one _ (.cells #[.slice none 0 0, .slice none 0 0, .bool false, .int .i64 0, .int .i64 0, .int .i64 0, .int .i64 0, .slice none 0 0] 32))).a; obtain ⟨⟨z0, z1, z2, z3, z4, z5, z6, z7⟩, zf⟩ := box8 HT.out.zero; (try (have yz := box8 HZ.out; obtain ⟨⟨y0, y1, y2, y3, y4, y5, y6, y7⟩, yf⟩ := yz)); clear hBa)
    | (go_at_call 11; (with_reducible refine (CP.out _ _ (HT.out.more (below_one _ _)).v).mono ?_); rintro e0 wa ⟨v', rfl, hv', hBa⟩; obtain ⟨rA1, rn1, rc1, rA2, rn2, rc2, rdl, rjr, rsq, rA7, rn7, rc7, rfl⟩ := CF.out _ _ hv'; have HV' := Lib.hid hv'; clear hv'; (with_reducible have HZ := Lib.hid (box_kept _ HT.out.zero hBa)); have HGZ := Lib.hid HT.out.lt; have HGW := Lib.hid HP.out.b.size; (with_reducible replace HT := Lib.hid ((HT.out.more (below_one _ _)).more hBa)); (with_reducible replace HP := Lib.hid ((HP.out.below (below_one _ _)).below hBa)); clear i0 i1 i2 i3 i4 i5 i6 i7 kf a0 a1 a2 a3 a4 a5 a6 a7 af z0 z1 z2 z3 z4 z5 z6 z7 zf; (try clear y0 y1 y2 y3 y4 y5 y6 y7 yf); obtain ⟨⟨i0, i1, i2, i3, i4, i5, i6, i7⟩, kf⟩ := box8 HT.out.a; obtain ⟨⟨a0, a1, a2, a3, a4, a5, a6, a7⟩, af⟩ := box8 (HT.out.more (below_one _ (.cells #[.slice none 0 0, .slice none 0 0, .bool false, .int .i64 0, .int .i64 0, .int .i64 0, .int .i64 0, .slice none 0 0] 32))).a; obtain ⟨⟨z0, z1, z2, z3, z4, z5, z6, z7⟩, zf⟩ := box8 HT.out.zero; (try (have yz := box8 HZ.out; obtain ⟨⟨y0, y1, y2, y3, y4, y5, y6, y7⟩, yf⟩ := yz)); clear hBa)
    | (go_at_call 11; (with_reducible refine (CP.out _ _ HTA.out.v).mono ?_); rintro e0 wa ⟨v', rfl, hv', hBa⟩; obtain ⟨rA1, rn1, rc1, rA2, rn2, rc2, rdl, rjr, rsq, rA7, rn7, rc7, rfl⟩ := CF.out _ _ hv'; have HV' := Lib.hid hv'; clear hv'; (with_reducible have HZ := Lib.hid (box_kept _ HZA.out hBa)); have HGZ := HGZA; have HGW := HGWA; (with_reducible replace HT := Lib.hid (HTA.out.more hBa)); (with_reducible replace HP := Lib.hid (HPA.out.below hBa)); clear i0 i1 i2 i3 i4 i5 i6 i7 kf a0 a1 a2 a3 a4 a5 a6 a7 af z0 z1 z2 z3 z4 z5 z6 z7 zf; (try clear y0 y1 y2 y3 y4 y5 y6 y7 yf); obtain ⟨⟨i0, i1, i2, i3, i4, i5, i6, i7⟩, kf⟩ := box8 HT.out.a; obtain ⟨⟨a0, a1, a2, a3, a4, a5, a6, a7⟩, af⟩ := box8 (HT.out.more (below_one _ (.cells #[.slice none 0 0, .slice none 0 0, .bool false, .int .i64 0, .int .i64 0, .int .i64 0, .int .i64 0, .slice none 0 0] 32))).a; obtain ⟨⟨z0, z1, z2, z3, z4, z5, z6, z7⟩, zf⟩ := box8 HT.out.zero; (try (have yz := box8 HZ.out; obtain ⟨⟨y0, y1, y2, y3, y4, y5, y6, y7⟩, yf⟩ := yz)); clear hBa))
  all_goals
    first
      | (have hz0 := HZ.out
         obtain ⟨X, hX, hVN, hVO, hBX⟩ := HT.out.fresh2 hz0 HGZ.out HV'.out HP.out HGW.out
         rw [hX]
         clear hX
         (try go_wp2_with fail)
         exact HRR.out _ _ _ _ _ _ _ _ _ _ _ _ _ _ _ _ _ _ _ _ _ _ _ hVN hVO hBX)
      | ((try go_wp2_with fail)
         exact HRR.out _ _ _ _ _ _ _ _ _ _ _ _ _ _ _ _ _ _ _ _ _ _ _ (VV.new HV'.out HT.out.below) (HT.out.more (below_one _ _)) (HP.out.below (below_one _ _)).b)
end Go.Proofs.YtgeiemccjionpaaGreat.Chn
