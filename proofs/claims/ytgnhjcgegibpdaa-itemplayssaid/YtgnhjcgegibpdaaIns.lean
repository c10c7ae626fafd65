/- slices.Insert of one item: what the call does. No statement is proved here. -/
import Derived.Test.YtgnhjcgegibpdaaIdx
import Derived.Laws.IdiomCopy
import Derived.Laws.CopyOwn
import Derived.Laws.Externs
import Derived.Lib.Overlaps
import Derived.Lib.AppendZerosOnto
import Derived.Lib.JoinLaws
import Derived.Deep.RegionLaw
import Derived.Shelf.RegionOpenPlain
namespace Go.Proofs.Ytgnhjcgegibpdaa
open Go.RowKit

/-- Elements of several cells go over. -/
theorem run_copy_many {P : Program} (w : World) (dT sT ty elem : TypeId) (g o dLen dCap : Nat) (a : Addr) (sLen sCap : Nat) (cur : Array Value) (t : TypeId) (cs : List Value) (k size : Nat)
    (hu : P.underlying dT = some (.slice elem)) (hs : (P.info? elem).map (·.size) = some size)
    (hg : w.heap[g]? = some (.cells cur t (0, 0))) (hk : Nat.min sLen dLen = k) (hn : cs.length = k * size)
    (hsrc : ∀ j v, cs[j]? = some v → w.cell? (a.add j) = some v) (hfit : o + cs.length ≤ cur.size) (h1 : ∀ v ∈ cs, v.oneCell' = true) :
    (Builtin.copy_ #[dT, sT] ty #[.slice (some ⟨g, o, none⟩) dLen dCap, .slice (some a) sLen sCap]).run P w =
      .ok (goInt k) (w.setRow g (cur.toList.take o ++ cs ++ cur.toList.drop (o + cs.length)).toArray) := by
  have hl := run_loadCells_list (P := P) w a cs hsrc
  have hst := run_storeCells_at P g o t cs 0 cur w hg (by simpa using hfit) h1
  rw [hn] at hl
  cases hq : P.info? elem with
  | none => simp [hq] at hs
  | some i =>
    have hi : i.size = size := by simpa [hq] using hs
    simp [Builtin.copy_, run_underlying hu, Builtin.lenOf, Builtin.firstCells, sizeOf, typeInfo, hq, hi, hk, hl, hst]

theorem wpList_copy_is {P : Program} (w : World) {ops : Array Oper} {rest : List Oper} {o : Oper} {a : Act} {Q : Exit → Act → World → Prop} (hgd : o.guard = none) (d s : Operand) (t t' : TypeId)
    (ho : o.op = .call { callee := .builtin .copy, args := #[d, s], argTypes := #[t, t'] }) (v u : Value) (hd : a.eval d = v) (hs : a.eval s = u) {v' : Value} {w' : World}
    (hr : (Builtin.copy_ #[t, t'] o.type #[v, u]).run P w = .ok v' w') (h : wpList P ops Q rest (a.put o.dst v') w') : wpList P ops Q (o :: rest) a w := by
  refine wpList_plain hgd fun K hK => ?_
  unfold Oper.wp execOp
  simp only [ho, resolve, invoke, builtin, Sem.run_bind, Sem.run_pure, Result.andThen_ok, List.map_toArray, List.map_cons, List.map_nil, hd, hs, hr]
  exact hK _ _ h

theorem step_copy_is {P : Program} {ops : Array Oper} {o : Oper} {a : Act} {w : World} {K : Act → World → Prop} {Q : Exit → Act → World → Prop} {E : Prop}
    (hg : o.guard = none) (d x : Operand) (dT sT : TypeId) (hop : o.op = Op.call { callee := Callee.builtin Builtin.copy, args := #[d, x], argTypes := #[dT, sT] })
    (v u : Value) (hd : a.eval d = v) (hx : a.eval x = u) {v' : Value} {w' : World} (hr : (Builtin.copy_ #[dT, sT] o.type #[v, u]).run P w = .ok v' w') (hK : K (a.put o.dst v') w') :
    if Region.wanted o (yielded ops a.tmps) = true then Oper.wp P o a w K Q else E := by
  have hw : Region.wanted o (yielded ops a.tmps) = true := by simp [Region.wanted, hg]
  rw [if_pos hw]
  unfold Oper.wp
  simp [execOp, hop, resolve, invoke, builtin, hd, hx, hr, Result.andThen]
  exact hK

set_option maxRecDepth 100000 in
set_option maxHeartbeats 4000000 in
theorem insert_end (B : Nat) (v : Value) (l : List It) (x : It) (vb : Nat) (w : World) (hO : Own B w v l) (hx : Box w vb x) (hl : l.length ≤ 1000) (hB : B ≤ w.heap.size) :
    Calls Try.prog 31 #[v, .int .i64 l.length, .slice (some ⟨vb, 0, none⟩) 1 1] w fun e w' => ∃ v', e = .returned v' ∧ Own B w' v' (l ++ [x]) ∧ Below B w w' := by
  obtain ⟨i1, hi, hz0, hz1, hz2⟩ := info_parts info24
  obtain ⟨A, c, hv⟩ := hO.its.form
  have hnc : l.length ≤ c := by have := hO.its; rw [hv] at this; exact this.at_.2.1
  subst hv
  have hsrc : ∀ (j : Nat) (u : Value), (itC x)[j]? = some u → w.cell? ((⟨vb, 0, none⟩ : Addr).add j) = some u := by
    intro j u hj
    rw [Addr.add_lit, Nat.zero_add, cell_of_row _ _ _ _ _ _ hx, ← hj]
    exact List.getElem?_toArray
  have HO := Lib.hid hO
  have HS := Lib.hid hsrc
  clear hO hsrc hx
  go_enter Try.func31, Try.ntmps31
  go_wp2_with (at_builtin; refine wpList_append_own_at _ (by rfl) (.tmp 23) (.tmp 24) 22 (by rfl) B 24 i1 _ 7 88 Try.underlying22 hi hz0 hz1 hz2 (by rfl) (by omega) _ l.length (itsC l) (by rfl) (by exact HO.out) ⟨vb, 0, none⟩ 1 1 (itC x) (by rfl) (by rfl) (by exact HS.out) (itC_one x) (Nat.le_trans (show l.length + 1 ≤ 1000000 by omega) (by decide)) (by omega) hB ?_; intro v' w' hown' hgrow' hnil' hat')
  all_goals
    go_ret
    exact ⟨_, rfl, own_app hown', (Below.refl _ _).grown hgrow' hB HO.out.ge⟩


theorem size24 : (Try.prog.info? 24).map (·.size) = some 7 := by kernel_rfl
theorem sizeOf24 : ∀ w, (Go.sizeOf 24).run Try.prog w = .ok 7 w := by
  obtain ⟨i1, hi, hz0, hz1, hz2⟩ := info_parts info24
  intro w
  simp [sizeOf, typeInfo, hi, hz1]

theorem box_shape {w : World} {g : Nat} {x : It} (h : Box w g x) : w.shape? g = some (24, 7) := by
  unfold Box at h
  simp [World.shape?, h]
theorem row_shape {w : World} {g : Nat} {cur : Array Value} (h : w.heap[g]? = some (.cells cur 24 (0, 0))) : w.shape? g = some (24, cur.size) := by
  simp [World.shape?, h]
theorem row_frozen {w : World} {g : Nat} {cur : Array Value} (h : w.heap[g]? = some (.cells cur 24 (0, 0))) (o : Nat) : w.frozen? ⟨g, o, none⟩ = false := by
  simp [World.frozen?, h]
theorem box_src {w : World} {g : Nat} {x : It} (h : Box w g x) : ∀ (j : Nat) (u : Value), (itC x)[j]? = some u → w.cell? ((⟨g, 0, none⟩ : Addr).add j) = some u := by
  intro j u hj
  rw [Addr.add_lit, Nat.zero_add, cell_of_row _ _ _ _ _ _ h, ← hj]
  exact List.getElem?_toArray
theorem row_src {w : World} {g : Nat} {cur : Array Value} (h : w.heap[g]? = some (.cells cur 24 (0, 0))) (o : Nat) (cs : List Value) (hc : ∀ j u, cs[j]? = some u → cur[o + j]? = some u) : ∀ (j : Nat) (u : Value), cs[j]? = some u → w.cell? ((⟨g, o, none⟩ : Addr).add j) = some u := by
  intro j u hj
  rw [Addr.add_lit, cell_of_row _ _ _ _ _ _ h]
  exact hc j u hj

/-- One laid over from a on, then what is to come ahead of it. -/
theorem ins_row (C D X : List Value) (a m : Nat) (hX : X.length = m) (h : a + m ≤ C.length) :
    ((C.take (a + m) ++ D ++ C.drop (a + m + D.length)).take a ++ X ++ (C.take (a + m) ++ D ++ C.drop (a + m + D.length)).drop (a + m)) = C.take a ++ X ++ D ++ C.drop (a + m + D.length) := by
  have h1 : (C.take (a + m) ++ D ++ C.drop (a + m + D.length)).take a = C.take a := by
    rw [List.append_assoc, List.take_append_of_le_length (by rw [List.length_take]; omega), List.take_take, Nat.min_eq_left (by omega)]
  have h2 : (C.take (a + m) ++ D ++ C.drop (a + m + D.length)).drop (a + m) = D ++ C.drop (a + m + D.length) := by
    rw [List.append_assoc, List.drop_left' (by rw [List.length_take]; omega)]
  rw [h1, h2, ← List.append_assoc]

set_option maxRecDepth 100000 in
set_option maxHeartbeats 4000000 in
theorem insert_shift (B g n cap : Nat) (cur : Array Value) (l : List It) (x : It) (i vb : Nat) (w : World) (hg : w.heap[g]? = some (.cells cur 24 (0, 0))) (hBg : B ≤ g) (hcap : n + 1 ≤ cap) (hcm : cap ≤ maxLen) (hcs : cur.size = cap * 7) (ht : cur.toList.take (n * 7) = itsC l) (hnl : l.length = n) (hx : Box w vb x) (hvg : vb ≠ g) (hi : i < n) (hl : n ≤ 1000) :
    Calls Try.prog 31 #[.slice (some ⟨g, 0, none⟩) n cap, .int .i64 i, .slice (some ⟨vb, 0, none⟩) 1 1] w fun e w' => ∃ v', e = .returned v' ∧ Own B w' v' (l.take i ++ x :: l.drop i) ∧ Below B w w' := by
  have hmx : cap ≤ 9223372036854775807 := Nat.le_trans hcm (by decide)
  have hov : ∀ lb cb, (callFunc 34 #[.slice (some ⟨vb, 0, none⟩) 1 1, .slice (some ⟨g, (i + 1) * 7, none⟩) lb cb]).run Try.prog w = .ok (.value (.bool false)) w := fun lb cb => by
    rw [run_callFunc_extern Try.func34 (by kernel_rfl) (by kernel_rfl) (by kernel_rfl) (e := Extern.SlicesOverlaps.overlaps #[22, 22] #[4]) (by kernel_rfl),
      Lib.run_overlaps_apart w 22 4 24 Try.underlying22 7 sizeOf24 ⟨vb, 0, none⟩ ⟨g, (i + 1) * 7, none⟩ 1 1 lb cb hvg 24 24 7 cur.size (box_shape hx) (row_shape hg) (by omega) (row_frozen hx 0) (row_frozen hx 7)]
    rfl
  have hD : (itsC (l.drop i)).length = (n - i) * 7 := by rw [itsC_len, List.length_drop, hnl]
  have hdr : ∀ j u, (itsC (l.drop i))[j]? = some u → cur[i * 7 + j]? = some u := fun j u hj => by
    rw [← itsC_drop, List.getElem?_drop, ← ht, List.getElem?_take] at hj
    split at hj
    · simpa using hj
    · cases hj
  obtain ⟨R1, hR1⟩ : ∃ R1, R1 = (cur.toList.take ((i + 1) * 7) ++ itsC (l.drop i) ++ cur.toList.drop ((i + 1) * 7 + (itsC (l.drop i)).length)).toArray := ⟨_, rfl⟩
  have hR1s : R1.size = cap * 7 := by
    rw [hR1]
    simp [hcs, hD]
    omega
  obtain ⟨R2, hR2⟩ : ∃ R2, R2 = (R1.toList.take (i * 7) ++ itC x ++ R1.toList.drop (i * 7 + (itC x).length)).toArray := ⟨_, rfl⟩
  have hcp1 : ∀ ty dc sc, (Builtin.copy_ #[22, 22] ty #[.slice (some ⟨g, (i + 1) * 7, none⟩) (n - i) dc, .slice (some ⟨g, i * 7, none⟩) (n + 1 - i) sc]).run Try.prog w.drew = .ok (goInt (n - i : Nat)) (w.drew.setRow g R1) := fun ty dc sc => by
    rw [hR1]
    exact run_copy_many w.drew 22 22 ty 24 g ((i + 1) * 7) (n - i) dc ⟨g, i * 7, none⟩ (n + 1 - i) sc cur 24 (itsC (l.drop i)) (n - i) 7 Try.underlying22 size24 hg (by simp only [Nat.min_def]; split <;> omega) hD (row_src (w := w.drew) hg _ _ hdr) (by rw [hD, hcs]; omega) (itsC_oneCell _)
  have hg1 : (w.drew.setRow g R1).heap[g]? = some (.cells R1 24 (0, 0)) := setRow_heap w.drew g cur R1 24 _ hg
  have hx1 : Box (w.drew.setRow g R1) vb x := by
    unfold Box
    rw [setRow_other w.drew g vb R1 hvg]
    exact hx
  obtain ⟨W1, hW1⟩ : ∃ W1, W1 = w.drew.setRow g R1 := ⟨_, rfl⟩
  have hB1 : Below B w W1 := by rw [hW1]; exact below_setRow (Below.refl B w).drew hBg R1
  rw [← hW1] at hcp1 hg1 hx1
  have hcp2 : ∀ ty dc, (Builtin.copy_ #[22, 22] ty #[.slice (some ⟨g, i * 7, none⟩) (n + 1 - i) dc, .slice (some ⟨vb, 0, none⟩) 1 1]).run Try.prog W1 = .ok (goInt (1 : Nat)) (W1.setRow g R2) := fun ty dc => by
    rw [hR2]
    exact run_copy_many W1 22 22 ty 24 g (i * 7) (n + 1 - i) dc ⟨vb, 0, none⟩ 1 1 R1 24 (itC x) 1 7 Try.underlying22 size24 hg1 (by simp only [Nat.min_def]; split <;> omega) rfl (box_src hx1) (by rw [itC_len, hR1s]; omega) (itC_one x)
  have hfin : Own B (W1.setRow g R2) (.slice (some ⟨g, 0, none⟩) (n + 1) cap) (l.take i ++ x :: l.drop i) := by
    have hlen : (l.take i ++ x :: l.drop i).length = n + 1 := by simp; omega
    have hC : cur.toList.length = cap * 7 := by simp [hcs]
    have hrow := ins_row cur.toList (itsC (l.drop i)) (itC x) (i * 7) 7 rfl (by rw [hC]; omega)
    rw [show i * 7 + 7 = (i + 1) * 7 by omega] at hrow
    have hR2' : R2.toList = itsC (l.take i ++ x :: l.drop i) ++ cur.toList.drop ((i + 1) * 7 + (itsC (l.drop i)).length) := by
      rw [hR2, hR1, itC_len, show i * 7 + 7 = (i + 1) * 7 by omega, hrow, itsC_append]
      have e1 : itsC (x :: l.drop i) = itC x ++ itsC (l.drop i) := rfl
      have e2 : itsC (l.take i) = cur.toList.take (i * 7) := by rw [← itsC_take, ← ht, List.take_take, Nat.min_eq_left (by omega)]
      rw [e1, e2]
      simp
    refine ⟨by rw [hlen, itsC_len, hlen], .inr ⟨g, cap, R2, by rw [hlen], hBg, setRow_heap W1 g R1 R2 24 _ hg1, by omega, hcm, ?_, ?_⟩⟩
    · rw [← Array.length_toList, hR2', List.length_append, itsC_len, hlen, List.length_drop, hC, hD]
      omega
    · rw [hR2', List.take_left' (by rw [itsC_len])]
  have hB2 : Below B w (W1.setRow g R2) := below_setRow hB1 hBg R2
  have HF := Lib.hid hfin
  have HB2 := Lib.hid hB2
  clear hfin hB2 hR1 hR2 hR1s hdr hD hB1 hW1 hx1 hg1 hx hg hcs ht
  go_enter Try.func31, Try.ntmps31
  go_wp2_with (simp only [hov])
  have hw1 : IntKind.i64.wrap ((i : Int) + 1) = (i : Int) + 1 := by rw [IntKind.wrap_i64]; omega
  have hb1 : (0 : Int) ≤ (i : Int) + 1 := by omega
  have hin : i ≤ n := by omega
  have htn : ((i : Int) + 1).toNat = i + 1 := by omega
  have hb2 : ¬ (cap = i + 1) := by omega
  have hb3 : (i : Int) ≤ (n : Int) + 1 := by omega
  have hb4 : ¬ (cap = i) := by omega
  go_region_law (refine step_copy_is rfl _ _ 22 22 rfl _ _ (by simp [Act.eval, Act.put]) (by simp [Act.eval, Act.put]) (hcp1 _ _ _) ?_)
  go_wp2_with (at_builtin; refine wpList_copy_is _ rfl _ _ 22 22 rfl _ _ rfl rfl (hcp2 _ _) ?_)
  go_ret
  exact ⟨_, rfl, HF.out, HB2.out⟩


set_option maxRecDepth 100000 in
set_option maxHeartbeats 4000000 in
theorem insert_grow (B g n cap : Nat) (cur : Array Value) (l : List It) (x : It) (i vb : Nat) (w : World) (hg : w.heap[g]? = some (.cells cur 24 (0, 0))) (hBg : B ≤ g) (hnc : n ≤ cap) (hcap : cap < n + 1) (ht : cur.toList.take (n * 7) = itsC l) (hnl : l.length = n) (hx : Box w vb x) (hi : i < n) (hl : n ≤ 1000) :
    Calls Try.prog 31 #[.slice (some ⟨g, 0, none⟩) n cap, .int .i64 i, .slice (some ⟨vb, 0, none⟩) 1 1] w fun e w' => ∃ v', e = .returned v' ∧ Own B w' v' (l.take i ++ x :: l.drop i) ∧ Below B w w' := by
  obtain ⟨i1, hi0, hz0, hz1, hz2⟩ := info_parts info24
  have hgw : g < w.heap.size := (Array.getElem?_eq_some_iff.1 hg).1
  have hvw : vb < w.heap.size := (Array.getElem?_eq_some_iff.1 hx).1
  have hkk : (n : Int) + 1 - (i : Int) = ((n + 1 - i : Nat) : Int) := by omega
  have hik : i + (n + 1 - i) = n + 1 := by omega
  have hD : (itsC (l.drop i)).length = (n - i) * 7 := by rw [itsC_len, List.length_drop, hnl]
  have hT : (itsC (l.take i)).length = i * 7 := by rw [itsC_len, List.length_take, hnl, Nat.min_eq_left (by omega)]
  have hall : ∀ j u, (itsC l)[j]? = some u → cur[j]? = some u := fun j u hj => by
    rw [← ht, List.getElem?_take] at hj
    split at hj
    · simpa using hj
    · cases hj
  have htk : ∀ j u, (itsC (l.take i))[j]? = some u → cur[0 + j]? = some u := fun j u hj => by
    rw [← itsC_take, List.getElem?_take] at hj
    split at hj
    · rw [Nat.zero_add]; exact hall j u hj
    · cases hj
  have hdr : ∀ j u, (itsC (l.drop i))[j]? = some u → cur[i * 7 + j]? = some u := fun j u hj => by
    rw [← itsC_drop, List.getElem?_drop] at hj
    exact hall _ u hj
  have hold : (Builtin.firstCells i1.size i (.slice (some ⟨g, 0, none⟩) i cap)).run Try.prog w.drew = .ok (itsC (l.take i)).toArray w.drew := by
    rw [hz1]
    exact run_firstCells_some w.drew 7 i ⟨g, 0, none⟩ i cap (itsC (l.take i)) hT (row_src (w := w.drew) hg _ _ htk)
  obtain ⟨G, hG⟩ : ∃ G, G = grownCap w (n + 1) cap 24 := ⟨_, rfl⟩
  have hGn : n + 1 ≤ G := by rw [hG]; exact grownCap_ge w _ _ _
  have hGm : G ≤ maxLen := by rw [hG]; exact grownCap_le_maxLen w (n + 1) cap 24 (Nat.le_trans (show n + 1 ≤ 1000000 by omega) (by decide))
  have hG63 : G ≤ 9223372036854775807 := Nat.le_trans hGm (by decide)
  obtain ⟨R0, hR0⟩ : ∃ R0, R0 = (itsC (l.take i)).toArray ++ Builtin.zeroCells (Value.cells (.agg #[.string ⟨#[]⟩, .int .i64 0, .int .i64 0, .bool false, .string ⟨#[]⟩, .string ⟨#[]⟩, .string ⟨#[]⟩])) (n + 1 - i) ++ Builtin.zeroCells (Value.cells (.agg #[.string ⟨#[]⟩, .int .i64 0, .int .i64 0, .bool false, .string ⟨#[]⟩, .string ⟨#[]⟩, .string ⟨#[]⟩])) (G - (n + 1)) := ⟨_, rfl⟩
  have hzs : (Value.cells (.agg #[.string ⟨#[]⟩, .int .i64 0, .int .i64 0, .bool false, .string ⟨#[]⟩, .string ⟨#[]⟩, .string ⟨#[]⟩])).size = 7 := by rfl
  have hR0s : R0.size = G * 7 := by
    rw [hR0, Array.size_append, Array.size_append, size_zeroCells, size_zeroCells, hzs, List.size_toArray, hT]
    omega
  have hR0t : R0.toList.take (i * 7) = itsC (l.take i) := by
    rw [hR0, Array.toList_append, Array.toList_append, List.append_assoc]
    exact List.take_left' hT
  have hrz0 : ∀ ty, (Builtin.append_ #[22, 3] ty #[.slice (some ⟨g, 0, none⟩) i cap, .int .i64 ((n : Int) + 1 - (i : Int))]).run Try.prog w = .ok (.slice (some ⟨w.heap.size, 0, none⟩) (n + 1) G) (w.drew.alloc (.cells R0 24)) := fun ty => by
    have h := Lib.run_append_grow_zeros w 22 3 ty 24 i1 _ .i64 .i64 Try.underlying22 Try.underlying3 hi0 hz0 (some ⟨g, 0, none⟩) i cap (itsC (l.take i)) hold (n + 1 - i) (by omega) (by omega) (by omega) (by omega) (by rw [hz2]; omega) (by rw [hz2, hik]; exact growslice_fits hcap (by omega))
    rw [hik, ← hG, ← hR0] at h
    rw [hkk]
    exact h
  have hgN : g ≠ w.heap.size := by omega
  have hvN : vb ≠ w.heap.size := by omega
  obtain ⟨W1, hW1, hr1, hg1, hx1, hB1⟩ : ∃ W1, W1 = w.drew.alloc (.cells R0 24) ∧ W1.heap[w.heap.size]? = some (.cells R0 24 (0, 0)) ∧ W1.heap[g]? = some (.cells cur 24 (0, 0)) ∧ Box W1 vb x ∧ Below w.heap.size w W1 :=
    ⟨_, rfl, heap_alloc_new w.drew _, (Below.heap_alloc w.drew _ g hgw).trans hg, (Below.heap_alloc w.drew _ vb hvw).trans hx, (Below.refl w.heap.size w).drew.alloc (Nat.le_refl _) _⟩
  rw [← hW1] at hrz0
  clear hW1
  obtain ⟨R1, hR1⟩ : ∃ R1, R1 = (R0.toList.take (i * 7) ++ itC x ++ R0.toList.drop (i * 7 + (itC x).length)).toArray := ⟨_, rfl⟩
  have hR1l : R1.toList = itsC (l.take i) ++ itC x ++ R0.toList.drop (i * 7 + 7) := by rw [hR1, hR0t, itC_len]
  have hR1s : R1.size = G * 7 := by
    rw [← Array.length_toList, hR1l]
    simp only [List.length_append, hT, itC_len, List.length_drop, Array.length_toList, hR0s]
    omega
  have hcp1 : ∀ ty dc, (Builtin.copy_ #[22, 22] ty #[.slice (some ⟨w.heap.size, i * 7, none⟩) (n + 1 - i) dc, .slice (some ⟨vb, 0, none⟩) 1 1]).run Try.prog W1 = .ok (goInt (1 : Nat)) (W1.setRow w.heap.size R1) := fun ty dc => by
    rw [hR1]
    exact run_copy_many W1 22 22 ty 24 w.heap.size (i * 7) (n + 1 - i) dc ⟨vb, 0, none⟩ 1 1 R0 24 (itC x) 1 7 Try.underlying22 size24 hr1 (by simp only [Nat.min_def]; split <;> omega) rfl (box_src hx1) (by rw [itC_len, hR0s]; omega) (itC_one x)
  obtain ⟨W2, hW2, hr2, hg2, hB2⟩ : ∃ W2, W2 = W1.setRow w.heap.size R1 ∧ W2.heap[w.heap.size]? = some (.cells R1 24 (0, 0)) ∧ W2.heap[g]? = some (.cells cur 24 (0, 0)) ∧ Below w.heap.size w W2 :=
    ⟨_, rfl, setRow_heap W1 _ R0 R1 24 _ hr1, (setRow_other W1 _ g R1 hgN).trans hg1, below_setRow hB1 (Nat.le_refl _) R1⟩
  rw [← hW2] at hcp1
  clear hW2
  obtain ⟨R2, hR2⟩ : ∃ R2, R2 = (R1.toList.take ((i + 1) * 7) ++ itsC (l.drop i) ++ R1.toList.drop ((i + 1) * 7 + (itsC (l.drop i)).length)).toArray := ⟨_, rfl⟩
  have hR2l : R2.toList = itsC (l.take i ++ x :: l.drop i) ++ R1.toList.drop ((i + 1) * 7 + (itsC (l.drop i)).length) := by
    have e0 : R1.toList.take ((i + 1) * 7) = itsC (l.take i) ++ itC x := by
      rw [hR1l]
      exact List.take_left' (by rw [List.length_append, hT, itC_len]; omega)
    have e1 : itsC (x :: l.drop i) = itC x ++ itsC (l.drop i) := rfl
    rw [hR2, e0, itsC_append, e1]
    simp
  have hcp2 : ∀ ty dc sc, (Builtin.copy_ #[22, 22] ty #[.slice (some ⟨w.heap.size, (i + 1) * 7, none⟩) (n - i) dc, .slice (some ⟨g, i * 7, none⟩) (n - i) sc]).run Try.prog W2.drew = .ok (goInt (n - i : Nat)) (W2.drew.setRow w.heap.size R2) := fun ty dc sc => by
    rw [hR2]
    exact run_copy_many W2.drew 22 22 ty 24 w.heap.size ((i + 1) * 7) (n - i) dc ⟨g, i * 7, none⟩ (n - i) sc R1 24 (itsC (l.drop i)) (n - i) 7 Try.underlying22 size24 hr2 (Nat.min_self _) hD (row_src (w := W2.drew) hg2 _ _ hdr) (by rw [hD, hR1s]; omega) (itsC_oneCell _)
  obtain ⟨W3, hW3, hr3, hB3⟩ : ∃ W3, W3 = W2.drew.setRow w.heap.size R2 ∧ W3.heap[w.heap.size]? = some (.cells R2 24 (0, 0)) ∧ Below w.heap.size w W3 :=
    ⟨_, rfl, setRow_heap W2.drew _ R1 R2 24 _ hr2, below_setRow hB2.drew (Nat.le_refl _) R2⟩
  rw [← hW3] at hcp2
  clear hW3
  have hfin : Own B W3 (.slice (some ⟨w.heap.size, 0, none⟩) (n + 1) G) (l.take i ++ x :: l.drop i) := by
    have hlen : (l.take i ++ x :: l.drop i).length = n + 1 := by simp; omega
    refine ⟨by rw [hlen, itsC_len, hlen], .inr ⟨w.heap.size, G, R2, by rw [hlen], by omega, hr3, by omega, hGm, ?_, ?_⟩⟩
    · rw [← Array.length_toList, hR2l, List.length_append, itsC_len, hlen, List.length_drop, Array.length_toList, hR1s, hD]
      omega
    · rw [hR2l, List.take_left' (by rw [itsC_len])]
  have HF := Lib.hid hfin
  have HB := Lib.hid (hB3.mono (show B ≤ w.heap.size by omega))
  have hw1 : IntKind.i64.wrap ((i : Int) + 1) = (i : Int) + 1 := by rw [IntKind.wrap_i64]; omega
  have hb1 : (0 : Int) ≤ (i : Int) + 1 := by omega
  have hin : i ≤ n := by omega
  have htn : ((i : Int) + 1).toNat = i + 1 := by omega
  have hGi : ¬ (G = i) := by omega
  have hGim : ¬ (G = i + 1) := by omega
  have hci : ¬ (cap = i) := by omega
  have hb3 : (i : Int) ≤ (n : Int) := by omega
  have hz3 : (cap : Int) < (n : Int) + 1 := by omega
  clear hfin hB3 hr3 hR2l hR2 hr2 hg2 hB2 hR1 hR1l hR1s hr1 hg1 hx1 hB1 hR0 hR0s hR0t hold hall htk hdr hD hT hG hx hg ht hkk hik hzs
  go_enter Try.func31, Try.ntmps31
  go_wp2_with (first
    | (at_builtin; refine Lib.wpList_append_run _ rfl _ _ _ _ rfl _ _ rfl rfl _ _ (hrz0 _) ?_)
    | (at_builtin; refine wpList_copy_is _ rfl _ _ 22 22 rfl _ _ rfl rfl (hcp1 _ _) ?_))
  go_region_law (refine step_copy_is rfl _ _ 22 22 rfl _ _ (by simp [Act.eval, Act.put]) (by simp [Act.eval, Act.put]) (hcp2 _ _ _) ?_)
  go_wp2_with fail
  go_ret
  exact ⟨_, rfl, HF.out, HB.out⟩

theorem insert_calls (B : Nat) (v : Value) (l : List It) (x : It) (i vb : Nat) (w : World) (hO : Own B w v l) (hx : Box w vb x) (hvb : v.ownBlock ≠ some vb) (hi : i ≤ l.length) (hl : l.length ≤ 1000) (hB : B ≤ w.heap.size) :
    Calls Try.prog 31 #[v, .int .i64 i, .slice (some ⟨vb, 0, none⟩) 1 1] w fun e w' => ∃ v', e = .returned v' ∧ Own B w' v' (l.take i ++ x :: l.drop i) ∧ Below B w w' := by
  by_cases he : i = l.length
  · subst he
    rw [List.take_length, List.drop_length]
    exact insert_end B v l x vb w hO hx hl hB
  · rcases id hO.2 with ⟨_, h0⟩ | ⟨g, cap, cur, rfl, hBg, hg, hnc, hcm, hcs, ht⟩
    · omega
    · by_cases hc : l.length + 1 ≤ cap
      · exact insert_shift B g l.length cap cur l x i vb w hg hBg hc hcm hcs ht rfl hx (fun e => hvb (by rw [e]; rfl)) (by omega) hl
      · exact insert_grow B g l.length cap cur l x i vb w hg hBg hnc (by omega) ht rfl hx (by omega) hl

end Go.Proofs.Ytgnhjcgegibpdaa
