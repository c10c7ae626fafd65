/- Contracts and plain mathematics that the statement's proof wants: no statement is proved here, nothing is assumed. -/
import Derived.Test.YtnbbijpmkhdgpaaGreatMg24
import Derived.Test.YtnbbijpmkhdgpaaGreatMg25
/- PWith -/
namespace Go.Proofs.YtnbbijpmkhdgpaaGreat.Vlt
open Go.RowKit Go.Sort
open Dsk

theorem lfCells_take (l : List Lf) (k : Nat) : lfCells (l.take k) = (lfCells l).take (k * 2) := by
  induction l generalizing k with
  | nil => simp [lfCells]
  | cons a l ih =>
    cases k with
    | zero => simp [lfCells]
    | succ k =>
      have e : lfCells (a :: l) = .int .i64 a.no :: .string (strB a.data) :: lfCells l := by simp [lfCells]
      have e2 : lfCells (a :: l.take k) = .int .i64 a.no :: .string (strB a.data) :: lfCells (l.take k) := by simp [lfCells]
      rw [List.take_succ_cons, e, e2, ih, show (k + 1) * 2 = k * 2 + 1 + 1 by omega, List.take_succ_cons, List.take_succ_cons]
theorem lfCells_drop (l : List Lf) (k : Nat) : lfCells (l.drop k) = (lfCells l).drop (k * 2) := by
  induction l generalizing k with
  | nil => simp [lfCells]
  | cons a l ih =>
    cases k with
    | zero => simp
    | succ k =>
      have e : lfCells (a :: l) = .int .i64 a.no :: .string (strB a.data) :: lfCells l := by simp [lfCells]
      rw [List.drop_succ_cons, e, ih, show (k + 1) * 2 = k * 2 + 1 + 1 by omega, List.drop_succ_cons, List.drop_succ_cons]
theorem isLfs_none (w : World) (A : Option Addr) (c : Nat) : IsLfs w (.slice A 0 c) [] := ⟨A, c, rfl, Nat.zero_le _, rfl, fun h => absurd h (by simp)⟩

theorem slice_to {w : World} {A : Option Addr} {n c : Nat} {l : List Lf} (h : IsLfs w (.slice A n c) l) (hn : n = l.length) {k : Nat} (hk : k ≤ n) :
    ∃ A1 c1, (∀ W, (Instr.slice 31 (.slice A n c) none (some (.int .i64 (k : Nat))) none).run Tryz.prog W = .ok (.slice A1 k c1) W) ∧ IsLfs w (.slice A1 k c1) (l.take k) := by
  obtain ⟨A', c', e, hc, hr⟩ := h
  injection e with e1 e2 e3
  subst e1 e3
  refine ⟨if c = 0 then A else A.map (·.add (0 * 2)), c, fun W => ?_, ?_⟩
  · obtain ⟨i1, hi0, hz0, hz1, hz2⟩ := info_parts info48
    have he : Tryz.prog.elem 31 = 52 := by simp [Program.elem, Tryz.underlying31]
    have ht : Tryz.prog.underlying 31 = some (.slice (Tryz.prog.elem 31)) := by rw [he]; exact Tryz.underlying31
    have hz : (Go.sizeOf 52).run Tryz.prog W = .ok 2 W := by simp [Go.sizeOf, typeInfo, hi0, hz1]
    rw [run_slice_h (P := Tryz.prog) W 31 A n c ht .i64 k (by omega) (by omega), he, hz]
    simp [sliced, Result.andThen]
  · by_cases h0 : k = 0
    · subst h0
      exact isLfs_none _ _ _
    · rw [if_neg (by omega)]
      obtain ⟨b, off, cur, fr, rfl, hb, hcl⟩ := hr.2 (by omega)
      refine ⟨some ⟨b, off + 0 * 2, none⟩, c, ?_, ?_, ?_, fun _ => ⟨b, off + 0 * 2, cur, fr, rfl, hb, fun j u hj => ?_⟩⟩
      · rw [List.length_take, Nat.min_eq_left (by omega), Option.map_some, Addr.add_lit]
      · rw [List.length_take]; omega
      · rw [lfCells_length]
      · rw [lfCells_take, List.getElem?_take] at hj
        split at hj
        · exact hcl j u hj
        · cases hj

theorem slice_from {w : World} {A : Option Addr} {n c : Nat} {l : List Lf} (h : IsLfs w (.slice A n c) l) (hn : n = l.length) {k : Nat} (hk : k ≤ n) :
    ∃ A1 c1, (∀ W, (Instr.slice 31 (.slice A n c) (some (.int .i64 (k : Nat))) none none).run Tryz.prog W = .ok (.slice A1 (n - k) c1) W) ∧ IsLfs w (.slice A1 (n - k) c1) (l.drop k) := by
  obtain ⟨A', c', e, hc, hr⟩ := h
  injection e with e1 e2 e3
  subst e1 e3
  refine ⟨if c = k then A else A.map (·.add (k * 2)), c - k, fun W => ?_, ?_⟩
  · obtain ⟨i1, hi0, hz0, hz1, hz2⟩ := info_parts info48
    have he : Tryz.prog.elem 31 = 52 := by simp [Program.elem, Tryz.underlying31]
    have ht : Tryz.prog.underlying 31 = some (.slice (Tryz.prog.elem 31)) := by rw [he]; exact Tryz.underlying31
    have hz : (Go.sizeOf 52).run Tryz.prog W = .ok 2 W := by simp [Go.sizeOf, typeInfo, hi0, hz1]
    rw [run_slice_l (P := Tryz.prog) W 31 A n c ht .i64 k (by omega) (by omega), he, hz]
    simp [sliced, Result.andThen]
  · by_cases h0 : k = n
    · have : l.drop k = [] := List.drop_of_length_le (by omega)
      rw [this, show n - k = 0 by omega]
      exact isLfs_none _ _ _
    · rw [if_neg (by omega)]
      obtain ⟨b, off, cur, fr, rfl, hb, hcl⟩ := hr.2 (by omega)
      refine ⟨some ⟨b, off + k * 2, none⟩, c - k, ?_, ?_, ?_, fun _ => ⟨b, off + k * 2, cur, fr, rfl, hb, fun j u hj => ?_⟩⟩
      · rw [List.length_drop, hn, Option.map_some, Addr.add_lit]
      · rw [List.length_drop]; omega
      · rw [lfCells_length]
      · rw [lfCells_drop, List.getElem?_drop] at hj
        have := hcl (k * 2 + j) u hj
        rw [← this]
        congr 1
        omega

/-- insL by places. -/
theorem ins_pos {p : Lf} {l : List Lf} (hR : RiseL l) : posL l p.no ≤ l.length ∧ (isL l p.no = true → posL l p.no < l.length) ∧
    insL p l = l.take (posL l p.no) ++ ([p] ++ (if isL l p.no = true then l.drop (posL l p.no + 1) else l.drop (posL l p.no))) := by
  obtain ⟨k, hk⟩ : ∃ k, k = posL l p.no := ⟨_, rfl⟩
  have hle : k ≤ l.length := by rw [hk]; unfold posL; exact List.IsPrefix.length_le (List.takeWhile_prefix _)
  have e1 : l.takeWhile (fun q => decide (q.no < p.no)) = l.take k := by
    have := List.takeWhile_prefix (fun q => decide (q.no < p.no)) (l := l)
    rw [List.prefix_iff_eq_take] at this
    rw [hk]; exact this
  have e2 : l.dropWhile (fun q => decide (q.no < p.no)) = l.drop k := by
    have h1 := List.takeWhile_append_dropWhile (p := fun q => decide (q.no < p.no)) (l := l)
    have h2 := List.take_append_drop k l
    rw [e1] at h1
    exact List.append_cancel_left (h1.trans h2.symm)
  rw [← hk]
  have hge := drop_ge (p := p) hR
  rw [e2] at hge
  have hcase : ∀ o, l[k]? = some o → l.drop k = o :: l.drop (k + 1) := fun o ho => by
    obtain ⟨h, e⟩ := List.getElem?_eq_some_iff.1 ho
    rw [List.drop_eq_getElem_cons h, e]
  have hrest : ∀ o, l[k]? = some o → ∀ q ∈ l.drop (k + 1), p.no < q.no := by
    intro o ho q hq
    have h1 : p.no ≤ o.no := hge o (by rw [hcase o ho]; simp)
    obtain ⟨j, hj, e⟩ := List.getElem_of_mem hq
    rw [List.getElem_drop] at e
    rw [List.length_drop] at hj
    have := rise_at hR (show k < k + 1 + j by omega) ho (by rw [List.getElem?_eq_getElem (by omega), e])
    omega
  have hfil : ∀ o, l[k]? = some o → (l.drop (k + 1)).filter (fun q => decide (q.no ≠ p.no)) = l.drop (k + 1) := fun o ho => by
    rw [List.filter_eq_self]
    intro q hq
    have := hrest o ho q hq
    simp
    omega
  refine ⟨hle, ?_, ?_⟩
  · unfold isL
    rw [← hk]
    intro h
    cases ho : l[k]? with
    | none => rw [ho] at h; cases h
    | some o => exact (List.getElem?_eq_some_iff.1 ho).1
  · unfold insL
    rw [e1, e2]
    unfold isL
    rw [← hk]
    cases ho : l[k]? with
    | none =>
      have : l.drop k = [] := List.drop_of_length_le (by rw [List.getElem?_eq_none_iff] at ho; omega)
      simp [this]
    | some o =>
      dsimp only
      have h1 : p.no ≤ o.no := hge o (by rw [hcase o ho]; simp)
      by_cases he : o.no = p.no
      · rw [hcase o ho, List.filter_cons_of_neg (by simp [he]), hfil o ho, if_pos (by simp [he])]
        simp
      · rw [hcase o ho, List.filter_cons_of_pos (by simp [he]), hfil o ho, if_neg (by simp [he])]
        simp

theorem concat3 (X : World) (va vb : Value) (la lb : List Lf) (no : Int) (D : List UInt8) (ha : IsLfs X va la) (hb : IsLfs X vb lb) (hl : la.length + lb.length ≤ 9000) :
    Calls Tryz.prog 91 #[.slice (some ⟨X.heap.size + 1, 0, none⟩) 3 3] ((X.alloc (.cells #[.int .i64 no, .string (strB D)] 52)).alloc (.cells #[va, .slice (some ⟨X.heap.size, 0, none⟩) 1 1, vb] 31)) fun e w' => ∃ v', e = .returned v' ∧ IsLfs w' v' (la ++ ([⟨no, D⟩] ++ lb)) ∧ Below X.heap.size X w' := by
  obtain ⟨W1, hW1⟩ : ∃ W1, W1 = X.alloc (.cells #[.int .i64 no, .string (strB D)] 52) := ⟨_, rfl⟩
  obtain ⟨W2, hW2⟩ : ∃ W2, W2 = W1.alloc (.cells #[va, .slice (some ⟨X.heap.size, 0, none⟩) 1 1, vb] 31) := ⟨_, rfl⟩
  have hs1 : W1.heap.size = X.heap.size + 1 := by rw [hW1]; simp
  have b1 : Below X.heap.size X W1 := by rw [hW1]; exact below_one _ _
  have b2 : Below W1.heap.size W1 W2 := by rw [hW2]; exact below_one _ _
  have hbox : W1.heap[X.heap.size]? = some (.cells #[.int .i64 no, .string (strB D)] 52 (0, 0)) := by rw [hW1]; exact heap_alloc_new X _
  have hrow : W2.heap[X.heap.size + 1]? = some (.cells #[va, .slice (some ⟨X.heap.size, 0, none⟩) 1 1, vb] 31 (0, 0)) := by
    have := heap_alloc_new W1 (.cells #[va, .slice (some ⟨X.heap.size, 0, none⟩) 1 1, vb] 31)
    rw [← hW2, hs1] at this
    exact this
  rw [← hW1, ← hW2]
  have hbox2 := box_kept _ hbox b2
  have h2 : IsLfs W2 (.slice (some ⟨X.heap.size, 0, none⟩) 1 1) [⟨no, D⟩] := by
    refine ⟨some ⟨X.heap.size, 0, none⟩, 1, rfl, Nat.le_refl _, rfl, fun _ => ⟨X.heap.size, 0, _, _, rfl, hbox2, fun j u hj => ?_⟩⟩
    rw [lfCells_one] at hj
    rw [Nat.zero_add]
    simpa using hj
  refine (concat_calls (X.heap.size + 1) [va, .slice (some ⟨X.heap.size, 0, none⟩) 1 1, vb] [la, [⟨no, D⟩], lb] 3 3 W2 (Array.getElem?_eq_some_iff.1 hrow).1 rfl rfl (by omega) (fun i v hi => ?_) (fun i v l hi hl => ?_) (by simp; omega) (by simp; omega)).mono ?_
  · rw [cell_of_row _ _ _ _ _ _ hrow]
    simpa using hi
  · match i, hi, hl with
    | 0, hi, hl => simp at hi hl; subst hi hl; exact (ha.below b1).below b2
    | 1, hi, hl => simp at hi hl; subst hi hl; exact h2
    | 2, hi, hl => simp at hi hl; subst hi hl; exact (hb.below b1).below b2
    | k + 3, hi, hl => simp at hi
  · rintro e w' ⟨v', rfl, ho, hB⟩
    exact ⟨v', rfl, by simpa using ho.isLfs, Dsk.below_trans' (Dsk.below_trans' b1 b2) hB⟩

theorem concat3d (X : World) (va vb : Value) (la lb : List Lf) (no : Int) (D : List UInt8) (ha : IsLfs X va la) (hb : IsLfs X vb lb) (hl : la.length + lb.length ≤ 9000) :
    Calls Tryz.prog 91 #[.slice (some ⟨X.heap.size + 1, 0, none⟩) 3 3] ((X.alloc (.cells #[.int .i64 no, .string (strB D)] 52)).alloc (.cells #[va, .slice (some ⟨X.heap.size, 0, none⟩) 1 1, vb] 31)).drew fun e w' => ∃ v', e = .returned v' ∧ IsLfs w' v' (la ++ ([⟨no, D⟩] ++ lb)) ∧ Below X.heap.size X w' := by
  obtain ⟨W1, hW1⟩ : ∃ W1, W1 = X.alloc (.cells #[.int .i64 no, .string (strB D)] 52) := ⟨_, rfl⟩
  obtain ⟨W2, hW2⟩ : ∃ W2, W2 = W1.alloc (.cells #[va, .slice (some ⟨X.heap.size, 0, none⟩) 1 1, vb] 31) := ⟨_, rfl⟩
  have hs1 : W1.heap.size = X.heap.size + 1 := by rw [hW1]; simp
  have b1 : Below X.heap.size X W1 := by rw [hW1]; exact below_one _ _
  have b2 : Below W1.heap.size W1 W2 := by rw [hW2]; exact below_one _ _
  have hbox : W1.heap[X.heap.size]? = some (.cells #[.int .i64 no, .string (strB D)] 52 (0, 0)) := by rw [hW1]; exact heap_alloc_new X _
  have hrow : W2.heap[X.heap.size + 1]? = some (.cells #[va, .slice (some ⟨X.heap.size, 0, none⟩) 1 1, vb] 31 (0, 0)) := by
    have := heap_alloc_new W1 (.cells #[va, .slice (some ⟨X.heap.size, 0, none⟩) 1 1, vb] 31)
    rw [← hW2, hs1] at this
    exact this
  rw [← hW1, ← hW2]
  have hbox2 := box_kept _ hbox b2
  have h2 : IsLfs W2 (.slice (some ⟨X.heap.size, 0, none⟩) 1 1) [⟨no, D⟩] := by
    refine ⟨some ⟨X.heap.size, 0, none⟩, 1, rfl, Nat.le_refl _, rfl, fun _ => ⟨X.heap.size, 0, _, _, rfl, hbox2, fun j u hj => ?_⟩⟩
    rw [lfCells_one] at hj
    rw [Nat.zero_add]
    simpa using hj
  refine (concat_calls (X.heap.size + 1) [va, .slice (some ⟨X.heap.size, 0, none⟩) 1 1, vb] [la, [⟨no, D⟩], lb] 3 3 W2.drew (Array.getElem?_eq_some_iff.1 hrow).1 rfl rfl (by omega) (fun i v hi => ?_) (fun i v l hi hl => ?_) (by simp; omega) (by simp; omega)).mono ?_
  · change W2.cell? _ = _
    rw [cell_of_row _ _ _ _ _ _ hrow]
    simpa using hi
  · match i, hi, hl with
    | 0, hi, hl => simp at hi hl; subst hi hl; exact ((ha.below b1).below b2).below (Below.refl _ _).drew
    | 1, hi, hl => simp at hi hl; subst hi hl; exact h2.below (Below.refl _ _).drew
    | 2, hi, hl => simp at hi hl; subst hi hl; exact ((hb.below b1).below b2).below (Below.refl _ _).drew
    | k + 3, hi, hl => simp at hi
  · rintro e w' ⟨v', rfl, ho, hB⟩
    exact ⟨v', rfl, by simpa using ho.isLfs, Dsk.below_trans' (Dsk.below_trans' (Dsk.below_trans' b1 b2) (Below.refl _ _).drew) hB⟩

theorem lcells {W : World} {g : Nat} {no : Int} {D : List UInt8} (h : Ent.LBox W g no D) : W.cell? ⟨g, 0, none⟩ = some (.int .i64 no) ∧ W.cell? ⟨g, 1, none⟩ = some (.string (strB D)) := ⟨h.c0, h.c1⟩

set_option maxRecDepth 100000 in
set_option maxHeartbeats 4000000 in
theorem with_calls (v : Value) (l : List Lf) (no : Int) (D : List UInt8) (w : World) (h : IsLfs w v l) (hR : RiseL l) (hn : l.length ≤ 1000) :
    Calls Tryz.prog 58 #[v, .agg #[.int .i64 no, .string (strB D)]] w fun e w' => ∃ v', e = .returned v' ∧ IsLfs w' v' (insL ⟨no, D⟩ l) ∧ Below w.heap.size w w' := by
  obtain ⟨A, n, c, rfl, hnl, _, hr⟩ := h.open_
  obtain ⟨hp1, hp2, hp3⟩ := ins_pos (p := ⟨no, D⟩) hR
  dsimp only at hp1 hp2 hp3
  have hfc := find_calls A n c l no
  obtain ⟨k, hk⟩ : ∃ k, k = posL l no := ⟨_, rfl⟩
  obtain ⟨is, his⟩ : ∃ b, b = isL l no := ⟨_, rfl⟩
  rw [← hk] at hp1 hp2 hp3 hfc
  rw [← his] at hp2 hp3 hfc
  obtain ⟨A1, c1, hs1, hi1⟩ := slice_to h hnl (k := k) (by omega)
  obtain ⟨A2, c2, hs2, hi2⟩ := slice_from h hnl (k := k) (by omega)
  obtain ⟨Y, hY⟩ : ∃ Y, Y = w.alloc (.cells #[.int .i64 no, .string (strB D)] 52) := ⟨_, rfl⟩
  have hB : Below w.heap.size w Y := by rw [hY]; exact below_one _ _
  have hlb : Ent.LBox Y w.heap.size no D := by rw [hY]; exact Ent.LBox.new _ _ _
  have HF := Lib.hid (hfc Y (by
    obtain ⟨_, _, e, _, hr'⟩ := h.below hB
    injection e with e1 e2 e3
    subst e1 e3
    rw [hnl]; exact hr') hnl hR (by omega))
  have HB := Lib.hid hB
  have HLB := Lib.hid hlb
  have HY := Lib.hid hY
  have HI1 := Lib.hid (hi1.below hB)
  have HI2 := Lib.hid (hi2.below hB)
  have HP := Lib.hid hp3
  have HK := Lib.hid hp1
  have HNL := Lib.hid hnl
  have y0 := hlb.c0
  -- what the last region does, whatever stands behind
  clear hk his hY hB hlb hi1 hi2 hfc hR hr hp3 hnl
  cases his : is with
  | true =>
    rw [his] at HF HP
    rw [if_pos rfl] at HP
    have hlt := hp2 his
    obtain ⟨A3, c3, hs3, hi3⟩ := slice_from HI2.out (by rw [List.length_drop, HNL.out]) (k := 1) (by have := HNL.out; omega)
    rw [List.drop_drop] at hi3
    rw [show ((1 : Nat) : Int) = 1 from rfl] at hs3
    have HI3 := Lib.hid hi3
    clear hp2 his hlt hi3
    go_enter Tryz.func58, Tryz.ntmps58
    go_upto_region 1 with (fail)
    rw [← HY.out]
    clear HY
    go_wp2_with fail
    (with_reducible refine HF.out.mono ?_)
    rintro e w1 ⟨rfl, hB1⟩
    have HB1 := Lib.hid hB1
    have z0 := (HLB.out.below hB1).c0
    have z1 := (HLB.out.below hB1).c1
    have CC := Lib.hid (concat3 w1.drew (.slice A1 k c1) (.slice A3 (n - k - 1) c3) (l.take k) (l.drop (k + 1)) no D (HI1.out.below hB1.drew) (HI3.out.below hB1.drew) (by simp; omega))
    have CD := Lib.hid (concat3d w1 (.slice A1 k c1) (.slice A3 (n - k - 1) c3) (l.take k) (l.drop (k + 1)) no D (HI1.out.below hB1) (HI3.out.below hB1) (by simp; omega))
    have HLW := Lib.hid (HLB.out.below HB1.out)
    have HLX := Lib.hid (HLB.out.below HB1.out.drew)
    have HB3 : Hid (Below w.heap.size w w1) := Lib.hid (Dsk.below_trans' HB.out HB1.out)
    have HB2 : Hid (Below w.heap.size w w1.drew) := Lib.hid (Dsk.below_trans' HB.out hB1.drew)
    clear y0 hB1
    go_wp2_with fail
    go_region_held3 (fun W => W.cell? ⟨w.heap.size, 0, none⟩ = some (.int .i64 no) ∧ W.cell? ⟨w.heap.size, 1, none⟩ = some (.string (strB D))) (first | exact lcells HLW.out | exact lcells HLX.out | exact lcells (HLX.out.below (below_one _ _)) | exact lcells ((HLX.out.below (below_one _ _)).below (below_one _ _)) | exact lcells (HLW.out.below (below_one _ _)) | exact lcells ((HLW.out.below (below_one _ _)).below (below_one _ _)) | exact lcells HL2.out) (first | (go_at_call 91; (with_reducible refine CC.out.mono ?_); rintro e w2 ⟨v', rfl, hv', hB3⟩; have HL2 := Lib.hid (HLX.out.below hB3); have HB4 := Lib.hid (Dsk.below_trans' HB2.out hB3)) | (go_at_call 91; (with_reducible refine CD.out.mono ?_); rintro e w2 ⟨v', rfl, hv', hB3⟩; have HL2 := Lib.hid (HLW.out.below hB3); have HB4 := Lib.hid (Dsk.below_trans' HB3.out hB3)))
    all_goals
      (rename_i hheld; clear hheld)
      go_wp2_with fail
      go_ret
      exact ⟨_, rfl, by rw [HP.out]; exact hv', HB4.out⟩
  | false =>
    rw [his] at HF HP
    rw [if_neg (by simp)] at HP
    clear hp2 his
    go_enter Tryz.func58, Tryz.ntmps58
    go_upto_region 1 with (fail)
    rw [← HY.out]
    clear HY
    go_wp2_with fail
    (with_reducible refine HF.out.mono ?_)
    rintro e w1 ⟨rfl, hB1⟩
    have HB1 := Lib.hid hB1
    have z0 := (HLB.out.below hB1).c0
    have z1 := (HLB.out.below hB1).c1
    have CC := Lib.hid (concat3 w1.drew (.slice A1 k c1) (.slice A2 (n - k) c2) (l.take k) (l.drop k) no D (HI1.out.below hB1.drew) (HI2.out.below hB1.drew) (by simp; omega))
    have CD := Lib.hid (concat3d w1 (.slice A1 k c1) (.slice A2 (n - k) c2) (l.take k) (l.drop k) no D (HI1.out.below hB1) (HI2.out.below hB1) (by simp; omega))
    have HLW := Lib.hid (HLB.out.below HB1.out)
    have HLX := Lib.hid (HLB.out.below HB1.out.drew)
    have HB3 : Hid (Below w.heap.size w w1) := Lib.hid (Dsk.below_trans' HB.out HB1.out)
    have HB2 : Hid (Below w.heap.size w w1.drew) := Lib.hid (Dsk.below_trans' HB.out hB1.drew)
    clear y0 hB1
    go_wp2_with fail
    go_region_held3 (fun W => W.cell? ⟨w.heap.size, 0, none⟩ = some (.int .i64 no) ∧ W.cell? ⟨w.heap.size, 1, none⟩ = some (.string (strB D))) (first | exact lcells HLW.out | exact lcells HLX.out | exact lcells (HLX.out.below (below_one _ _)) | exact lcells ((HLX.out.below (below_one _ _)).below (below_one _ _)) | exact lcells (HLW.out.below (below_one _ _)) | exact lcells ((HLW.out.below (below_one _ _)).below (below_one _ _)) | exact lcells HL2.out) (first | (go_at_call 91; (with_reducible refine CC.out.mono ?_); rintro e w2 ⟨v', rfl, hv', hB3⟩; have HL2 := Lib.hid (HLX.out.below hB3); have HB4 := Lib.hid (Dsk.below_trans' HB2.out hB3)) | (go_at_call 91; (with_reducible refine CD.out.mono ?_); rintro e w2 ⟨v', rfl, hv', hB3⟩; have HL2 := Lib.hid (HLW.out.below hB3); have HB4 := Lib.hid (Dsk.below_trans' HB3.out hB3)))
    all_goals
      (rename_i hheld; clear hheld)
      go_wp2_with fail
      go_ret
      exact ⟨_, rfl, by rw [HP.out]; exact hv', HB4.out⟩

end Go.Proofs.YtnbbijpmkhdgpaaGreat.Vlt

/- PRead -/
namespace Go.Proofs.YtnbbijpmkhdgpaaGreat.Vlt
open Go.RowKit Go.Sort
open Dsk
open Ent (homeB homeV)

theorem pos_low {no : Int} : ∀ {l : List Lf} {q : Nat} {x : Lf}, q < posL l no → l[q]? = some x → x.no < no
  | [], q, x, _, hx => by cases hx
  | y :: l, q, x, hq, hx => by
    unfold posL at hq
    by_cases h : y.no < no
    · rw [List.takeWhile_cons_of_pos (by simpa using h)] at hq
      cases q with
      | zero => simp at hx; rw [← hx]; exact h
      | succ q => exact pos_low (l := l) (q := q) (by unfold posL; simpa using hq) (by simpa using hx)
    · rw [List.takeWhile_cons_of_neg (by simpa using h)] at hq
      exact absurd hq (by simp)

theorem is_hit {l : List Lf} {no : Int} (h : isL l no = true) : ∃ o, l[posL l no]? = some o ∧ findL l no = some o ∧ posL l no < l.length := by
  unfold isL at h
  cases ho : l[posL l no]? with
  | none => rw [ho] at h; cases h
  | some o =>
    rw [ho] at h
    have hno : o.no = no := by simpa using h
    refine ⟨o, rfl, find_hitL (i := posL l no) (fun q x hq hx => ?_) ho hno, (List.getElem?_eq_some_iff.1 ho).1⟩
    have := pos_low hq hx
    omega
theorem is_miss {l : List Lf} {no : Int} (hR : RiseL l) (h : isL l no = false) : findL l no = none := by
  refine find_missL fun q x hx => ?_
  obtain ⟨h1, _, _⟩ := ins_pos (p := ⟨no, []⟩) hR
  dsimp only at h1
  by_cases hq : q < posL l no
  · have := pos_low hq hx
    omega
  · unfold isL at h
    cases ho : l[posL l no]? with
    | none =>
      have := (List.getElem?_eq_some_iff.1 hx).1
      rw [List.getElem?_eq_none_iff] at ho
      omega
    | some o =>
      rw [ho] at h
      have hne : o.no ≠ no := by simpa using h
      have hge : no ≤ o.no := by
        have := drop_ge (p := ⟨no, []⟩) hR o (by
          have e1 : l.dropWhile (fun q => decide (q.no < no)) = l.drop (posL l no) := by
            have a := List.takeWhile_append_dropWhile (p := fun q : Lf => decide (q.no < no)) (l := l)
            have b := List.take_append_drop (posL l no) l
            have hp := List.takeWhile_prefix (fun p : Lf => decide (p.no < no)) (l := l)
            rw [List.prefix_iff_eq_take] at hp
            rw [hp] at a
            exact List.append_cancel_left (a.trans b.symm)
          rw [e1]
          exact List.mem_of_getElem? (i := 0) (by rw [List.getElem?_drop]; exact ho))
        simpa using this
      by_cases he : q = posL l no
      · subst he
        rw [ho] at hx
        injection hx with hx
        rw [← hx]; exact hne
      · have := rise_at hR (show posL l no < q by omega) ho hx
        omega

set_option maxRecDepth 100000 in
set_option maxHeartbeats 16000000 in
theorem read_calls (v : Value) (k : VK) (no : Int) (w : World) (hv : IsVault w v k) (hg : VGood k) (hR : RiseL k.dirty) :
    Calls Tryz.prog 17 #[v, .int .i64 no] w fun e w' => e = .returned (.tuple #[.string (strB (readV k no).1), .int .i64 (readV k no).2]) ∧ Below w.heap.size w w' := by
  obtain ⟨vs, vw, vd, rfl, h1, h2⟩ := hv
  obtain ⟨A, n, c, rfl, hn, _, hr⟩ := h2.open_
  obtain ⟨hok, hri, hin⟩ := hg.ok
  have hdl := hg.dirty
  obtain ⟨Y, hY, b1, hB⟩ : ∃ Y, Y = w.alloc (.cells #[vs, vw, .bool k.disk.dead, .int .i64 k.disk.left, .int .i64 k.shape.pages, .int .i64 k.shape.journal, .int .i64 k.seq, .slice A n c] 33) ∧ VBox Y w.heap.size vs vw (.slice A n c) k ∧ Below w.heap.size w Y := ⟨_, rfl, VBox.new _ _ _ _ _, below_one _ _⟩
  have hre : ∀ W, Below w.heap.size w W → Reads W 52 2 A n (lfCells k.dirty) := fun W hb => by
    obtain ⟨_, _, e, _, hr'⟩ := h2.below hb
    injection e with e1 e2 e3
    subst e1 e3
    rw [hn]; exact hr'
  have HFC := Lib.hid (fun W (hb : Below w.heap.size w W) => find_calls A n c k.dirty no W (hre W hb) hn hR (by omega))
  have HHAS := Lib.hid (fun W => has_calls k.shape no W)
  unfold shV at HHAS
  have HY := Lib.hid hY
  have B1 := Lib.hid b1
  have HB := Lib.hid hB
  have H1 := Lib.hid h1
  have HOK := Lib.hid (And.intro hok hri)
  have HR := Lib.hid hr
  have HN := Lib.hid hn
  have HRI := Lib.hid hR
  obtain ⟨i0, i1, i2, i3, i4, i5, i6, i7⟩ := b1.at_
  clear hY b1 hB h1 h2 hok hri hin hr hn hre hR hdl
  by_cases hH : hasP k no
  rotate_left
  · have E : Hid (readV k no = ([], 1)) := Lib.hid (by unfold readV; rw [if_pos hH])
    have hb : (decide (0 ≤ no) && decide (no < k.shape.pages)) = false := by
      unfold hasP at hH
      simp only [Bool.and_eq_false_iff, decide_eq_false_iff_not]
      omega
    rw [hb] at HHAS
    clear hH hb
    go_enter Tryz.func17, Tryz.ntmps17
    go_upto_region 1 with (fail)
    rw [← HY.out]
    clear HY
    go_wp2_with fail
    (with_reducible refine (HHAS.out _).mono ?_)
    rintro e w1 ⟨rfl, hB1⟩
    go_wp2_with fail
    exact bodyPost_ret (v := .tuple #[.string ⟨#[]⟩, .int .i64 1]) (by simp [results, Tryz.results17, go_sem]) rfl ⟨read_end E.out, Dsk.below_trans' HB.out hB1⟩
  have hb : (decide (0 ≤ no) && decide (no < k.shape.pages)) = true := by
    obtain ⟨a, b⟩ := hH
    simp [a, b]
  rw [hb] at HHAS
  rcases Bool.eq_false_or_eq_true k.disk.dead with hd | hd
  · have E : Hid (readV k no = ([], 12)) := Lib.hid (by unfold readV; rw [if_neg (by simp [hH]), if_pos hd])
    rw [hd] at HY
    have HD := Lib.hid hd
    clear hH hb hd i0 i1 i2 i3 i4 i5 i6 i7
    obtain ⟨i0, i1, i2, i3, i4, i5, i6, i7⟩ := B1.out.at_
    rw [HD.out] at i2 ⊢
    go_enter Tryz.func17, Tryz.ntmps17
    go_upto_region 1 with (fail)
    rw [← HY.out]
    clear HY
    go_wp2_with fail
    (with_reducible refine (HHAS.out _).mono ?_)
    rintro e w1 ⟨rfl, hB1⟩
    have q1 := (B1.out.below hB1).at_.c2
    rw [HD.out] at q1
    go_wp2_with fail
    exact bodyPost_ret (v := .tuple #[.string ⟨#[]⟩, .int .i64 12]) (by simp [results, Tryz.results17, go_sem]) rfl ⟨read_end E.out, Dsk.below_trans' HB.out hB1⟩
  have HHit : Hid (∀ o, findL k.dirty no = some o → readV k no = (o.data, 0)) := Lib.hid (fun o ho => by unfold readV; rw [if_neg (by simp [hH]), if_neg (by simp [hd]), ho])
  have HMiss : Hid (findL k.dirty no = none → readV k no = if rdE k.disk (placeN k.shape no) ≠ 0 then ([], rdE k.disk (placeN k.shape no)) else
      if homeB (rdS k.disk (placeN k.shape no)).data.toList no = true then (homeV (rdS k.disk (placeN k.shape no)).data.toList no, 0) else ([], 2)) := Lib.hid (fun ho => by unfold readV; rw [if_neg (by simp [hH]), if_neg (by simp [hd]), ho])
  have HD := Lib.hid hd
  clear hH hd hg hb i0 i1 i2 i3 i4 i5 i6 i7
  obtain ⟨i0, i1, i2, i3, i4, i5, i6, i7⟩ := B1.out.at_
  rw [HD.out] at i2 HY ⊢
  obtain ⟨pos, hpos⟩ : ∃ p, p = posL k.dirty no := ⟨_, rfl⟩
  obtain ⟨is, his⟩ : ∃ b, b = isL k.dirty no := ⟨_, rfl⟩
  rw [← hpos, ← his] at HFC
  have HPOS := Lib.hid hpos
  have HIS := Lib.hid his
  clear hpos his
  cases hib : is with
  | true =>
    rw [hib] at HFC HIS
    obtain ⟨o, ho, hfo, hlt⟩ := is_hit HIS.out.symm
    rw [← HPOS.out] at ho hlt
    have E := Lib.hid (HHit.out o hfo)
    have hi1 : (0 : Int) ≤ (pos : Int) := by omega
    have hi2 : (pos : Int) < (n : Int) := by have := HN.out; omega
    have HO := Lib.hid ho
    have HN0 : Hid (0 < n) := Lib.hid (by omega)
    clear hib hfo ho hlt HMiss HHit
    go_enter Tryz.func17, Tryz.ntmps17
    go_upto_region 1 with (fail)
    rw [← HY.out]
    clear HY
    go_wp2_with fail
    (with_reducible refine (HHAS.out _).mono ?_)
    rintro e w1 ⟨rfl, hB1⟩
    have q2 := (B1.out.below hB1).at_.c2
    have q7 := (B1.out.below hB1).at_.c7
    rw [HD.out] at q2
    have HB1 := Lib.hid hB1
    clear hB1 i0 i1 i2 i3 i4 i5 i6 i7
    go_wp2_with fail
    (with_reducible refine (HFC.out _ (Dsk.below_trans' HB.out HB1.out)).mono ?_)
    rintro e w2 ⟨rfl, hB2⟩
    have HB2 := Lib.hid (Dsk.below_trans' HB1.out hB2)
    clear hB2 q2 q7
    have q7 := (B1.out.below HB2.out).at_.c7
    obtain ⟨b, off, rfl, x0, x1⟩ := lf_at HR.out (Dsk.below_trans' HB.out HB2.out) HO.out HN0.out
    go_wp2_with fail
    exact bodyPost_ret (v := .tuple #[.string (strB o.data), .int .i64 0]) (by simp [results, Tryz.results17, go_sem]) rfl ⟨read_end E.out, Dsk.below_trans' HB.out HB2.out⟩
  | false =>
    rw [hib] at HFC HIS
    have E := Lib.hid (HMiss.out (is_miss HRI.out HIS.out.symm))
    clear hib HMiss HHit
    go_enter Tryz.func17, Tryz.ntmps17
    go_upto_region 1 with (fail)
    rw [← HY.out]
    clear HY
    go_wp2_with fail
    (with_reducible refine (HHAS.out _).mono ?_)
    rintro e w1 ⟨rfl, hB1⟩
    have q2 := (B1.out.below hB1).at_.c2
    have q7 := (B1.out.below hB1).at_.c7
    rw [HD.out] at q2
    have HB1 := Lib.hid hB1
    clear hB1 i0 i1 i2 i3 i4 i5 i6 i7
    go_wp2_with fail
    (with_reducible refine (HFC.out _ (Dsk.below_trans' HB.out HB1.out)).mono ?_)
    rintro e wr ⟨rfl, hB2⟩
    have HBR := Lib.hid (Dsk.below_trans' HB1.out hB2)
    clear hB2 q2 q7
    have q := fun d os => Dsk.below_trans' HBR.out (below_regrown wr d os)
    have i0 := fun d os => ((B1.out.below (q d os)).at_).c0
    have i1 := fun d os => ((B1.out.below (q d os)).at_).c1
    have i2 := fun d os => ((B1.out.below (q d os)).at_).c2
    have i3 := fun d os => ((B1.out.below (q d os)).at_).c3
    have i4 := fun d os => ((B1.out.below (q d os)).at_).c4
    have i5 := fun d os => ((B1.out.below (q d os)).at_).c5
    rw [HD.out] at i2
    obtain ⟨PL, hPL⟩ : ∃ p, p = placeN k.shape no := ⟨_, rfl⟩
    have D1 := rg (place_calls k.shape no) wr
    unfold shV at D1
    rw [← hPL] at D1 E
    have D2 := fun d os => Calls.regrown_of (Dsk.read_calls _ k.disk PL (grow (redrawn wr d) os) (H1.out.below (Dsk.below_trans' HB.out (q d os))) HOK.out.1)
    rw [HD.out] at D2
    have D1 := Lib.hid D1
    have D2 := Lib.hid D2
    clear q hPL
    go_wp2_with fail
    refine wp_region_quiet_below (by kernel_rfl) (by kernel_rfl) ?_
    (try simp only [List.append_eq, List.cons_append, List.nil_append])
    repeat (first | go_big_quiet_step (first | (with_reducible exact D1.out _ _) | (with_reducible exact D2.out _ _)))
    refine wpQuiet_nil ?_
    intro _ hw'
    obtain ⟨⟨dq, osq⟩, hw''⟩ := hw'
    subst hw''
    have HB2 := Lib.hid (Dsk.below_trans' (Dsk.below_trans' HB.out HBR.out) (below_regrown wr dq osq))
    generalize grow (redrawn wr dq) osq = W1 at *
    clear i0 i1 i2 i3 i4 i5 D1 D2
    by_cases he : rdE k.disk PL = 0
    · rw [if_neg (by omega)] at E
      rw [he]
      obtain ⟨S, hS⟩ : ∃ S, S = (rdS k.disk PL).data.toList := ⟨_, rfl⟩
      have hS2 : rdS k.disk PL = strB S := by rw [hS, strB_of]
      rw [← hS] at E
      rw [hS2]
      clear hS hS2
      go_wp2_with fail
      (with_reducible refine (Ent.home_calls S no _).mono ?_)
      rintro e w3 ⟨rfl, hB3⟩
      rcases Bool.eq_false_or_eq_true (homeB S no) with hb | hb
      · rw [hb, if_pos rfl] at E
        rw [hb]
        go_wp2_with fail
        exact bodyPost_ret (v := .tuple #[.string (strB (homeV S no)), .int .i64 0]) (by simp [results, Tryz.results17, go_sem]) rfl ⟨read_end E.out, Dsk.below_trans' HB2.out hB3⟩
      · rw [hb, if_neg (by simp)] at E
        rw [hb]
        go_wp2_with fail
        exact bodyPost_ret (v := .tuple #[.string ⟨#[]⟩, .int .i64 2]) (by simp [results, Tryz.results17, go_sem]) rfl ⟨read_end E.out, Dsk.below_trans' HB2.out hB3⟩
    · rw [if_pos he] at E
      obtain ⟨R, hR⟩ : ∃ R, R = rdE k.disk PL := ⟨_, rfl⟩
      rw [← hR] at E he
      rw [← hR]
      have he2 : (R == 0) = false := by simpa using he
      clear hR
      go_wp2_with fail
      exact bodyPost_ret (v := .tuple #[.string ⟨#[]⟩, .int .i64 R]) (by simp [results, Tryz.results17, go_sem]) rfl ⟨read_end E.out, HB2.out⟩

end Go.Proofs.YtnbbijpmkhdgpaaGreat.Vlt

/- PWrite -/
namespace Go.Proofs.YtnbbijpmkhdgpaaGreat.Vlt
open Go.RowKit Go.Sort
open Dsk

set_option maxRecDepth 100000 in
set_option maxHeartbeats 4000000 in
theorem padded_calls (s : List UInt8) (w : World) (hs : s.length ≤ 208) :
    Calls Tryz.prog 59 #[.string (strB s)] w fun e w' => e = .returned (.string (strB (padP s))) ∧ Below w.heap.size w w' := by
  obtain ⟨k, hk⟩ : ∃ k, k = 208 - s.length := ⟨_, rfl⟩
  have hsz := strB_size s
  have hm : (208 : Int) - ((strB s).size : Int) = (k : Nat) := by omega
  have hz0 : (strB s).size + (strB (zer k)).size ≤ 5000 := by rw [strB_size, strB_size]; unfold zer; simp; omega
  have hz : ¬ 9223372036854775807 < (strB s).size + (strB (zer k)).size := fun h => absurd (Nat.lt_of_lt_of_le h hz0) (by decide)
  have HR := Lib.hid (rep_calls k w (by omega))
  have hf := Lib.hid (show strB s ++ strB (zer k) = strB (padP s) by unfold padP; rw [strB_append, hk]; rfl)
  clear hk hs hsz hz0
  go_enter Tryz.func59, Tryz.ntmps59
  go_wp2_with fail
  (with_reducible refine HR.out.mono ?_)
  rintro e w1 ⟨rfl, hB⟩
  go_wp2_with fail
  go_ret
  exact ⟨ret_str hf.out, hB⟩

set_option maxRecDepth 100000 in
set_option maxHeartbeats 16000000 in
theorem pwrite_no (v : Value) (k : VK) (no : Int) (data : List UInt8) (w : World) (hv : IsVault w v k) (E : Int) (hE : (¬ (hasP k no ∧ data.length ≤ 208) ∧ E = 1) ∨ ((hasP k no ∧ data.length ≤ 208) ∧ k.disk.dead = true ∧ E = 12)) :
    Calls Tryz.prog 26 #[v, .int .i64 no, .string (strB data)] w fun e w' => ∃ v', e = .returned (.tuple #[v', .int .i64 E]) ∧ IsVault w' v' k ∧ Below w.heap.size w w' := by
  obtain ⟨vs, vw, vd, rfl, h1, h2⟩ := id hv
  obtain ⟨A1, n1, c1, A2, n2, c2, e1⟩ := h1.parts
  obtain ⟨rfl, rfl⟩ : vs = .slice A1 n1 c1 ∧ vw = .slice A2 n2 c2 := by
    simp only [Value.agg.injEq, Array.mk.injEq, List.cons.injEq] at e1
    exact ⟨e1.1, e1.2.1⟩
  obtain ⟨A, n, c, rfl, hn, _, hr⟩ := h2.open_
  obtain ⟨Y, hY, hB⟩ := WB.new w (.slice A1 n1 c1) (.slice A2 n2 c2) (.slice A n c) k
  have HY := Lib.hid hY
  have HWB := Lib.hid hB
  have HV := Lib.hid hv
  have HHAS := Lib.hid (fun W => has_calls k.shape no W)
  unfold shV at HHAS
  obtain ⟨hb, hbb⟩ : ∃ b, b = (decide (0 ≤ no) && decide (no < k.shape.pages)) := ⟨_, rfl⟩
  rw [← hbb] at HHAS
  have hbi : hb = true ↔ hasP k no := by
    rw [hbb]
    unfold hasP
    simp
  have hsz := strB_size data
  obtain ⟨i0, i1, i2, i3, i4, i5, i6, i7⟩ := hB.a.at_
  clear hY hB hbb h1 h2 hn hr hv e1
  -- what stands behind the check
  have fin : ∀ (W : World) (X : World), WB w W (.slice A1 n1 c1) (.slice A2 n2 c2) (.slice A n c) k →
      (((((((W.setCell ⟨w.heap.size + 1, 0, none⟩ (.slice A1 n1 c1)).setCell ⟨w.heap.size + 1, 1, none⟩ (.slice A2 n2 c2)).setCell ⟨w.heap.size + 1, 2, none⟩ (.bool k.disk.dead)).setCell ⟨w.heap.size + 1, 3, none⟩ (.int .i64 k.disk.left)).setCell ⟨w.heap.size + 1, 4, none⟩ (.int .i64 k.shape.pages)).setCell ⟨w.heap.size + 1, 5, none⟩ (.int .i64 k.shape.journal)).setCell ⟨w.heap.size + 1, 6, none⟩ (.int .i64 k.seq)).setCell ⟨w.heap.size + 1, 7, none⟩ (.slice A n c) = X →
      IsVault X (.agg #[.slice A1 n1 c1, .slice A2 n2 c2, .bool k.disk.dead, .int .i64 k.disk.left, .int .i64 k.shape.pages, .int .i64 k.shape.journal, .int .i64 k.seq, .slice A n c]) k ∧ Below w.heap.size w X ∧
      X.heap[w.heap.size + 1]? = some (.cells #[.slice A1 n1 c1, .slice A2 n2 c2, .bool k.disk.dead, .int .i64 k.disk.left, .int .i64 k.shape.pages, .int .i64 k.shape.journal, .int .i64 k.seq, .slice A n c] 33 (0, 0)) := by
    intro W X hW hX
    obtain ⟨X', hX', hbX, hkX, hBX⟩ := box_store8 hW.z (.slice A1 n1 c1) (.slice A2 n2 c2) (.bool k.disk.dead) (.int .i64 k.disk.left) (.int .i64 k.shape.pages) (.int .i64 k.shape.journal) (.int .i64 k.seq) (.slice A n c)
    rw [hX'] at hX
    subst hX
    exact ⟨(HV.out.below hW.below).other hW.z hkX, hBX _ _ hW.below (by omega), hbX⟩
  have FIN := Lib.hid fin
  clear fin
  rcases hE with ⟨hE, rfl⟩ | ⟨hE, hd, rfl⟩
  · cases hbc : hb with
    | false =>
      rw [hbc] at HHAS
      clear hE hbi
      go_enter Tryz.func26, Tryz.ntmps26
      go_upto_region 1 with (fail)
      rw [← HY.out]
      clear HY
      go_wp2_with fail
      (with_reducible refine (HHAS.out _).mono ?_)
      rintro e w1 ⟨rfl, hB1⟩
      have HW1 := Lib.hid (HWB.out.more hB1)
      clear i0 i1 i2 i3 i4 i5 i6 i7 hB1
      obtain ⟨i0, i1, i2, i3, i4, i5, i6, i7⟩ := HW1.out.a.at_
      obtain ⟨⟨z0, z1, z2, z3, z4, z5, z6, z7⟩, zf⟩ := box8 HW1.out.z
      go_wp2_with fail
      generalize hX : ((((((((w1.setCell ⟨w.heap.size + 1, 0, none⟩ (.slice A1 n1 c1)).setCell ⟨w.heap.size + 1, 1, none⟩ (.slice A2 n2 c2)).setCell ⟨w.heap.size + 1, 2, none⟩ (.bool k.disk.dead)).setCell ⟨w.heap.size + 1, 3, none⟩ (.int .i64 k.disk.left)).setCell ⟨w.heap.size + 1, 4, none⟩ (.int .i64 k.shape.pages)).setCell ⟨w.heap.size + 1, 5, none⟩ (.int .i64 k.shape.journal)).setCell ⟨w.heap.size + 1, 6, none⟩ (.int .i64 k.seq)).setCell ⟨w.heap.size + 1, 7, none⟩ (.slice A n c)) = X
      obtain ⟨f1, f2, f3⟩ := FIN.out w1 X HW1.out hX
      obtain ⟨⟨q0, q1, q2, q3, q4, q5, q6, q7⟩, _⟩ := box8 f3
      exact bodyPost_ret (v := .tuple #[.agg #[.slice A1 n1 c1, .slice A2 n2 c2, .bool k.disk.dead, .int .i64 k.disk.left, .int .i64 k.shape.pages, .int .i64 k.shape.journal, .int .i64 k.seq, .slice A n c], .int .i64 1]) (by simp [results, Tryz.results26, go_sem, q0, q1, q2, q3, q4, q5, q6, q7]) rfl ⟨_, rfl, f1, f2⟩
    | true =>
      rw [hbc] at HHAS
      have hH := hbi.1 hbc
      have hl : 208 < data.length := by
        apply Classical.byContradiction
        intro h
        exact hE ⟨hH, by omega⟩
      have hl2 : (208 : Int) < ((strB data).size : Int) := by omega
      have hl3 : 208 < (strB data).size := by omega
      clear hE hbi hH hl
      go_enter Tryz.func26, Tryz.ntmps26
      go_upto_region 1 with (fail)
      rw [← HY.out]
      clear HY
      go_wp2_with fail
      (with_reducible refine (HHAS.out _).mono ?_)
      rintro e w1 ⟨rfl, hB1⟩
      have HW1 := Lib.hid (HWB.out.more hB1)
      clear i0 i1 i2 i3 i4 i5 i6 i7 hB1
      obtain ⟨i0, i1, i2, i3, i4, i5, i6, i7⟩ := HW1.out.a.at_
      obtain ⟨⟨z0, z1, z2, z3, z4, z5, z6, z7⟩, zf⟩ := box8 HW1.out.z
      go_wp2_with fail
      generalize hX : ((((((((w1.setCell ⟨w.heap.size + 1, 0, none⟩ (.slice A1 n1 c1)).setCell ⟨w.heap.size + 1, 1, none⟩ (.slice A2 n2 c2)).setCell ⟨w.heap.size + 1, 2, none⟩ (.bool k.disk.dead)).setCell ⟨w.heap.size + 1, 3, none⟩ (.int .i64 k.disk.left)).setCell ⟨w.heap.size + 1, 4, none⟩ (.int .i64 k.shape.pages)).setCell ⟨w.heap.size + 1, 5, none⟩ (.int .i64 k.shape.journal)).setCell ⟨w.heap.size + 1, 6, none⟩ (.int .i64 k.seq)).setCell ⟨w.heap.size + 1, 7, none⟩ (.slice A n c)) = X
      obtain ⟨f1, f2, f3⟩ := FIN.out w1 X HW1.out hX
      obtain ⟨⟨q0, q1, q2, q3, q4, q5, q6, q7⟩, _⟩ := box8 f3
      exact bodyPost_ret (v := .tuple #[.agg #[.slice A1 n1 c1, .slice A2 n2 c2, .bool k.disk.dead, .int .i64 k.disk.left, .int .i64 k.shape.pages, .int .i64 k.shape.journal, .int .i64 k.seq, .slice A n c], .int .i64 1]) (by simp [results, Tryz.results26, go_sem, q0, q1, q2, q3, q4, q5, q6, q7]) rfl ⟨_, rfl, f1, f2⟩
  · have hl2 : ¬ (208 : Int) < ((strB data).size : Int) := by have := hE.2; omega
    have hl3 : ¬ 208 < (strB data).size := by have := hE.2; omega
    have hbc : hb = true := hbi.2 hE.1
    rw [hbc] at HHAS
    rw [hd] at HY FIN i2
    have HD := Lib.hid hd
    rw [hd]
    clear hE hbi hbc
    go_enter Tryz.func26, Tryz.ntmps26
    go_upto_region 1 with (fail)
    rw [← HY.out]
    clear HY
    go_wp2_with fail
    (with_reducible refine (HHAS.out _).mono ?_)
    rintro e w1 ⟨rfl, hB1⟩
    have HW1 := Lib.hid (HWB.out.more hB1)
    clear i0 i1 i2 i3 i4 i5 i6 i7 hB1
    obtain ⟨i0, i1, i2, i3, i4, i5, i6, i7⟩ := HW1.out.a.at_
    rw [HD.out] at i2
    obtain ⟨⟨z0, z1, z2, z3, z4, z5, z6, z7⟩, zf⟩ := box8 HW1.out.z
    go_wp2_with fail
    generalize hX : ((((((((w1.setCell ⟨w.heap.size + 1, 0, none⟩ (.slice A1 n1 c1)).setCell ⟨w.heap.size + 1, 1, none⟩ (.slice A2 n2 c2)).setCell ⟨w.heap.size + 1, 2, none⟩ (.bool true)).setCell ⟨w.heap.size + 1, 3, none⟩ (.int .i64 k.disk.left)).setCell ⟨w.heap.size + 1, 4, none⟩ (.int .i64 k.shape.pages)).setCell ⟨w.heap.size + 1, 5, none⟩ (.int .i64 k.shape.journal)).setCell ⟨w.heap.size + 1, 6, none⟩ (.int .i64 k.seq)).setCell ⟨w.heap.size + 1, 7, none⟩ (.slice A n c)) = X
    obtain ⟨f1, f2, f3⟩ := FIN.out w1 X HW1.out hX
    obtain ⟨⟨q0, q1, q2, q3, q4, q5, q6, q7⟩, _⟩ := box8 f3
    exact bodyPost_ret (v := .tuple #[.agg #[.slice A1 n1 c1, .slice A2 n2 c2, .bool true, .int .i64 k.disk.left, .int .i64 k.shape.pages, .int .i64 k.shape.journal, .int .i64 k.seq, .slice A n c], .int .i64 12]) (by simp [results, Tryz.results26, go_sem, q0, q1, q2, q3, q4, q5, q6, q7]) rfl ⟨_, rfl, f1, f2⟩

/-- Another list of pages is stored into the first box. -/
theorem wput {w W : World} {v0 v1 v7 u7 : Value} {k : VK} {l : List Lf} (h : WB w W v0 v1 v7 k) (hi : IsDisk w (.agg #[v0, v1, .bool k.disk.dead, .int .i64 k.disk.left]) k.disk) (hl : IsLfs W u7 l) :
    ∃ X, W.setCell ⟨w.heap.size, 7, none⟩ u7 = X ∧ X.heap[w.heap.size]? = some (.cells #[v0, v1, .bool k.disk.dead, .int .i64 k.disk.left, .int .i64 k.shape.pages, .int .i64 k.shape.journal, .int .i64 k.seq, u7] 33 (0, 0)) ∧
      X.heap[w.heap.size + 1]? = some (.cells #[.slice none 0 0, .slice none 0 0, .bool false, .int .i64 0, .int .i64 0, .int .i64 0, .int .i64 0, .slice none 0 0] 33 (0, 0)) ∧ IsLfs X u7 l ∧
      IsDisk X (.agg #[v0, v1, .bool k.disk.dead, .int .i64 k.disk.left]) k.disk ∧ Below w.heap.size w X := by
  obtain ⟨X, hX⟩ : ∃ X, X = W.setCell ⟨w.heap.size, 7, none⟩ u7 := ⟨_, rfl⟩
  have hk : ∀ q : Nat, q ≠ w.heap.size → X.heap[q]? = W.heap[q]? := fun q hq => by rw [hX]; exact Below.heap_setCell _ _ _ _ hq
  refine ⟨X, hX.symm, by rw [hX]; exact heap_setCell_same W w.heap.size 7 _ 33 _ h.a, (hk _ (by omega)).trans h.z, SL.other hl h.a (by decide) hk, (hi.below h.below).other h.a (by decide) (by decide) hk, ?_⟩
  rw [hX]
  exact h.below.setCell (p := ⟨w.heap.size, 7, none⟩) (Nat.le_refl _) _

set_option maxRecDepth 100000 in
set_option maxHeartbeats 16000000 in
theorem pwrite_ok (v : Value) (k : VK) (no : Int) (data : List UInt8) (w : World) (hv : IsVault w v k) (hg : VGood k) (hR : RiseL k.dirty) (hE : hasP k no ∧ data.length ≤ 208) (hd : k.disk.dead = false) :
    Calls Tryz.prog 26 #[v, .int .i64 no, .string (strB data)] w fun e w' => ∃ v', e = .returned (.tuple #[v', .int .i64 0]) ∧ IsVault w' v' { k with dirty := insL ⟨no, padP data⟩ k.dirty } ∧ Below w.heap.size w w' := by
  obtain ⟨vs, vw, vd, rfl, h1, h2⟩ := id hv
  obtain ⟨A1, n1, c1, A2, n2, c2, e1⟩ := h1.parts
  obtain ⟨rfl, rfl⟩ : vs = .slice A1 n1 c1 ∧ vw = .slice A2 n2 c2 := by
    simp only [Value.agg.injEq, Array.mk.injEq, List.cons.injEq] at e1
    exact ⟨e1.1, e1.2.1⟩
  obtain ⟨A, n, c, rfl, hn, _, hr⟩ := h2.open_
  obtain ⟨Y, hY, hB⟩ := WB.new w (.slice A1 n1 c1) (.slice A2 n2 c2) (.slice A n c) k
  have HY := Lib.hid hY
  have HWB := Lib.hid hB
  have HV := Lib.hid hv
  have HHAS := Lib.hid (fun W => has_calls k.shape no W)
  unfold shV at HHAS
  have hb : (decide (0 ≤ no) && decide (no < k.shape.pages)) = true := by
    obtain ⟨a, b⟩ := hE.1
    simp [a, b]
  rw [hb] at HHAS
  have hsz := strB_size data
  have hl2 : ¬ (208 : Int) < ((strB data).size : Int) := by have := hE.2; omega
  have hl3 : ¬ 208 < (strB data).size := by have := hE.2; omega
  obtain ⟨P, hP⟩ : ∃ P, P = padP data := ⟨_, rfl⟩
  have C1 := fun W => padded_calls data W hE.2
  have C2 := fun W (hbw : Below w.heap.size w W) => with_calls (.slice A n c) k.dirty no P W (h2.below hbw) hR hg.dirty
  rw [← hP] at C1
  have C1 := Lib.hid C1
  have C2 := Lib.hid C2
  have HP := Lib.hid hP
  have HI := Lib.hid h1
  have HD := Lib.hid hd
  obtain ⟨i0, i1, i2, i3, i4, i5, i6, i7⟩ := hB.a.at_
  rw [hd] at HY i2 ⊢
  clear hY hB h1 h2 hn hr hv e1 hR hg hE hd hb hP hsz
  go_enter Tryz.func26, Tryz.ntmps26
  go_upto_region 1 with (fail)
  rw [← HY.out]
  clear HY
  go_wp2_with fail
  (with_reducible refine (HHAS.out _).mono ?_)
  rintro e w1 ⟨rfl, hB1⟩
  have HW1 := Lib.hid (HWB.out.more hB1)
  clear i0 i1 i2 i3 i4 i5 i6 i7 hB1
  obtain ⟨i0, i1, i2, i3, i4, i5, i6, i7⟩ := HW1.out.a.at_
  rw [HD.out] at i2
  go_wp2_with fail
  have HT := Lib.hid (HW1.out.more (Below.refl _ _).drew)
  clear i0 i1 i2 i3 i4 i5 i6 i7
  have i7 := HT.out.a.at_.c7
  have kf := HT.out.a.free
  go_region_with (first
    | (go_at_call 59; (with_reducible refine (C1.out _).mono ?_); rintro e wa ⟨rfl, hBa⟩; (with_reducible replace HT := Lib.hid (HT.out.more hBa)); clear hBa; have i7 := HT.out.a.at_.c7; have kf := HT.out.a.free)
    | (go_at_call 58; (with_reducible refine (C2.out _ HT.out.below).mono ?_); rintro e wa ⟨v', rfl, hv', hBa⟩; (with_reducible replace HT := Lib.hid (HT.out.more hBa)); clear hBa; have i7 := HT.out.a.at_.c7; have kf := HT.out.a.free; obtain ⟨Z2, z2, z3, rfl, hz3, _, _⟩ := hv'.open_; have HL := Lib.hid hv'; have HZ3 := Lib.hid hz3; clear hv' hz3))
  all_goals
    (try clear z0)
    have hTA := HT.out
    obtain ⟨X1, hX1, ha1, hz1', hl1, hvd, hb1⟩ := wput HT.out HI.out HL.out
    have HA1 := Lib.hid (box8 ha1)
    have HZ1 := Lib.hid (box8 hz1')
    obtain ⟨X2, hX2, hbX, hkX, hBX⟩ := box_store8 hz1' (.slice A1 n1 c1) (.slice A2 n2 c2) (.bool k.disk.dead) (.int .i64 k.disk.left) (.int .i64 k.shape.pages) (.int .i64 k.shape.journal) (.int .i64 k.seq) (.slice Z2 z2 z3)
    have HX1 := Lib.hid hX1
    have HX2 := Lib.hid hX2
    have hvd2 := hvd.other hz1' (by decide) (by decide) hkX
    have hl2 : IsLfs X2 (.slice Z2 z2 z3) _ := SL.other hl1 hz1' (by decide) hkX
    have HFIN : Hid (IsVault X2 (.agg #[.slice A1 n1 c1, .slice A2 n2 c2, .bool k.disk.dead, .int .i64 k.disk.left, .int .i64 k.shape.pages, .int .i64 k.shape.journal, .int .i64 k.seq, .slice Z2 z2 z3]) { k with dirty := insL ⟨no, padP data⟩ k.dirty } ∧ Below w.heap.size w X2) := Lib.hid ⟨⟨_, _, _, rfl, hvd2, by rw [← HP.out]; exact hl2⟩, hBX _ _ hb1 (by omega)⟩
    have HBX := Lib.hid (box8 hbX)
    rw [HD.out] at HFIN HA1 HBX HX2
    clear hX1 ha1 hz1' hb1 hX2 hbX hkX hBX hvd hvd2 hl1 hl2 hTA
    go_upto_region 6 with (fail)
    rw [HX1.out]
    clear i7 kf HX1
    obtain ⟨⟨i0, i1, i2, i3, i4, i5, i6, i7⟩, _⟩ := HA1.out
    obtain ⟨⟨z0, z1, z2', z3', z4, z5, z6, z7⟩, zf⟩ := HZ1.out
    go_wp2_with fail
    rw [HX2.out]
    clear i0 i1 i2 i3 i4 i5 i6 i7 z0 z1 z2' z3' z4 z5 z6 z7 zf
    obtain ⟨⟨z0, z1, z2', z3', z4, z5, z6, z7⟩, _⟩ := HBX.out
    exact bodyPost_ret (v := .tuple #[.agg #[.slice A1 n1 c1, .slice A2 n2 c2, .bool false, .int .i64 k.disk.left, .int .i64 k.shape.pages, .int .i64 k.shape.journal, .int .i64 k.seq, .slice Z2 z2 z3], .int .i64 0]) (by simp [results, Tryz.results26, go_sem, z0, z1, z2', z3', z4, z5, z6, z7]) rfl ⟨_, rfl, HFIN.out.1, HFIN.out.2⟩

/-- Whatever is asked. -/
theorem write_calls (v : Value) (k : VK) (no : Int) (data : List UInt8) (w : World) (hv : IsVault w v k) (hg : VGood k) (hR : RiseL k.dirty) :
    Calls Tryz.prog 26 #[v, .int .i64 no, .string (strB data)] w fun e w' => ∃ v', e = .returned (.tuple #[v', .int .i64 (writeV k no data).2]) ∧ IsVault w' v' (writeV k no data).1 ∧ Below w.heap.size w w' := by
  unfold writeV
  by_cases hE : hasP k no ∧ data.length ≤ 208
  · rw [if_neg (by simp [hE])]
    rcases Bool.eq_false_or_eq_true k.disk.dead with hd | hd
    · rw [if_pos hd]
      exact pwrite_no v k no data w hv 12 (.inr ⟨hE, hd, rfl⟩)
    · rw [if_neg (by simp [hd])]
      exact pwrite_ok v k no data w hv hg hR hE hd
  · rw [if_pos hE]
    exact pwrite_no v k no data w hv 1 (.inl ⟨hE, rfl⟩)

end Go.Proofs.YtnbbijpmkhdgpaaGreat.Vlt
