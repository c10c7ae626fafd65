/- Contracts and plain mathematics that the statement's proof wants: no statement is proved here, nothing is assumed. -/
import Derived.Lib.AppendZeros
import Derived.Laws.OwnMore
import Derived.Test.YtgeiemccjionpaaGreatMg18
import Derived.Test.YtgeiemccjionpaaGreatMg19
import Derived.Test.YtgeiemccjionpaaGreatMg21
import Derived.Test.YtgeiemccjionpaaGreatMg24
import Derived.Test.YtgeiemccjionpaaGreatMg26
/- HEach -/
namespace Go.Proofs.YtgeiemccjionpaaGreat.Chn
open Go.RowKit Go.Sort
open Dsk Vlt
open Bit (Sps OwnS SBox)

/-- The first k pages of a run, as numbers. -/
def runK (s : Int) (k : Nat) : List Int := (List.range k).map fun q : Nat => s + (q : Int)
theorem runK_next (s : Int) (k : Nat) : runK s (k + 1) = runK s k ++ [s + (k : Int)] := by
  unfold runK
  rw [List.range_succ, List.map_append]
  rfl
theorem runK_len (s : Int) (k : Nat) : (runK s k).length = k := by simp [runK]
/-- The pages of the first runs. -/
def flatI (r : List (Int × Int)) : List Int := r.flatMap fun x => runK x.1 x.2.toNat
theorem flat_next {r : List (Int × Int)} {i : Nat} {x : Int × Int} (h : r[i]? = some x) : flatI (r.take (i + 1)) = flatI (r.take i) ++ runK x.1 x.2.toNat := by
  rw [List.take_add_one, h]
  simp [flatI]
theorem flat_natI {r : List (Int × Int)} (h : ∀ x ∈ r, 0 ≤ x.1) : flatI r = natI (flat r) := by
  unfold flatI flat natI
  rw [List.map_flatMap]
  have : ∀ x ∈ r, runK x.1 x.2.toNat = List.map (fun p : Nat => (p : Int)) ((List.range x.2.toNat).map fun k : Nat => (x.1 + (k : Int)).toNat) := by
    intro x hx
    have h0 := h x hx
    unfold runK
    rw [List.map_map]
    apply List.map_congr_left
    intro a _
    dsimp only [Function.comp]
    omega
  induction r with
  | nil => rfl
  | cons a r ih =>
    rw [List.flatMap_cons, List.flatMap_cons, this a (by simp), ih (fun x hx => h x (by simp [hx])) (fun x hx => this x (by simp [hx]))]
theorem flat_big {r : List (Int × Int)} (h : ∀ x ∈ r, x.2 ≤ 600) : (flatI r).length ≤ r.length * 600 := by
  induction r with
  | nil => simp [flatI]
  | cons a r ih =>
    have e : flatI (a :: r) = runK a.1 a.2.toNat ++ flatI r := by simp [flatI]
    have := ih fun x hx => h x (by simp [hx])
    have := h a (by simp)
    rw [e, List.length_append, runK_len, List.length_cons]
    omega

set_option maxRecDepth 100000 in
set_option maxHeartbeats 4000000 in
theorem each_calls (v : Value) (r : List (Int × Int)) (w : World) (hv : Sps w v r) (hl : r.length ≤ 600) (hr : ∀ x ∈ r, 0 ≤ x.1 ∧ x.1 ≤ 600 ∧ 0 ≤ x.2 ∧ x.2 ≤ 600) :
    Calls Tryz.prog 65 #[v] w fun e w' => ∃ v', e = .returned v' ∧ OwnI w.heap.size w' v' (natI (flat r)) ∧ Below w.heap.size w w' := by
  have hfl := flat_natI fun x hx => (hr x hx).1
  rw [← hfl]
  clear hfl
  obtain ⟨A, c, rfl⟩ := hv.form
  obtain ⟨n, hn⟩ : ∃ n, n = r.length := ⟨_, rfl⟩
  rw [← hn] at hv hl ⊢
  have HV := Lib.hid hv
  have HN := Lib.hid hn
  have HR := Lib.hid hr
  clear hv hn hr
  go_enter Tryz.func65, Tryz.ntmps65
  go_wp2_with fail
  go_loopw [3, 9] (fun s3 s9 wr => ∃ (i : Nat) (Z1 : Option Addr) (z1 m : Nat), i ≤ n ∧ s9 = .int .i64 i ∧ s3 = .slice Z1 m z1 ∧ m = (flatI (r.take i)).length ∧ OwnI w.heap.size wr (.slice Z1 m z1) (flatI (r.take i)) ∧ Below w.heap.size w wr) (fun _ u _ => n - (intOf u).toNat)
  case atStart => exact ⟨0, _, _, 0, Nat.zero_le _, rfl, rfl, rfl, OwnI.nil _ _, Below.refl _ _⟩
  case round =>
    obtain ⟨i, Z1, z1, m, hi, rfl, rfl, hm, how, hbr⟩ := hrel
    obtain ⟨w2, rfl⟩ : ∃ w2, w2 = wr := ⟨_, rfl⟩
    have HBR := Lib.hid hbr
    have HO := Lib.hid how
    have HM := Lib.hid hm
    clear how hm
    by_cases hlt : i < n
    · obtain ⟨x, hx⟩ : ∃ x, r[i]? = some x := ⟨_, List.getElem?_eq_getElem (by have := HN.out; omega)⟩
      obtain ⟨b, off, rfl, hbl, hcell⟩ := HV.out.at_.2.2 (by omega)
      have c0 := (hbr.cell (p := ⟨b, off + i * 2, none⟩) hbl).trans (hcell i x hx).1
      have c1 := (hbr.cell (p := ⟨b, off + i * 2 + 1, none⟩) hbl).trans (hcell i x hx).2
      have hi1 : (0 : Int) ≤ (i : Int) := by omega
      have hi2 : (i : Int) < (n : Int) := by omega
      have HNX := Lib.hid (flat_next hx)
      obtain ⟨q1, q2, q3, q4⟩ := HR.out x (List.mem_of_getElem? hx)
      have HFB : Hid ((flatI (r.take i)).length ≤ i * 600) := Lib.hid (by
        have := flat_big (r := r.take i) fun y hy => (HR.out y (List.mem_of_mem_take hy)).2.2.2
        rw [List.length_take] at this
        have h2 : min i r.length * 600 ≤ i * 600 := Nat.mul_le_mul_right _ (Nat.min_le_left _ _)
        omega)
      obtain ⟨K, hK⟩ : ∃ K, K = x.2.toNat := ⟨_, rfl⟩
      have hK1 : (K : Int) = x.2 := by omega
      rw [← hK] at HNX
      obtain ⟨s, hs⟩ : ∃ s, s = x.1 := ⟨_, rfl⟩
      rw [← hs] at HNX c0 q1 q2
      rw [← hK1] at c1
      have hK2 : K ≤ 600 := by omega
      clear hcell hx hK hK1 hs q3 q4 hbl
      obtain ⟨g, hg⟩ : ∃ g, g = w2.heap.size := ⟨_, rfl⟩
      obtain ⟨Y, hY⟩ : ∃ Y, Y = w2.alloc (.cells #[.int .i64 s, .int .i64 (K : Int)] 79) := ⟨_, rfl⟩
      have HYB : Hid (Y.heap[g]? = some (.cells #[.int .i64 s, .int .i64 (K : Int)] 79 (0, 0))) := Lib.hid (by rw [hY, hg]; exact heap_alloc_new w2 _)
      have HBY : Hid (Below w.heap.size w Y) := Lib.hid (by rw [hY]; exact hbr.alloc hbr.size _)
      have HOY : Hid (OwnI w.heap.size Y (.slice Z1 m z1) (flatI (r.take i) ++ runK s 0)) := Lib.hid (by
        show OwnI w.heap.size Y (.slice Z1 m z1) (flatI (r.take i) ++ [])
        rw [List.append_nil, hY]; exact HO.out.below (below_one _ _))
      have HNE : Hid ((Value.slice Z1 m z1).ownBlock ≠ some g) := Lib.hid (fun e => by
        have := (World.ownsRow.lt HO.out _ e).2
        omega)
      have HGB : Hid (w.heap.size ≤ g) := Lib.hid (by rw [hg]; exact hbr.size)
      have HM0 : Hid (m = (flatI (r.take i) ++ runK s 0).length) := Lib.hid (by rw [HM.out]; simp [runK])
      have HF2 : Hid (∀ k, k ≤ K → (flatI (r.take i) ++ runK s k).length ≤ 400000) := Lib.hid (fun k hk => by
        have := HFB.out
        have h3 : i * 600 ≤ 600 * 600 := Nat.mul_le_mul_right _ (by omega)
        rw [List.length_append, runK_len]
        omega)
      have HY := Lib.hid hY
      have HG := Lib.hid hg
      clear hY hg hbr HBR HO HM HFB
      go_upto_region 5 with (fail)
      rw [← HY.out, ← HG.out]
      clear c0 c1
      have e0 : Y.cell? ⟨g, 1, none⟩ = some (.int .i64 (K : Int)) := by rw [cell_of_row _ _ _ _ _ _ HYB.out]; rfl
      go_wp2_with fail
      clear e0
      go_loopw [3, 15] (fun s3 s15 wr => ∃ (k : Nat) (Z : Option Addr) (z m' : Nat), k ≤ K ∧ s15 = .int .i64 k ∧ s3 = .slice Z m' z ∧ m' = (flatI (r.take i) ++ runK s k).length ∧ OwnI w.heap.size wr (.slice Z m' z) (flatI (r.take i) ++ runK s k) ∧ Below w.heap.size w wr ∧ wr.heap[g]? = some (.cells #[.int .i64 s, .int .i64 (K : Int)] 79 (0, 0)) ∧ (Value.slice Z m' z).ownBlock ≠ some g) (fun _ u _ => K - (intOf u).toNat)
      case atStart => exact ⟨0, _, _, m, Nat.zero_le _, rfl, rfl, HM0.out, HOY.out, HBY.out, HYB.out, HNE.out⟩
      case round =>
        obtain ⟨k, Z, z, m', hk, rfl, rfl, hm', how, hbr, hbx, hne⟩ := hrel
        obtain ⟨w5, rfl⟩ : ∃ w5, w5 = wr := ⟨_, rfl⟩
        have HM' := Lib.hid hm'
        have HOW := Lib.hid how
        have HBR := Lib.hid hbr
        have HBX := Lib.hid hbx
        have HNE2 := Lib.hid hne
        have e0 : w5.cell? ⟨g, 0, none⟩ = some (.int .i64 s) := by rw [cell_of_row _ _ _ _ _ _ hbx]; rfl
        have e1 : w5.cell? ⟨g, 1, none⟩ = some (.int .i64 (K : Int)) := by rw [cell_of_row _ _ _ _ _ _ hbx]; rfl
        clear hm' how hbr hbx hne
        by_cases hlk : k < K
        · have hlk2 : (k : Int) < (K : Int) := by omega
          have hsk : IntKind.i64.wrap (s + (k : Int)) = s + (k : Int) := by rw [wrap_small _ (by omega) (by omega)]
          have hm2 : (flatI (r.take i) ++ runK s k).length ≤ 500000 := by have := HF2.out k hk; omega
          have hBs : w.heap.size ≤ (w5.alloc (.cells #[.int .i64 (s + (k : Int))] 3)).heap.size := by have := HBR.out.size; simp; omega
          go_wp2_with (at_builtin; refine wpList_push (by rfl) (.tmp 18) (.tmp 23) (by rfl) w.heap.size _ (flatI (r.take i) ++ runK s k) (s + (k : Int)) w5.heap.size (by rfl) (by rfl) (by exact HOW.out.below (below_one _ _)) (by exact heap_alloc_new w5 _) hm2 hBs ?_; intro Z' z' w6 hown' hbl' hkeep' hsz' hat'; obtain ⟨M2, hM2⟩ : ∃ M2, M2 = (flatI (r.take i) ++ runK s k).length + 1 := ⟨_, rfl⟩; rw [← hM2] at hown' hat' ⊢; replace hM2 := Lib.hid hM2)
          have HO6 : Hid (OwnI w.heap.size w6 (.slice Z' M2 z') (flatI (r.take i) ++ runK s (k + 1))) := Lib.hid (by rw [runK_next, ← List.append_assoc]; exact hown')
          have HB6 : Hid (Below w.heap.size w w6) := Lib.hid (hbl' w (HBR.out.alloc HBR.out.size _))
          have HX6 : Hid (w6.heap[g]? = some (.cells #[.int .i64 s, .int .i64 (K : Int)] 79 (0, 0))) := Lib.hid (hkeep' _ _ (box_alloc HBX.out _) (fun e => HNE2.out e.symm))
          have HN6 : Hid ((Value.slice Z' M2 z').ownBlock ≠ some g) := Lib.hid (by
            have hgl : g < w5.heap.size := (Array.getElem?_eq_some_iff.1 HBX.out).1
            rcases hat' with e | e
            · rw [e]; exact HNE2.out
            · rw [e]; intro e2; injection e2 with e2; simp at e2; omega)
          have HL6 : Hid (M2 = (flatI (r.take i) ++ runK s (k + 1)).length) := Lib.hid (by rw [hM2.out, runK_next]; simp; omega)
          clear hown' hbl' hkeep' hsz' hat' hm2 hBs hM2
          go_wp2_with fail
          exact ⟨⟨k + 1, Z', z', _, by omega, by go_num, rfl, HL6.out, HO6.out, HB6.out, HX6.out, HN6.out⟩, by simp [intOf]; omega⟩
        · obtain rfl : k = K := by omega
          go_wp2_with fail
          exact ⟨⟨i + 1, Z, z, m', by omega, by go_num, rfl, by rw [HNX.out]; exact HM'.out, by rw [HNX.out]; exact HOW.out, HBR.out⟩, by simp [intOf]; omega⟩
    · obtain rfl : i = n := by omega
      have HT : Hid (r.take i = r) := Lib.hid (by rw [HN.out]; exact List.take_length)
      go_wp2_with fail
      go_ret
      exact ⟨_, rfl, by have := HO.out; rw [HT.out] at this; have h2 := HM.out; rw [HT.out] at h2; rw [h2] at this ⊢; exact this, HBR.out⟩
end Go.Proofs.YtgeiemccjionpaaGreat.Chn

/- PWith -/
namespace Go.Proofs.YtgeiemccjionpaaGreat.Vlt
open Go.RowKit Go.Sort
open Dsk

theorem lfCells_take (l : List Lf) (k : Nat) : lfCells (l.take k) = (lfCells l).take (k * 2) := by
  induction l generalizing k with
  | nil => simp [lfCells]
  | cons a l ih =>
    cases k with
    | zero => simp [lfCells]
    | succ k =>
      have e : lfCells (a :: l) = .int .i64 a.no :: .string (strB a.data) :: lfCells l := by simp [lfCells]
      have e2 : lfCells (a :: l.take k) = .int .i64 a.no :: .string (strB a.data) :: lfCells (l.take k) := by simp [lfCells]
      rw [List.take_succ_cons, e, e2, ih, show (k + 1) * 2 = k * 2 + 1 + 1 by omega, List.take_succ_cons, List.take_succ_cons]
theorem lfCells_drop (l : List Lf) (k : Nat) : lfCells (l.drop k) = (lfCells l).drop (k * 2) := by
  induction l generalizing k with
  | nil => simp [lfCells]
  | cons a l ih =>
    cases k with
    | zero => simp
    | succ k =>
      have e : lfCells (a :: l) = .int .i64 a.no :: .string (strB a.data) :: lfCells l := by simp [lfCells]
      rw [List.drop_succ_cons, e, ih, show (k + 1) * 2 = k * 2 + 1 + 1 by omega, List.drop_succ_cons, List.drop_succ_cons]
theorem isLfs_none (w : World) (A : Option Addr) (c : Nat) : IsLfs w (.slice A 0 c) [] := ⟨A, c, rfl, Nat.zero_le _, rfl, fun h => absurd h (by simp)⟩

theorem slice_to {w : World} {A : Option Addr} {n c : Nat} {l : List Lf} (h : IsLfs w (.slice A n c) l) (hn : n = l.length) {k : Nat} (hk : k ≤ n) :
    ∃ A1 c1, (∀ W, (Instr.slice 30 (.slice A n c) none (some (.int .i64 (k : Nat))) none).run Tryz.prog W = .ok (.slice A1 k c1) W) ∧ IsLfs w (.slice A1 k c1) (l.take k) := by
  obtain ⟨A', c', e, hc, hr⟩ := h
  injection e with e1 e2 e3
  subst e1 e3
  refine ⟨if c = 0 then A else A.map (·.add (0 * 2)), c, fun W => ?_, ?_⟩
  · obtain ⟨i1, hi0, hz0, hz1, hz2⟩ := info_parts info48
    have he : Tryz.prog.elem 30 = 98 := by simp [Program.elem, Tryz.underlying30]
    have ht : Tryz.prog.underlying 30 = some (.slice (Tryz.prog.elem 30)) := by rw [he]; exact Tryz.underlying30
    have hz : (Go.sizeOf 98).run Tryz.prog W = .ok 2 W := by simp [Go.sizeOf, typeInfo, hi0, hz1]
    rw [run_slice_h (P := Tryz.prog) W 30 A n c ht .i64 k (by omega) (by omega), he, hz]
    simp [sliced, Result.andThen]
  · by_cases h0 : k = 0
    · subst h0
      exact isLfs_none _ _ _
    · rw [if_neg (by omega)]
      obtain ⟨b, off, cur, fr, rfl, hb, hcl⟩ := hr.2 (by omega)
      refine ⟨some ⟨b, off + 0 * 2, none⟩, c, ?_, ?_, ?_, fun _ => ⟨b, off + 0 * 2, cur, fr, rfl, hb, fun j u hj => ?_⟩⟩
      · rw [List.length_take, Nat.min_eq_left (by omega), Option.map_some, Addr.add_lit]
      · rw [List.length_take]; omega
      · rw [lfCells_length]
      · rw [lfCells_take, List.getElem?_take] at hj
        split at hj
        · exact hcl j u hj
        · cases hj

theorem slice_from {w : World} {A : Option Addr} {n c : Nat} {l : List Lf} (h : IsLfs w (.slice A n c) l) (hn : n = l.length) {k : Nat} (hk : k ≤ n) :
    ∃ A1 c1, (∀ W, (Instr.slice 30 (.slice A n c) (some (.int .i64 (k : Nat))) none none).run Tryz.prog W = .ok (.slice A1 (n - k) c1) W) ∧ IsLfs w (.slice A1 (n - k) c1) (l.drop k) := by
  obtain ⟨A', c', e, hc, hr⟩ := h
  injection e with e1 e2 e3
  subst e1 e3
  refine ⟨if c = k then A else A.map (·.add (k * 2)), c - k, fun W => ?_, ?_⟩
  · obtain ⟨i1, hi0, hz0, hz1, hz2⟩ := info_parts info48
    have he : Tryz.prog.elem 30 = 98 := by simp [Program.elem, Tryz.underlying30]
    have ht : Tryz.prog.underlying 30 = some (.slice (Tryz.prog.elem 30)) := by rw [he]; exact Tryz.underlying30
    have hz : (Go.sizeOf 98).run Tryz.prog W = .ok 2 W := by simp [Go.sizeOf, typeInfo, hi0, hz1]
    rw [run_slice_l (P := Tryz.prog) W 30 A n c ht .i64 k (by omega) (by omega), he, hz]
    simp [sliced, Result.andThen]
  · by_cases h0 : k = n
    · have : l.drop k = [] := List.drop_of_length_le (by omega)
      rw [this, show n - k = 0 by omega]
      exact isLfs_none _ _ _
    · rw [if_neg (by omega)]
      obtain ⟨b, off, cur, fr, rfl, hb, hcl⟩ := hr.2 (by omega)
      refine ⟨some ⟨b, off + k * 2, none⟩, c - k, ?_, ?_, ?_, fun _ => ⟨b, off + k * 2, cur, fr, rfl, hb, fun j u hj => ?_⟩⟩
      · rw [List.length_drop, hn, Option.map_some, Addr.add_lit]
      · rw [List.length_drop]; omega
      · rw [lfCells_length]
      · rw [lfCells_drop, List.getElem?_drop] at hj
        have := hcl (k * 2 + j) u hj
        rw [← this]
        congr 1
        omega

/-- insL by places. -/
theorem ins_pos {p : Lf} {l : List Lf} (hR : RiseL l) : posL l p.no ≤ l.length ∧ (isL l p.no = true → posL l p.no < l.length) ∧
    insL p l = l.take (posL l p.no) ++ ([p] ++ (if isL l p.no = true then l.drop (posL l p.no + 1) else l.drop (posL l p.no))) := by
  obtain ⟨k, hk⟩ : ∃ k, k = posL l p.no := ⟨_, rfl⟩
  have hle : k ≤ l.length := by rw [hk]; unfold posL; exact List.IsPrefix.length_le (List.takeWhile_prefix _)
  have e1 : l.takeWhile (fun q => decide (q.no < p.no)) = l.take k := by
    have := List.takeWhile_prefix (fun q => decide (q.no < p.no)) (l := l)
    rw [List.prefix_iff_eq_take] at this
    rw [hk]; exact this
  have e2 : l.dropWhile (fun q => decide (q.no < p.no)) = l.drop k := by
    have h1 := List.takeWhile_append_dropWhile (p := fun q => decide (q.no < p.no)) (l := l)
    have h2 := List.take_append_drop k l
    rw [e1] at h1
    exact List.append_cancel_left (h1.trans h2.symm)
  rw [← hk]
  have hge := drop_ge (p := p) hR
  rw [e2] at hge
  have hcase : ∀ o, l[k]? = some o → l.drop k = o :: l.drop (k + 1) := fun o ho => by
    obtain ⟨h, e⟩ := List.getElem?_eq_some_iff.1 ho
    rw [List.drop_eq_getElem_cons h, e]
  have hrest : ∀ o, l[k]? = some o → ∀ q ∈ l.drop (k + 1), p.no < q.no := by
    intro o ho q hq
    have h1 : p.no ≤ o.no := hge o (by rw [hcase o ho]; simp)
    obtain ⟨j, hj, e⟩ := List.getElem_of_mem hq
    rw [List.getElem_drop] at e
    rw [List.length_drop] at hj
    have := rise_at hR (show k < k + 1 + j by omega) ho (by rw [List.getElem?_eq_getElem (by omega), e])
    omega
  have hfil : ∀ o, l[k]? = some o → (l.drop (k + 1)).filter (fun q => decide (q.no ≠ p.no)) = l.drop (k + 1) := fun o ho => by
    rw [List.filter_eq_self]
    intro q hq
    have := hrest o ho q hq
    simp
    omega
  refine ⟨hle, ?_, ?_⟩
  · unfold isL
    rw [← hk]
    intro h
    cases ho : l[k]? with
    | none => rw [ho] at h; cases h
    | some o => exact (List.getElem?_eq_some_iff.1 ho).1
  · unfold insL
    rw [e1, e2]
    unfold isL
    rw [← hk]
    cases ho : l[k]? with
    | none =>
      have : l.drop k = [] := List.drop_of_length_le (by rw [List.getElem?_eq_none_iff] at ho; omega)
      simp [this]
    | some o =>
      dsimp only
      have h1 : p.no ≤ o.no := hge o (by rw [hcase o ho]; simp)
      by_cases he : o.no = p.no
      · rw [hcase o ho, List.filter_cons_of_neg (by simp [he]), hfil o ho, if_pos (by simp [he])]
        simp
      · rw [hcase o ho, List.filter_cons_of_pos (by simp [he]), hfil o ho, if_neg (by simp [he])]
        simp

theorem concat3 (X : World) (va vb : Value) (la lb : List Lf) (no : Int) (D : List UInt8) (ha : IsLfs X va la) (hb : IsLfs X vb lb) (hl : la.length + lb.length ≤ 9000) :
    Calls Tryz.prog 91 #[.slice (some ⟨X.heap.size + 1, 0, none⟩) 3 3] ((X.alloc (.cells #[.int .i64 no, .string (strB D)] 98)).alloc (.cells #[va, .slice (some ⟨X.heap.size, 0, none⟩) 1 1, vb] 30)) fun e w' => ∃ v', e = .returned v' ∧ IsLfs w' v' (la ++ ([⟨no, D⟩] ++ lb)) ∧ Below X.heap.size X w' := by
  obtain ⟨W1, hW1⟩ : ∃ W1, W1 = X.alloc (.cells #[.int .i64 no, .string (strB D)] 98) := ⟨_, rfl⟩
  obtain ⟨W2, hW2⟩ : ∃ W2, W2 = W1.alloc (.cells #[va, .slice (some ⟨X.heap.size, 0, none⟩) 1 1, vb] 30) := ⟨_, rfl⟩
  have hs1 : W1.heap.size = X.heap.size + 1 := by rw [hW1]; simp
  have b1 : Below X.heap.size X W1 := by rw [hW1]; exact below_one _ _
  have b2 : Below W1.heap.size W1 W2 := by rw [hW2]; exact below_one _ _
  have hbox : W1.heap[X.heap.size]? = some (.cells #[.int .i64 no, .string (strB D)] 98 (0, 0)) := by rw [hW1]; exact heap_alloc_new X _
  have hrow : W2.heap[X.heap.size + 1]? = some (.cells #[va, .slice (some ⟨X.heap.size, 0, none⟩) 1 1, vb] 30 (0, 0)) := by
    have := heap_alloc_new W1 (.cells #[va, .slice (some ⟨X.heap.size, 0, none⟩) 1 1, vb] 30)
    rw [← hW2, hs1] at this
    exact this
  rw [← hW1, ← hW2]
  have hbox2 := box_kept _ hbox b2
  have h2 : IsLfs W2 (.slice (some ⟨X.heap.size, 0, none⟩) 1 1) [⟨no, D⟩] := by
    refine ⟨some ⟨X.heap.size, 0, none⟩, 1, rfl, Nat.le_refl _, rfl, fun _ => ⟨X.heap.size, 0, _, _, rfl, hbox2, fun j u hj => ?_⟩⟩
    rw [lfCells_one] at hj
    rw [Nat.zero_add]
    simpa using hj
  refine (concat_calls (X.heap.size + 1) [va, .slice (some ⟨X.heap.size, 0, none⟩) 1 1, vb] [la, [⟨no, D⟩], lb] 3 3 W2 (Array.getElem?_eq_some_iff.1 hrow).1 rfl rfl (by omega) (fun i v hi => ?_) (fun i v l hi hl => ?_) (by simp; omega) (by simp; omega)).mono ?_
  · rw [cell_of_row _ _ _ _ _ _ hrow]
    simpa using hi
  · match i, hi, hl with
    | 0, hi, hl => simp at hi hl; subst hi hl; exact (ha.below b1).below b2
    | 1, hi, hl => simp at hi hl; subst hi hl; exact h2
    | 2, hi, hl => simp at hi hl; subst hi hl; exact (hb.below b1).below b2
    | k + 3, hi, hl => simp at hi
  · rintro e w' ⟨v', rfl, ho, hB⟩
    exact ⟨v', rfl, by simpa using ho.isLfs, Dsk.below_trans' (Dsk.below_trans' b1 b2) hB⟩

theorem concat3d (X : World) (va vb : Value) (la lb : List Lf) (no : Int) (D : List UInt8) (ha : IsLfs X va la) (hb : IsLfs X vb lb) (hl : la.length + lb.length ≤ 9000) :
    Calls Tryz.prog 91 #[.slice (some ⟨X.heap.size + 1, 0, none⟩) 3 3] ((X.alloc (.cells #[.int .i64 no, .string (strB D)] 98)).alloc (.cells #[va, .slice (some ⟨X.heap.size, 0, none⟩) 1 1, vb] 30)).drew fun e w' => ∃ v', e = .returned v' ∧ IsLfs w' v' (la ++ ([⟨no, D⟩] ++ lb)) ∧ Below X.heap.size X w' := by
  obtain ⟨W1, hW1⟩ : ∃ W1, W1 = X.alloc (.cells #[.int .i64 no, .string (strB D)] 98) := ⟨_, rfl⟩
  obtain ⟨W2, hW2⟩ : ∃ W2, W2 = W1.alloc (.cells #[va, .slice (some ⟨X.heap.size, 0, none⟩) 1 1, vb] 30) := ⟨_, rfl⟩
  have hs1 : W1.heap.size = X.heap.size + 1 := by rw [hW1]; simp
  have b1 : Below X.heap.size X W1 := by rw [hW1]; exact below_one _ _
  have b2 : Below W1.heap.size W1 W2 := by rw [hW2]; exact below_one _ _
  have hbox : W1.heap[X.heap.size]? = some (.cells #[.int .i64 no, .string (strB D)] 98 (0, 0)) := by rw [hW1]; exact heap_alloc_new X _
  have hrow : W2.heap[X.heap.size + 1]? = some (.cells #[va, .slice (some ⟨X.heap.size, 0, none⟩) 1 1, vb] 30 (0, 0)) := by
    have := heap_alloc_new W1 (.cells #[va, .slice (some ⟨X.heap.size, 0, none⟩) 1 1, vb] 30)
    rw [← hW2, hs1] at this
    exact this
  rw [← hW1, ← hW2]
  have hbox2 := box_kept _ hbox b2
  have h2 : IsLfs W2 (.slice (some ⟨X.heap.size, 0, none⟩) 1 1) [⟨no, D⟩] := by
    refine ⟨some ⟨X.heap.size, 0, none⟩, 1, rfl, Nat.le_refl _, rfl, fun _ => ⟨X.heap.size, 0, _, _, rfl, hbox2, fun j u hj => ?_⟩⟩
    rw [lfCells_one] at hj
    rw [Nat.zero_add]
    simpa using hj
  refine (concat_calls (X.heap.size + 1) [va, .slice (some ⟨X.heap.size, 0, none⟩) 1 1, vb] [la, [⟨no, D⟩], lb] 3 3 W2.drew (Array.getElem?_eq_some_iff.1 hrow).1 rfl rfl (by omega) (fun i v hi => ?_) (fun i v l hi hl => ?_) (by simp; omega) (by simp; omega)).mono ?_
  · change W2.cell? _ = _
    rw [cell_of_row _ _ _ _ _ _ hrow]
    simpa using hi
  · match i, hi, hl with
    | 0, hi, hl => simp at hi hl; subst hi hl; exact ((ha.below b1).below b2).below (Below.refl _ _).drew
    | 1, hi, hl => simp at hi hl; subst hi hl; exact h2.below (Below.refl _ _).drew
    | 2, hi, hl => simp at hi hl; subst hi hl; exact ((hb.below b1).below b2).below (Below.refl _ _).drew
    | k + 3, hi, hl => simp at hi
  · rintro e w' ⟨v', rfl, ho, hB⟩
    exact ⟨v', rfl, by simpa using ho.isLfs, Dsk.below_trans' (Dsk.below_trans' (Dsk.below_trans' b1 b2) (Below.refl _ _).drew) hB⟩

theorem lcells {W : World} {g : Nat} {no : Int} {D : List UInt8} (h : Ent.LBox W g no D) : W.cell? ⟨g, 0, none⟩ = some (.int .i64 no) ∧ W.cell? ⟨g, 1, none⟩ = some (.string (strB D)) := ⟨h.c0, h.c1⟩

set_option maxRecDepth 100000 in
set_option maxHeartbeats 4000000 in
theorem with_calls (v : Value) (l : List Lf) (no : Int) (D : List UInt8) (w : World) (h : IsLfs w v l) (hR : RiseL l) (hn : l.length ≤ 1000) :
    Calls Tryz.prog 68 #[v, .agg #[.int .i64 no, .string (strB D)]] w fun e w' => ∃ v', e = .returned v' ∧ IsLfs w' v' (insL ⟨no, D⟩ l) ∧ Below w.heap.size w w' := by
  obtain ⟨A, n, c, rfl, hnl, _, hr⟩ := h.open_
  obtain ⟨hp1, hp2, hp3⟩ := ins_pos (p := ⟨no, D⟩) hR
  dsimp only at hp1 hp2 hp3
  have hfc := find_calls A n c l no
  obtain ⟨k, hk⟩ : ∃ k, k = posL l no := ⟨_, rfl⟩
  obtain ⟨is, his⟩ : ∃ b, b = isL l no := ⟨_, rfl⟩
  rw [← hk] at hp1 hp2 hp3 hfc
  rw [← his] at hp2 hp3 hfc
  obtain ⟨A1, c1, hs1, hi1⟩ := slice_to h hnl (k := k) (by omega)
  obtain ⟨A2, c2, hs2, hi2⟩ := slice_from h hnl (k := k) (by omega)
  obtain ⟨Y, hY⟩ : ∃ Y, Y = w.alloc (.cells #[.int .i64 no, .string (strB D)] 98) := ⟨_, rfl⟩
  have hB : Below w.heap.size w Y := by rw [hY]; exact below_one _ _
  have hlb : Ent.LBox Y w.heap.size no D := by rw [hY]; exact Ent.LBox.new _ _ _
  have HF := Lib.hid (hfc Y (by
    obtain ⟨_, _, e, _, hr'⟩ := h.below hB
    injection e with e1 e2 e3
    subst e1 e3
    rw [hnl]; exact hr') hnl hR (by omega))
  have HB := Lib.hid hB
  have HLB := Lib.hid hlb
  have HY := Lib.hid hY
  have HI1 := Lib.hid (hi1.below hB)
  have HI2 := Lib.hid (hi2.below hB)
  have HP := Lib.hid hp3
  have HK := Lib.hid hp1
  have HNL := Lib.hid hnl
  have y0 := hlb.c0
  -- what the last region does, whatever stands behind
  clear hk his hY hB hlb hi1 hi2 hfc hR hr hp3 hnl
  cases his : is with
  | true =>
    rw [his] at HF HP
    rw [if_pos rfl] at HP
    have hlt := hp2 his
    obtain ⟨A3, c3, hs3, hi3⟩ := slice_from HI2.out (by rw [List.length_drop, HNL.out]) (k := 1) (by have := HNL.out; omega)
    rw [List.drop_drop] at hi3
    rw [show ((1 : Nat) : Int) = 1 from rfl] at hs3
    have HI3 := Lib.hid hi3
    clear hp2 his hlt hi3
    go_enter Tryz.func68, Tryz.ntmps68
    go_upto_region 1 with (fail)
    rw [← HY.out]
    clear HY
    go_wp2_with fail
    (with_reducible refine HF.out.mono ?_)
    rintro e w1 ⟨rfl, hB1⟩
    have HB1 := Lib.hid hB1
    have z0 := (HLB.out.below hB1).c0
    have z1 := (HLB.out.below hB1).c1
    have CC := Lib.hid (concat3 w1.drew (.slice A1 k c1) (.slice A3 (n - k - 1) c3) (l.take k) (l.drop (k + 1)) no D (HI1.out.below hB1.drew) (HI3.out.below hB1.drew) (by simp; omega))
    have CD := Lib.hid (concat3d w1 (.slice A1 k c1) (.slice A3 (n - k - 1) c3) (l.take k) (l.drop (k + 1)) no D (HI1.out.below hB1) (HI3.out.below hB1) (by simp; omega))
    have HLW := Lib.hid (HLB.out.below HB1.out)
    have HLX := Lib.hid (HLB.out.below HB1.out.drew)
    have HB3 : Hid (Below w.heap.size w w1) := Lib.hid (Dsk.below_trans' HB.out HB1.out)
    have HB2 : Hid (Below w.heap.size w w1.drew) := Lib.hid (Dsk.below_trans' HB.out hB1.drew)
    clear y0 hB1
    go_wp2_with fail
    go_region_held3 (fun W => W.cell? ⟨w.heap.size, 0, none⟩ = some (.int .i64 no) ∧ W.cell? ⟨w.heap.size, 1, none⟩ = some (.string (strB D))) (first | exact lcells HLW.out | exact lcells HLX.out | exact lcells (HLX.out.below (below_one _ _)) | exact lcells ((HLX.out.below (below_one _ _)).below (below_one _ _)) | exact lcells (HLW.out.below (below_one _ _)) | exact lcells ((HLW.out.below (below_one _ _)).below (below_one _ _)) | exact lcells HL2.out) (first | (go_at_call 91; (with_reducible refine CC.out.mono ?_); rintro e w2 ⟨v', rfl, hv', hB3⟩; have HL2 := Lib.hid (HLX.out.below hB3); have HB4 := Lib.hid (Dsk.below_trans' HB2.out hB3)) | (go_at_call 91; (with_reducible refine CD.out.mono ?_); rintro e w2 ⟨v', rfl, hv', hB3⟩; have HL2 := Lib.hid (HLW.out.below hB3); have HB4 := Lib.hid (Dsk.below_trans' HB3.out hB3)))
    all_goals
      (rename_i hheld; clear hheld)
      go_wp2_with fail
      go_ret
      exact ⟨_, rfl, by rw [HP.out]; exact hv', HB4.out⟩
  | false =>
    rw [his] at HF HP
    rw [if_neg (by simp)] at HP
    clear hp2 his
    go_enter Tryz.func68, Tryz.ntmps68
    go_upto_region 1 with (fail)
    rw [← HY.out]
    clear HY
    go_wp2_with fail
    (with_reducible refine HF.out.mono ?_)
    rintro e w1 ⟨rfl, hB1⟩
    have HB1 := Lib.hid hB1
    have z0 := (HLB.out.below hB1).c0
    have z1 := (HLB.out.below hB1).c1
    have CC := Lib.hid (concat3 w1.drew (.slice A1 k c1) (.slice A2 (n - k) c2) (l.take k) (l.drop k) no D (HI1.out.below hB1.drew) (HI2.out.below hB1.drew) (by simp; omega))
    have CD := Lib.hid (concat3d w1 (.slice A1 k c1) (.slice A2 (n - k) c2) (l.take k) (l.drop k) no D (HI1.out.below hB1) (HI2.out.below hB1) (by simp; omega))
    have HLW := Lib.hid (HLB.out.below HB1.out)
    have HLX := Lib.hid (HLB.out.below HB1.out.drew)
    have HB3 : Hid (Below w.heap.size w w1) := Lib.hid (Dsk.below_trans' HB.out HB1.out)
    have HB2 : Hid (Below w.heap.size w w1.drew) := Lib.hid (Dsk.below_trans' HB.out hB1.drew)
    clear y0 hB1
    go_wp2_with fail
    go_region_held3 (fun W => W.cell? ⟨w.heap.size, 0, none⟩ = some (.int .i64 no) ∧ W.cell? ⟨w.heap.size, 1, none⟩ = some (.string (strB D))) (first | exact lcells HLW.out | exact lcells HLX.out | exact lcells (HLX.out.below (below_one _ _)) | exact lcells ((HLX.out.below (below_one _ _)).below (below_one _ _)) | exact lcells (HLW.out.below (below_one _ _)) | exact lcells ((HLW.out.below (below_one _ _)).below (below_one _ _)) | exact lcells HL2.out) (first | (go_at_call 91; (with_reducible refine CC.out.mono ?_); rintro e w2 ⟨v', rfl, hv', hB3⟩; have HL2 := Lib.hid (HLX.out.below hB3); have HB4 := Lib.hid (Dsk.below_trans' HB2.out hB3)) | (go_at_call 91; (with_reducible refine CD.out.mono ?_); rintro e w2 ⟨v', rfl, hv', hB3⟩; have HL2 := Lib.hid (HLW.out.below hB3); have HB4 := Lib.hid (Dsk.below_trans' HB3.out hB3)))
    all_goals
      (rename_i hheld; clear hheld)
      go_wp2_with fail
      go_ret
      exact ⟨_, rfl, by rw [HP.out]; exact hv', HB4.out⟩

end Go.Proofs.YtgeiemccjionpaaGreat.Vlt

/- PRead -/
namespace Go.Proofs.YtgeiemccjionpaaGreat.Vlt
open Go.RowKit Go.Sort
open Dsk
open Ent (homeB homeV)

theorem pos_low {no : Int} : ∀ {l : List Lf} {q : Nat} {x : Lf}, q < posL l no → l[q]? = some x → x.no < no
  | [], q, x, _, hx => by cases hx
  | y :: l, q, x, hq, hx => by
    unfold posL at hq
    by_cases h : y.no < no
    · rw [List.takeWhile_cons_of_pos (by simpa using h)] at hq
      cases q with
      | zero => simp at hx; rw [← hx]; exact h
      | succ q => exact pos_low (l := l) (q := q) (by unfold posL; simpa using hq) (by simpa using hx)
    · rw [List.takeWhile_cons_of_neg (by simpa using h)] at hq
      exact absurd hq (by simp)

theorem is_hit {l : List Lf} {no : Int} (h : isL l no = true) : ∃ o, l[posL l no]? = some o ∧ findL l no = some o ∧ posL l no < l.length := by
  unfold isL at h
  cases ho : l[posL l no]? with
  | none => rw [ho] at h; cases h
  | some o =>
    rw [ho] at h
    have hno : o.no = no := by simpa using h
    refine ⟨o, rfl, find_hitL (i := posL l no) (fun q x hq hx => ?_) ho hno, (List.getElem?_eq_some_iff.1 ho).1⟩
    have := pos_low hq hx
    omega
theorem is_miss {l : List Lf} {no : Int} (hR : RiseL l) (h : isL l no = false) : findL l no = none := by
  refine find_missL fun q x hx => ?_
  obtain ⟨h1, _, _⟩ := ins_pos (p := ⟨no, []⟩) hR
  dsimp only at h1
  by_cases hq : q < posL l no
  · have := pos_low hq hx
    omega
  · unfold isL at h
    cases ho : l[posL l no]? with
    | none =>
      have := (List.getElem?_eq_some_iff.1 hx).1
      rw [List.getElem?_eq_none_iff] at ho
      omega
    | some o =>
      rw [ho] at h
      have hne : o.no ≠ no := by simpa using h
      have hge : no ≤ o.no := by
        have := drop_ge (p := ⟨no, []⟩) hR o (by
          have e1 : l.dropWhile (fun q => decide (q.no < no)) = l.drop (posL l no) := by
            have a := List.takeWhile_append_dropWhile (p := fun q : Lf => decide (q.no < no)) (l := l)
            have b := List.take_append_drop (posL l no) l
            have hp := List.takeWhile_prefix (fun p : Lf => decide (p.no < no)) (l := l)
            rw [List.prefix_iff_eq_take] at hp
            rw [hp] at a
            exact List.append_cancel_left (a.trans b.symm)
          rw [e1]
          exact List.mem_of_getElem? (i := 0) (by rw [List.getElem?_drop]; exact ho))
        simpa using this
      by_cases he : q = posL l no
      · subst he
        rw [ho] at hx
        injection hx with hx
        rw [← hx]; exact hne
      · have := rise_at hR (show posL l no < q by omega) ho hx
        omega

set_option maxRecDepth 100000 in
set_option maxHeartbeats 16000000 in
theorem read_calls (v : Value) (k : VK) (no : Int) (w : World) (hv : IsVault w v k) (hg : VGood k) (hR : RiseL k.dirty) :
    Calls Tryz.prog 35 #[v, .int .i64 no] w fun e w' => e = .returned (.tuple #[.string (strB (readV k no).1), .int .i64 (readV k no).2]) ∧ Below w.heap.size w w' := by
  obtain ⟨vs, vw, vd, rfl, h1, h2⟩ := hv
  obtain ⟨A, n, c, rfl, hn, _, hr⟩ := h2.open_
  obtain ⟨hok, hri, hin⟩ := hg.ok
  have hdl := hg.dirty
  obtain ⟨Y, hY, b1, hB⟩ : ∃ Y, Y = w.alloc (.cells #[vs, vw, .bool k.disk.dead, .int .i64 k.disk.left, .int .i64 k.shape.pages, .int .i64 k.shape.journal, .int .i64 k.seq, .slice A n c] 32) ∧ VBox Y w.heap.size vs vw (.slice A n c) k ∧ Below w.heap.size w Y := ⟨_, rfl, VBox.new _ _ _ _ _, below_one _ _⟩
  have hre : ∀ W, Below w.heap.size w W → Reads W 98 2 A n (lfCells k.dirty) := fun W hb => by
    obtain ⟨_, _, e, _, hr'⟩ := h2.below hb
    injection e with e1 e2 e3
    subst e1 e3
    rw [hn]; exact hr'
  have HFC := Lib.hid (fun W (hb : Below w.heap.size w W) => find_calls A n c k.dirty no W (hre W hb) hn hR (by omega))
  have HHAS := Lib.hid (fun W => has_calls k.shape no W)
  unfold shV at HHAS
  have HY := Lib.hid hY
  have B1 := Lib.hid b1
  have HB := Lib.hid hB
  have H1 := Lib.hid h1
  have HOK := Lib.hid (And.intro hok hri)
  have HR := Lib.hid hr
  have HN := Lib.hid hn
  have HRI := Lib.hid hR
  obtain ⟨i0, i1, i2, i3, i4, i5, i6, i7⟩ := b1.at_
  clear hY b1 hB h1 h2 hok hri hin hr hn hre hR hdl
  by_cases hH : hasP k no
  rotate_left
  · have E : Hid (readV k no = ([], 1)) := Lib.hid (by unfold readV; rw [if_pos hH])
    have hb : (decide (0 ≤ no) && decide (no < k.shape.pages)) = false := by
      unfold hasP at hH
      simp only [Bool.and_eq_false_iff, decide_eq_false_iff_not]
      omega
    rw [hb] at HHAS
    clear hH hb
    go_enter Tryz.func35, Tryz.ntmps35
    go_upto_region 1 with (fail)
    rw [← HY.out]
    clear HY
    go_wp2_with fail
    (with_reducible refine (HHAS.out _).mono ?_)
    rintro e w1 ⟨rfl, hB1⟩
    go_wp2_with fail
    exact bodyPost_ret (v := .tuple #[.string ⟨#[]⟩, .int .i64 1]) (by simp [results, Tryz.results35, go_sem]) rfl ⟨read_end E.out, Dsk.below_trans' HB.out hB1⟩
  have hb : (decide (0 ≤ no) && decide (no < k.shape.pages)) = true := by
    obtain ⟨a, b⟩ := hH
    simp [a, b]
  rw [hb] at HHAS
  rcases Bool.eq_false_or_eq_true k.disk.dead with hd | hd
  · have E : Hid (readV k no = ([], 12)) := Lib.hid (by unfold readV; rw [if_neg (by simp [hH]), if_pos hd])
    rw [hd] at HY
    have HD := Lib.hid hd
    clear hH hb hd i0 i1 i2 i3 i4 i5 i6 i7
    obtain ⟨i0, i1, i2, i3, i4, i5, i6, i7⟩ := B1.out.at_
    rw [HD.out] at i2 ⊢
    go_enter Tryz.func35, Tryz.ntmps35
    go_upto_region 1 with (fail)
    rw [← HY.out]
    clear HY
    go_wp2_with fail
    (with_reducible refine (HHAS.out _).mono ?_)
    rintro e w1 ⟨rfl, hB1⟩
    have q1 := (B1.out.below hB1).at_.c2
    rw [HD.out] at q1
    go_wp2_with fail
    exact bodyPost_ret (v := .tuple #[.string ⟨#[]⟩, .int .i64 12]) (by simp [results, Tryz.results35, go_sem]) rfl ⟨read_end E.out, Dsk.below_trans' HB.out hB1⟩
  have HHit : Hid (∀ o, findL k.dirty no = some o → readV k no = (o.data, 0)) := Lib.hid (fun o ho => by unfold readV; rw [if_neg (by simp [hH]), if_neg (by simp [hd]), ho])
  have HMiss : Hid (findL k.dirty no = none → readV k no = if rdE k.disk (placeN k.shape no) ≠ 0 then ([], rdE k.disk (placeN k.shape no)) else
      if homeB (rdS k.disk (placeN k.shape no)).data.toList no = true then (homeV (rdS k.disk (placeN k.shape no)).data.toList no, 0) else ([], 2)) := Lib.hid (fun ho => by unfold readV; rw [if_neg (by simp [hH]), if_neg (by simp [hd]), ho])
  have HD := Lib.hid hd
  clear hH hd hg hb i0 i1 i2 i3 i4 i5 i6 i7
  obtain ⟨i0, i1, i2, i3, i4, i5, i6, i7⟩ := B1.out.at_
  rw [HD.out] at i2 HY ⊢
  obtain ⟨pos, hpos⟩ : ∃ p, p = posL k.dirty no := ⟨_, rfl⟩
  obtain ⟨is, his⟩ : ∃ b, b = isL k.dirty no := ⟨_, rfl⟩
  rw [← hpos, ← his] at HFC
  have HPOS := Lib.hid hpos
  have HIS := Lib.hid his
  clear hpos his
  cases hib : is with
  | true =>
    rw [hib] at HFC HIS
    obtain ⟨o, ho, hfo, hlt⟩ := is_hit HIS.out.symm
    rw [← HPOS.out] at ho hlt
    have E := Lib.hid (HHit.out o hfo)
    have hi1 : (0 : Int) ≤ (pos : Int) := by omega
    have hi2 : (pos : Int) < (n : Int) := by have := HN.out; omega
    have HO := Lib.hid ho
    have HN0 : Hid (0 < n) := Lib.hid (by omega)
    clear hib hfo ho hlt HMiss HHit
    go_enter Tryz.func35, Tryz.ntmps35
    go_upto_region 1 with (fail)
    rw [← HY.out]
    clear HY
    go_wp2_with fail
    (with_reducible refine (HHAS.out _).mono ?_)
    rintro e w1 ⟨rfl, hB1⟩
    have q2 := (B1.out.below hB1).at_.c2
    have q7 := (B1.out.below hB1).at_.c7
    rw [HD.out] at q2
    have HB1 := Lib.hid hB1
    clear hB1 i0 i1 i2 i3 i4 i5 i6 i7
    go_wp2_with fail
    (with_reducible refine (HFC.out _ (Dsk.below_trans' HB.out HB1.out)).mono ?_)
    rintro e w2 ⟨rfl, hB2⟩
    have HB2 := Lib.hid (Dsk.below_trans' HB1.out hB2)
    clear hB2 q2 q7
    have q7 := (B1.out.below HB2.out).at_.c7
    obtain ⟨b, off, rfl, x0, x1⟩ := lf_at HR.out (Dsk.below_trans' HB.out HB2.out) HO.out HN0.out
    go_wp2_with fail
    exact bodyPost_ret (v := .tuple #[.string (strB o.data), .int .i64 0]) (by simp [results, Tryz.results35, go_sem]) rfl ⟨read_end E.out, Dsk.below_trans' HB.out HB2.out⟩
  | false =>
    rw [hib] at HFC HIS
    have E := Lib.hid (HMiss.out (is_miss HRI.out HIS.out.symm))
    clear hib HMiss HHit
    go_enter Tryz.func35, Tryz.ntmps35
    go_upto_region 1 with (fail)
    rw [← HY.out]
    clear HY
    go_wp2_with fail
    (with_reducible refine (HHAS.out _).mono ?_)
    rintro e w1 ⟨rfl, hB1⟩
    have q2 := (B1.out.below hB1).at_.c2
    have q7 := (B1.out.below hB1).at_.c7
    rw [HD.out] at q2
    have HB1 := Lib.hid hB1
    clear hB1 i0 i1 i2 i3 i4 i5 i6 i7
    go_wp2_with fail
    (with_reducible refine (HFC.out _ (Dsk.below_trans' HB.out HB1.out)).mono ?_)
    rintro e wr ⟨rfl, hB2⟩
    have HBR := Lib.hid (Dsk.below_trans' HB1.out hB2)
    clear hB2 q2 q7
    have q := fun d os => Dsk.below_trans' HBR.out (below_regrown wr d os)
    have i0 := fun d os => ((B1.out.below (q d os)).at_).c0
    have i1 := fun d os => ((B1.out.below (q d os)).at_).c1
    have i2 := fun d os => ((B1.out.below (q d os)).at_).c2
    have i3 := fun d os => ((B1.out.below (q d os)).at_).c3
    have i4 := fun d os => ((B1.out.below (q d os)).at_).c4
    have i5 := fun d os => ((B1.out.below (q d os)).at_).c5
    rw [HD.out] at i2
    obtain ⟨PL, hPL⟩ : ∃ p, p = placeN k.shape no := ⟨_, rfl⟩
    have D1 := rg (place_calls k.shape no) wr
    unfold shV at D1
    rw [← hPL] at D1 E
    have D2 := fun d os => Calls.regrown_of (Dsk.read_calls _ k.disk PL (grow (redrawn wr d) os) (H1.out.below (Dsk.below_trans' HB.out (q d os))) HOK.out.1)
    rw [HD.out] at D2
    have D1 := Lib.hid D1
    have D2 := Lib.hid D2
    clear q hPL
    go_wp2_with fail
    refine wp_region_quiet_below (by kernel_rfl) (by kernel_rfl) ?_
    (try simp only [List.append_eq, List.cons_append, List.nil_append])
    repeat (first | go_big_quiet_step (first | (with_reducible exact D1.out _ _) | (with_reducible exact D2.out _ _)))
    refine wpQuiet_nil ?_
    intro _ hw'
    obtain ⟨⟨dq, osq⟩, hw''⟩ := hw'
    subst hw''
    have HB2 := Lib.hid (Dsk.below_trans' (Dsk.below_trans' HB.out HBR.out) (below_regrown wr dq osq))
    generalize grow (redrawn wr dq) osq = W1 at *
    clear i0 i1 i2 i3 i4 i5 D1 D2
    by_cases he : rdE k.disk PL = 0
    · rw [if_neg (by omega)] at E
      rw [he]
      obtain ⟨S, hS⟩ : ∃ S, S = (rdS k.disk PL).data.toList := ⟨_, rfl⟩
      have hS2 : rdS k.disk PL = strB S := by rw [hS, strB_of]
      rw [← hS] at E
      rw [hS2]
      clear hS hS2
      go_wp2_with fail
      (with_reducible refine (Ent.home_calls S no _).mono ?_)
      rintro e w3 ⟨rfl, hB3⟩
      rcases Bool.eq_false_or_eq_true (homeB S no) with hb | hb
      · rw [hb, if_pos rfl] at E
        rw [hb]
        go_wp2_with fail
        exact bodyPost_ret (v := .tuple #[.string (strB (homeV S no)), .int .i64 0]) (by simp [results, Tryz.results35, go_sem]) rfl ⟨read_end E.out, Dsk.below_trans' HB2.out hB3⟩
      · rw [hb, if_neg (by simp)] at E
        rw [hb]
        go_wp2_with fail
        exact bodyPost_ret (v := .tuple #[.string ⟨#[]⟩, .int .i64 2]) (by simp [results, Tryz.results35, go_sem]) rfl ⟨read_end E.out, Dsk.below_trans' HB2.out hB3⟩
    · rw [if_pos he] at E
      obtain ⟨R, hR⟩ : ∃ R, R = rdE k.disk PL := ⟨_, rfl⟩
      rw [← hR] at E he
      rw [← hR]
      have he2 : (R == 0) = false := by simpa using he
      clear hR
      go_wp2_with fail
      exact bodyPost_ret (v := .tuple #[.string ⟨#[]⟩, .int .i64 R]) (by simp [results, Tryz.results35, go_sem]) rfl ⟨read_end E.out, HB2.out⟩

end Go.Proofs.YtgeiemccjionpaaGreat.Vlt

/- PWrite -/
namespace Go.Proofs.YtgeiemccjionpaaGreat.Vlt
open Go.RowKit Go.Sort
open Dsk

set_option maxRecDepth 100000 in
set_option maxHeartbeats 4000000 in
theorem padded_calls (s : List UInt8) (w : World) (hs : s.length ≤ 208) :
    Calls Tryz.prog 69 #[.string (strB s)] w fun e w' => e = .returned (.string (strB (padP s))) ∧ Below w.heap.size w w' := by
  obtain ⟨k, hk⟩ : ∃ k, k = 208 - s.length := ⟨_, rfl⟩
  have hsz := strB_size s
  have hm : (208 : Int) - ((strB s).size : Int) = (k : Nat) := by omega
  have hz0 : (strB s).size + (strB (zer k)).size ≤ 5000 := by rw [strB_size, strB_size]; unfold zer; simp; omega
  have hz : ¬ 9223372036854775807 < (strB s).size + (strB (zer k)).size := fun h => absurd (Nat.lt_of_lt_of_le h hz0) (by decide)
  have HR := Lib.hid (rep_calls k w (by omega))
  have hf := Lib.hid (show strB s ++ strB (zer k) = strB (padP s) by unfold padP; rw [strB_append, hk]; rfl)
  clear hk hs hsz hz0
  go_enter Tryz.func69, Tryz.ntmps69
  go_wp2_with fail
  (with_reducible refine HR.out.mono ?_)
  rintro e w1 ⟨rfl, hB⟩
  go_wp2_with fail
  go_ret
  exact ⟨ret_str hf.out, hB⟩

set_option maxRecDepth 100000 in
set_option maxHeartbeats 16000000 in
theorem pwrite_no (v : Value) (k : VK) (no : Int) (data : List UInt8) (w : World) (hv : IsVault w v k) (E : Int) (hE : (¬ (hasP k no ∧ data.length ≤ 208) ∧ E = 1) ∨ ((hasP k no ∧ data.length ≤ 208) ∧ k.disk.dead = true ∧ E = 12)) :
    Calls Tryz.prog 38 #[v, .int .i64 no, .string (strB data)] w fun e w' => ∃ v', e = .returned (.tuple #[v', .int .i64 E]) ∧ IsVault w' v' k ∧ Below w.heap.size w w' := by
  obtain ⟨vs, vw, vd, rfl, h1, h2⟩ := id hv
  obtain ⟨A1, n1, c1, A2, n2, c2, e1⟩ := h1.parts
  obtain ⟨rfl, rfl⟩ : vs = .slice A1 n1 c1 ∧ vw = .slice A2 n2 c2 := by
    simp only [Value.agg.injEq, Array.mk.injEq, List.cons.injEq] at e1
    exact ⟨e1.1, e1.2.1⟩
  obtain ⟨A, n, c, rfl, hn, _, hr⟩ := h2.open_
  obtain ⟨Y, hY, hB⟩ := WB.new w (.slice A1 n1 c1) (.slice A2 n2 c2) (.slice A n c) k
  have HY := Lib.hid hY
  have HWB := Lib.hid hB
  have HV := Lib.hid hv
  have HHAS := Lib.hid (fun W => has_calls k.shape no W)
  unfold shV at HHAS
  obtain ⟨hb, hbb⟩ : ∃ b, b = (decide (0 ≤ no) && decide (no < k.shape.pages)) := ⟨_, rfl⟩
  rw [← hbb] at HHAS
  have hbi : hb = true ↔ hasP k no := by
    rw [hbb]
    unfold hasP
    simp
  have hsz := strB_size data
  obtain ⟨i0, i1, i2, i3, i4, i5, i6, i7⟩ := hB.a.at_
  clear hY hB hbb h1 h2 hn hr hv e1
  -- what stands behind the check
  have fin : ∀ (W : World) (X : World), WB w W (.slice A1 n1 c1) (.slice A2 n2 c2) (.slice A n c) k →
      (((((((W.setCell ⟨w.heap.size + 1, 0, none⟩ (.slice A1 n1 c1)).setCell ⟨w.heap.size + 1, 1, none⟩ (.slice A2 n2 c2)).setCell ⟨w.heap.size + 1, 2, none⟩ (.bool k.disk.dead)).setCell ⟨w.heap.size + 1, 3, none⟩ (.int .i64 k.disk.left)).setCell ⟨w.heap.size + 1, 4, none⟩ (.int .i64 k.shape.pages)).setCell ⟨w.heap.size + 1, 5, none⟩ (.int .i64 k.shape.journal)).setCell ⟨w.heap.size + 1, 6, none⟩ (.int .i64 k.seq)).setCell ⟨w.heap.size + 1, 7, none⟩ (.slice A n c) = X →
      IsVault X (.agg #[.slice A1 n1 c1, .slice A2 n2 c2, .bool k.disk.dead, .int .i64 k.disk.left, .int .i64 k.shape.pages, .int .i64 k.shape.journal, .int .i64 k.seq, .slice A n c]) k ∧ Below w.heap.size w X ∧
      X.heap[w.heap.size + 1]? = some (.cells #[.slice A1 n1 c1, .slice A2 n2 c2, .bool k.disk.dead, .int .i64 k.disk.left, .int .i64 k.shape.pages, .int .i64 k.shape.journal, .int .i64 k.seq, .slice A n c] 32 (0, 0)) := by
    intro W X hW hX
    obtain ⟨X', hX', hbX, hkX, hBX⟩ := box_store8 hW.z (.slice A1 n1 c1) (.slice A2 n2 c2) (.bool k.disk.dead) (.int .i64 k.disk.left) (.int .i64 k.shape.pages) (.int .i64 k.shape.journal) (.int .i64 k.seq) (.slice A n c)
    rw [hX'] at hX
    subst hX
    exact ⟨(HV.out.below hW.below).other hW.z hkX, hBX _ _ hW.below (by omega), hbX⟩
  have FIN := Lib.hid fin
  clear fin
  rcases hE with ⟨hE, rfl⟩ | ⟨hE, hd, rfl⟩
  · cases hbc : hb with
    | false =>
      rw [hbc] at HHAS
      clear hE hbi
      go_enter Tryz.func38, Tryz.ntmps38
      go_upto_region 1 with (fail)
      rw [← HY.out]
      clear HY
      go_wp2_with fail
      (with_reducible refine (HHAS.out _).mono ?_)
      rintro e w1 ⟨rfl, hB1⟩
      have HW1 := Lib.hid (HWB.out.more hB1)
      clear i0 i1 i2 i3 i4 i5 i6 i7 hB1
      obtain ⟨i0, i1, i2, i3, i4, i5, i6, i7⟩ := HW1.out.a.at_
      obtain ⟨⟨z0, z1, z2, z3, z4, z5, z6, z7⟩, zf⟩ := box8 HW1.out.z
      go_wp2_with fail
      generalize hX : ((((((((w1.setCell ⟨w.heap.size + 1, 0, none⟩ (.slice A1 n1 c1)).setCell ⟨w.heap.size + 1, 1, none⟩ (.slice A2 n2 c2)).setCell ⟨w.heap.size + 1, 2, none⟩ (.bool k.disk.dead)).setCell ⟨w.heap.size + 1, 3, none⟩ (.int .i64 k.disk.left)).setCell ⟨w.heap.size + 1, 4, none⟩ (.int .i64 k.shape.pages)).setCell ⟨w.heap.size + 1, 5, none⟩ (.int .i64 k.shape.journal)).setCell ⟨w.heap.size + 1, 6, none⟩ (.int .i64 k.seq)).setCell ⟨w.heap.size + 1, 7, none⟩ (.slice A n c)) = X
      obtain ⟨f1, f2, f3⟩ := FIN.out w1 X HW1.out hX
      obtain ⟨⟨q0, q1, q2, q3, q4, q5, q6, q7⟩, _⟩ := box8 f3
      exact bodyPost_ret (v := .tuple #[.agg #[.slice A1 n1 c1, .slice A2 n2 c2, .bool k.disk.dead, .int .i64 k.disk.left, .int .i64 k.shape.pages, .int .i64 k.shape.journal, .int .i64 k.seq, .slice A n c], .int .i64 1]) (by simp [results, Tryz.results38, go_sem, q0, q1, q2, q3, q4, q5, q6, q7]) rfl ⟨_, rfl, f1, f2⟩
    | true =>
      rw [hbc] at HHAS
      have hH := hbi.1 hbc
      have hl : 208 < data.length := by
        apply Classical.byContradiction
        intro h
        exact hE ⟨hH, by omega⟩
      have hl2 : (208 : Int) < ((strB data).size : Int) := by omega
      have hl3 : 208 < (strB data).size := by omega
      clear hE hbi hH hl
      go_enter Tryz.func38, Tryz.ntmps38
      go_upto_region 1 with (fail)
      rw [← HY.out]
      clear HY
      go_wp2_with fail
      (with_reducible refine (HHAS.out _).mono ?_)
      rintro e w1 ⟨rfl, hB1⟩
      have HW1 := Lib.hid (HWB.out.more hB1)
      clear i0 i1 i2 i3 i4 i5 i6 i7 hB1
      obtain ⟨i0, i1, i2, i3, i4, i5, i6, i7⟩ := HW1.out.a.at_
      obtain ⟨⟨z0, z1, z2, z3, z4, z5, z6, z7⟩, zf⟩ := box8 HW1.out.z
      go_wp2_with fail
      generalize hX : ((((((((w1.setCell ⟨w.heap.size + 1, 0, none⟩ (.slice A1 n1 c1)).setCell ⟨w.heap.size + 1, 1, none⟩ (.slice A2 n2 c2)).setCell ⟨w.heap.size + 1, 2, none⟩ (.bool k.disk.dead)).setCell ⟨w.heap.size + 1, 3, none⟩ (.int .i64 k.disk.left)).setCell ⟨w.heap.size + 1, 4, none⟩ (.int .i64 k.shape.pages)).setCell ⟨w.heap.size + 1, 5, none⟩ (.int .i64 k.shape.journal)).setCell ⟨w.heap.size + 1, 6, none⟩ (.int .i64 k.seq)).setCell ⟨w.heap.size + 1, 7, none⟩ (.slice A n c)) = X
      obtain ⟨f1, f2, f3⟩ := FIN.out w1 X HW1.out hX
      obtain ⟨⟨q0, q1, q2, q3, q4, q5, q6, q7⟩, _⟩ := box8 f3
      exact bodyPost_ret (v := .tuple #[.agg #[.slice A1 n1 c1, .slice A2 n2 c2, .bool k.disk.dead, .int .i64 k.disk.left, .int .i64 k.shape.pages, .int .i64 k.shape.journal, .int .i64 k.seq, .slice A n c], .int .i64 1]) (by simp [results, Tryz.results38, go_sem, q0, q1, q2, q3, q4, q5, q6, q7]) rfl ⟨_, rfl, f1, f2⟩
  · have hl2 : ¬ (208 : Int) < ((strB data).size : Int) := by have := hE.2; omega
    have hl3 : ¬ 208 < (strB data).size := by have := hE.2; omega
    have hbc : hb = true := hbi.2 hE.1
    rw [hbc] at HHAS
    rw [hd] at HY FIN i2
    have HD := Lib.hid hd
    rw [hd]
    clear hE hbi hbc
    go_enter Tryz.func38, Tryz.ntmps38
    go_upto_region 1 with (fail)
    rw [← HY.out]
    clear HY
    go_wp2_with fail
    (with_reducible refine (HHAS.out _).mono ?_)
    rintro e w1 ⟨rfl, hB1⟩
    have HW1 := Lib.hid (HWB.out.more hB1)
    clear i0 i1 i2 i3 i4 i5 i6 i7 hB1
    obtain ⟨i0, i1, i2, i3, i4, i5, i6, i7⟩ := HW1.out.a.at_
    rw [HD.out] at i2
    obtain ⟨⟨z0, z1, z2, z3, z4, z5, z6, z7⟩, zf⟩ := box8 HW1.out.z
    go_wp2_with fail
    generalize hX : ((((((((w1.setCell ⟨w.heap.size + 1, 0, none⟩ (.slice A1 n1 c1)).setCell ⟨w.heap.size + 1, 1, none⟩ (.slice A2 n2 c2)).setCell ⟨w.heap.size + 1, 2, none⟩ (.bool true)).setCell ⟨w.heap.size + 1, 3, none⟩ (.int .i64 k.disk.left)).setCell ⟨w.heap.size + 1, 4, none⟩ (.int .i64 k.shape.pages)).setCell ⟨w.heap.size + 1, 5, none⟩ (.int .i64 k.shape.journal)).setCell ⟨w.heap.size + 1, 6, none⟩ (.int .i64 k.seq)).setCell ⟨w.heap.size + 1, 7, none⟩ (.slice A n c)) = X
    obtain ⟨f1, f2, f3⟩ := FIN.out w1 X HW1.out hX
    obtain ⟨⟨q0, q1, q2, q3, q4, q5, q6, q7⟩, _⟩ := box8 f3
    exact bodyPost_ret (v := .tuple #[.agg #[.slice A1 n1 c1, .slice A2 n2 c2, .bool true, .int .i64 k.disk.left, .int .i64 k.shape.pages, .int .i64 k.shape.journal, .int .i64 k.seq, .slice A n c], .int .i64 12]) (by simp [results, Tryz.results38, go_sem, q0, q1, q2, q3, q4, q5, q6, q7]) rfl ⟨_, rfl, f1, f2⟩

/-- Another list of pages is stored into the first box. -/
theorem wput {w W : World} {v0 v1 v7 u7 : Value} {k : VK} {l : List Lf} (h : WB w W v0 v1 v7 k) (hi : IsDisk w (.agg #[v0, v1, .bool k.disk.dead, .int .i64 k.disk.left]) k.disk) (hl : IsLfs W u7 l) :
    ∃ X, W.setCell ⟨w.heap.size, 7, none⟩ u7 = X ∧ X.heap[w.heap.size]? = some (.cells #[v0, v1, .bool k.disk.dead, .int .i64 k.disk.left, .int .i64 k.shape.pages, .int .i64 k.shape.journal, .int .i64 k.seq, u7] 32 (0, 0)) ∧
      X.heap[w.heap.size + 1]? = some (.cells #[.slice none 0 0, .slice none 0 0, .bool false, .int .i64 0, .int .i64 0, .int .i64 0, .int .i64 0, .slice none 0 0] 32 (0, 0)) ∧ IsLfs X u7 l ∧
      IsDisk X (.agg #[v0, v1, .bool k.disk.dead, .int .i64 k.disk.left]) k.disk ∧ Below w.heap.size w X := by
  obtain ⟨X, hX⟩ : ∃ X, X = W.setCell ⟨w.heap.size, 7, none⟩ u7 := ⟨_, rfl⟩
  have hk : ∀ q : Nat, q ≠ w.heap.size → X.heap[q]? = W.heap[q]? := fun q hq => by rw [hX]; exact Below.heap_setCell _ _ _ _ hq
  refine ⟨X, hX.symm, by rw [hX]; exact heap_setCell_same W w.heap.size 7 _ 32 _ h.a, (hk _ (by omega)).trans h.z, SL.other hl h.a (by decide) hk, (hi.below h.below).other h.a (by decide) (by decide) hk, ?_⟩
  rw [hX]
  exact h.below.setCell (p := ⟨w.heap.size, 7, none⟩) (Nat.le_refl _) _

set_option maxRecDepth 100000 in
set_option maxHeartbeats 16000000 in
theorem pwrite_ok (v : Value) (k : VK) (no : Int) (data : List UInt8) (w : World) (hv : IsVault w v k) (hg : VGood k) (hR : RiseL k.dirty) (hE : hasP k no ∧ data.length ≤ 208) (hd : k.disk.dead = false) :
    Calls Tryz.prog 38 #[v, .int .i64 no, .string (strB data)] w fun e w' => ∃ v', e = .returned (.tuple #[v', .int .i64 0]) ∧ IsVault w' v' { k with dirty := insL ⟨no, padP data⟩ k.dirty } ∧ Below w.heap.size w w' := by
  obtain ⟨vs, vw, vd, rfl, h1, h2⟩ := id hv
  obtain ⟨A1, n1, c1, A2, n2, c2, e1⟩ := h1.parts
  obtain ⟨rfl, rfl⟩ : vs = .slice A1 n1 c1 ∧ vw = .slice A2 n2 c2 := by
    simp only [Value.agg.injEq, Array.mk.injEq, List.cons.injEq] at e1
    exact ⟨e1.1, e1.2.1⟩
  obtain ⟨A, n, c, rfl, hn, _, hr⟩ := h2.open_
  obtain ⟨Y, hY, hB⟩ := WB.new w (.slice A1 n1 c1) (.slice A2 n2 c2) (.slice A n c) k
  have HY := Lib.hid hY
  have HWB := Lib.hid hB
  have HV := Lib.hid hv
  have HHAS := Lib.hid (fun W => has_calls k.shape no W)
  unfold shV at HHAS
  have hb : (decide (0 ≤ no) && decide (no < k.shape.pages)) = true := by
    obtain ⟨a, b⟩ := hE.1
    simp [a, b]
  rw [hb] at HHAS
  have hsz := strB_size data
  have hl2 : ¬ (208 : Int) < ((strB data).size : Int) := by have := hE.2; omega
  have hl3 : ¬ 208 < (strB data).size := by have := hE.2; omega
  obtain ⟨P, hP⟩ : ∃ P, P = padP data := ⟨_, rfl⟩
  have C1 := fun W => padded_calls data W hE.2
  have C2 := fun W (hbw : Below w.heap.size w W) => with_calls (.slice A n c) k.dirty no P W (h2.below hbw) hR hg.dirty
  rw [← hP] at C1
  have C1 := Lib.hid C1
  have C2 := Lib.hid C2
  have HP := Lib.hid hP
  have HI := Lib.hid h1
  have HD := Lib.hid hd
  obtain ⟨i0, i1, i2, i3, i4, i5, i6, i7⟩ := hB.a.at_
  rw [hd] at HY i2 ⊢
  clear hY hB h1 h2 hn hr hv e1 hR hg hE hd hb hP hsz
  go_enter Tryz.func38, Tryz.ntmps38
  go_upto_region 1 with (fail)
  rw [← HY.out]
  clear HY
  go_wp2_with fail
  (with_reducible refine (HHAS.out _).mono ?_)
  rintro e w1 ⟨rfl, hB1⟩
  have HW1 := Lib.hid (HWB.out.more hB1)
  clear i0 i1 i2 i3 i4 i5 i6 i7 hB1
  obtain ⟨i0, i1, i2, i3, i4, i5, i6, i7⟩ := HW1.out.a.at_
  rw [HD.out] at i2
  go_wp2_with fail
  have HT := Lib.hid (HW1.out.more (Below.refl _ _).drew)
  clear i0 i1 i2 i3 i4 i5 i6 i7
  have i7 := HT.out.a.at_.c7
  have kf := HT.out.a.free
  go_region_with (first
    | (go_at_call 69; (with_reducible refine (C1.out _).mono ?_); rintro e wa ⟨rfl, hBa⟩; (with_reducible replace HT := Lib.hid (HT.out.more hBa)); clear hBa; have i7 := HT.out.a.at_.c7; have kf := HT.out.a.free)
    | (go_at_call 68; (with_reducible refine (C2.out _ HT.out.below).mono ?_); rintro e wa ⟨v', rfl, hv', hBa⟩; (with_reducible replace HT := Lib.hid (HT.out.more hBa)); clear hBa; have i7 := HT.out.a.at_.c7; have kf := HT.out.a.free; obtain ⟨Z2, z2, z3, rfl, hz3, _, _⟩ := hv'.open_; have HL := Lib.hid hv'; have HZ3 := Lib.hid hz3; clear hv' hz3))
  all_goals
    (try clear z0)
    have hTA := HT.out
    obtain ⟨X1, hX1, ha1, hz1', hl1, hvd, hb1⟩ := wput HT.out HI.out HL.out
    have HA1 := Lib.hid (box8 ha1)
    have HZ1 := Lib.hid (box8 hz1')
    obtain ⟨X2, hX2, hbX, hkX, hBX⟩ := box_store8 hz1' (.slice A1 n1 c1) (.slice A2 n2 c2) (.bool k.disk.dead) (.int .i64 k.disk.left) (.int .i64 k.shape.pages) (.int .i64 k.shape.journal) (.int .i64 k.seq) (.slice Z2 z2 z3)
    have HX1 := Lib.hid hX1
    have HX2 := Lib.hid hX2
    have hvd2 := hvd.other hz1' (by decide) (by decide) hkX
    have hl2 : IsLfs X2 (.slice Z2 z2 z3) _ := SL.other hl1 hz1' (by decide) hkX
    have HFIN : Hid (IsVault X2 (.agg #[.slice A1 n1 c1, .slice A2 n2 c2, .bool k.disk.dead, .int .i64 k.disk.left, .int .i64 k.shape.pages, .int .i64 k.shape.journal, .int .i64 k.seq, .slice Z2 z2 z3]) { k with dirty := insL ⟨no, padP data⟩ k.dirty } ∧ Below w.heap.size w X2) := Lib.hid ⟨⟨_, _, _, rfl, hvd2, by rw [← HP.out]; exact hl2⟩, hBX _ _ hb1 (by omega)⟩
    have HBX := Lib.hid (box8 hbX)
    rw [HD.out] at HFIN HA1 HBX HX2
    clear hX1 ha1 hz1' hb1 hX2 hbX hkX hBX hvd hvd2 hl1 hl2 hTA
    go_upto_region 6 with (fail)
    rw [HX1.out]
    clear i7 kf HX1
    obtain ⟨⟨i0, i1, i2, i3, i4, i5, i6, i7⟩, _⟩ := HA1.out
    obtain ⟨⟨z0, z1, z2', z3', z4, z5, z6, z7⟩, zf⟩ := HZ1.out
    go_wp2_with fail
    rw [HX2.out]
    clear i0 i1 i2 i3 i4 i5 i6 i7 z0 z1 z2' z3' z4 z5 z6 z7 zf
    obtain ⟨⟨z0, z1, z2', z3', z4, z5, z6, z7⟩, _⟩ := HBX.out
    exact bodyPost_ret (v := .tuple #[.agg #[.slice A1 n1 c1, .slice A2 n2 c2, .bool false, .int .i64 k.disk.left, .int .i64 k.shape.pages, .int .i64 k.shape.journal, .int .i64 k.seq, .slice Z2 z2 z3], .int .i64 0]) (by simp [results, Tryz.results38, go_sem, z0, z1, z2', z3', z4, z5, z6, z7]) rfl ⟨_, rfl, HFIN.out.1, HFIN.out.2⟩

/-- Whatever is asked. -/
theorem write_calls (v : Value) (k : VK) (no : Int) (data : List UInt8) (w : World) (hv : IsVault w v k) (hg : VGood k) (hR : RiseL k.dirty) :
    Calls Tryz.prog 38 #[v, .int .i64 no, .string (strB data)] w fun e w' => ∃ v', e = .returned (.tuple #[v', .int .i64 (writeV k no data).2]) ∧ IsVault w' v' (writeV k no data).1 ∧ Below w.heap.size w w' := by
  unfold writeV
  by_cases hE : hasP k no ∧ data.length ≤ 208
  · rw [if_neg (by simp [hE])]
    rcases Bool.eq_false_or_eq_true k.disk.dead with hd | hd
    · rw [if_pos hd]
      exact pwrite_no v k no data w hv 12 (.inr ⟨hE, hd, rfl⟩)
    · rw [if_neg (by simp [hd])]
      exact pwrite_ok v k no data w hv hg hR hE hd
  · rw [if_pos hE]
    exact pwrite_no v k no data w hv 1 (.inl ⟨hE, rfl⟩)

end Go.Proofs.YtgeiemccjionpaaGreat.Vlt

/- HLong -/
namespace Go.Proofs.YtgeiemccjionpaaGreat.Chn
open Go.RowKit Go.Sort
open Dsk Vlt

set_option maxRecDepth 100000 in
theorem longest_calls (n : Nat) (j : Int) (w : World) (hn : n ≤ 512) :
    Calls Tryz.prog 46 #[.agg #[.int .i64 (n : Nat), .int .i64 j]] w fun e w' => e = .returned (.int .i64 (n : Nat)) ∧ Below w.heap.size w w' := by
  have h := heap_alloc_new w (.cells #[.int .i64 (n : Nat), .int .i64 j] 29)
  have c0 : (w.alloc (.cells #[.int .i64 (n : Nat), .int .i64 j] 29)).cell? ⟨w.heap.size, 0, none⟩ = some (.int .i64 (n : Nat)) := by rw [cell_of_row _ _ _ _ _ _ h]; rfl
  go_enter Tryz.func46, Tryz.ntmps46
  go_wp2_with fail
  go_ret
  exact ⟨ret_int (by omega), below_one _ _⟩

set_option maxRecDepth 100000 in
theorem most_calls (w : World) : Calls Tryz.prog 19 #[] w fun e w' => e = .returned (.int .i64 204) ∧ w' = w := by
  go_enter Tryz.func19, Tryz.ntmps19
  go_wp2_with fail
  go_ret
  exact ⟨rfl, rfl⟩
set_option maxRecDepth 100000 in
theorem rmost_calls (w : World) : Calls Tryz.prog 20 #[] w fun e w' => e = .returned (.int .i64 204) ∧ w' = w := by
  go_enter Tryz.func20, Tryz.ntmps20
  go_wp2_with fail
  go_ret
  exact ⟨rfl, rfl⟩

set_option maxRecDepth 100000 in
theorem need_calls (n : Nat) (w : World) (hn : n ≤ 1000000) :
    Calls Tryz.prog 23 #[.int .i64 (n : Nat)] w fun e w' => e = .returned (.int .i64 (needC n : Nat)) ∧ w' = w := by
  by_cases h : n ≤ 204
  · have hd : (n : Int) ≤ 204 := by omega
    have HE : Hid (needC n = 1) := Lib.hid (by unfold needC; omega)
    go_enter Tryz.func23, Tryz.ntmps23
    go_wp2_with fail
    go_ret
    exact ⟨by rw [HE.out]; rfl, rfl⟩
  · have hd : ¬ (n : Int) ≤ 204 := by omega
    have HE : Hid (((n : Int) - 1) / 204 + 1 = (needC n : Nat)) := Lib.hid (by unfold needC; omega)
    have h0 : (0 : Int) ≤ (n : Int) - 1 := by omega
    go_enter Tryz.func23, Tryz.ntmps23
    go_wp2_with fail
    go_ret
    exact ⟨ret_int HE.out, rfl⟩
set_option maxRecDepth 100000 in
theorem rneed_calls (n : Nat) (w : World) (hn : n ≤ 1000000) :
    Calls Tryz.prog 24 #[.int .i64 (n : Nat)] w fun e w' => e = .returned (.int .i64 (needC n : Nat)) ∧ w' = w := by
  have HE : Hid (max 1 (((n : Int) + 203) / 204) = (needC n : Nat)) := Lib.hid (by unfold needC; omega)
  go_enter Tryz.func24, Tryz.ntmps24
  go_wp2_with fail
  (with_reducible refine (rmost_calls _).mono ?_)
  rintro e w' ⟨rfl, rfl⟩
  go_wp2_with fail
  (with_reducible refine (rmost_calls _).mono ?_)
  rintro e w' ⟨rfl, rfl⟩
  go_wp2_with fail
  go_ret
  exact ⟨ret_int (by rw [← HE.out]; omega), rfl⟩

/-- The law's long text. -/
def longL (n : Nat) : List UInt8 := (List.range n).map fun i => UInt8.ofNat (97 + i % 26)
theorem longL_len (n : Nat) : (longL n).length = n := by simp [longL]

theorem longL_at (n i : Nat) (h : i < n) : (longL n)[i]'(by rw [longL_len]; exact h) = UInt8.ofNat (97 + i % 26) := by simp [longL]

/-- Bytes that are written, one by one. -/
def RowZ (w : World) (g n : Nat) (f : Nat → UInt8) : Prop :=
  ∃ cur : Array Value, w.heap[g]? = some (.cells cur 5 (0, 0)) ∧ cur.size = n ∧ ∀ j, j < n → cur[j]? = some (.int .u8 ((f j).toNat : Nat))
theorem RowZ.new (n : Nat) (hn : n ≤ 100000) (w : World) : ∃ Y, (Instr.makeSlice 70 (.int .i64 (n : Nat)) (.int .i64 (n : Nat))).run Tryz.prog w = .ok (.slice (some ⟨w.heap.size, 0, none⟩) n n) Y ∧ RowZ Y w.heap.size n (fun _ => 0) ∧ Below w.heap.size w Y := by
  refine ⟨_, Wire.make_zeros n hn w, ⟨_, heap_alloc_new w _, size_madeCells _ _, fun j hj => ?_⟩, below_one _ _⟩
  have := toList_madeCells_one (.int .u8 0) n
  have e : (madeCells (Value.cells (.int .u8 0)) n)[j]? = (madeCells #[.int .u8 0] n).toList[j]? := by simp [Value.cells]
  rw [e, this, List.getElem?_replicate, if_pos hj]
  rfl
theorem RowZ.set {w : World} {g n j : Nat} {f : Nat → UInt8} (h : RowZ w g n f) (hj : j < n) (c : UInt8) : RowZ (w.setCell ⟨g, j, none⟩ (.int .u8 (c.toNat : Nat))) g n (fun i => if i = j then c else f i) := by
  obtain ⟨cur, hb, hs, hc⟩ := h
  refine ⟨_, Go.Joins.block_setCell hb _, by simpa using hs, fun i hi => ?_⟩
  rw [Bit.set_get (by omega)]
  by_cases e : j = i
  · subst e; simp
  · rw [if_neg e]
    dsimp only
    rw [if_neg (fun e2 : i = j => e e2.symm)]
    exact hc i hi
theorem RowZ.free {w : World} {g n : Nat} {f : Nat → UInt8} (h : RowZ w g n f) (j : Nat) : w.frozen? ⟨g, j, none⟩ = false := by
  obtain ⟨cur, hb, _⟩ := h
  simp [World.frozen?, hb]
theorem RowZ.cell {w : World} {g n j : Nat} {f : Nat → UInt8} (h : RowZ w g n f) (hj : j < n) : w.cell? ⟨g, j, none⟩ = some (.int .u8 ((f j).toNat : Nat)) := by
  obtain ⟨cur, hb, hs, hc⟩ := h
  rw [Go.Joins.cell_of_block hb]
  exact hc j hj
theorem RowZ.back {w : World} {g : Nat} {l : List UInt8} {f : Nat → UInt8} (h : RowZ w g l.length f) (hf : ∀ j (hj : j < l.length), f j = l[j]) : (convert 70 9 (.slice (some ⟨g, 0, none⟩) l.length l.length)).run Tryz.prog w = .ok (.string (strB l)) w := by
  refine run_convert_bytes_back w 70 9 5 ⟨g, 0, none⟩ l.length l Tryz.underlying70 Tryz.underlying5 Tryz.underlying9 fun j hj => ?_
  have hp : (⟨g, 0, none⟩ : Addr).add j = ⟨g, j, none⟩ := by unfold Addr.add; split <;> simp_all
  rw [hp, h.cell hj, hf j hj]

set_option maxRecDepth 100000 in
set_option maxHeartbeats 2000000 in
theorem long_calls (n : Nat) (w : World) (hn : n ≤ 100000) :
    Calls Tryz.prog 10 #[.int .i64 (n : Nat)] w fun e w' => e = .returned (.string (strB (longL n))) ∧ Below w.heap.size w w' := by
  obtain ⟨Y, hmk, hz, hb⟩ := RowZ.new n hn w
  have HZ := Lib.hid hz
  have HB := Lib.hid hb
  obtain ⟨g, hg⟩ : ∃ g, g = w.heap.size := ⟨_, rfl⟩
  rw [← hg] at hmk HZ
  have HG := Lib.hid hg
  clear hz hb hg
  go_enter Tryz.func10, Tryz.ntmps10
  go_wp2_with fail
  clear hmk
  go_loopw [4] (fun u wr => ∃ i : Nat, i ≤ n ∧ u = .int .i64 (i : Nat) ∧ (∃ f, RowZ wr g n f ∧ ∀ j, j < i → f j = UInt8.ofNat (97 + j % 26)) ∧ Below w.heap.size w wr) (fun u _ => n - (intOf u).toNat)
  case atStart => exact ⟨0, Nat.zero_le _, rfl, ⟨_, HZ.out, fun j hj => absurd hj (by omega)⟩, HB.out⟩
  case round =>
    obtain ⟨i, hi, rfl, ⟨f, hr, hf⟩, hbr⟩ := hrel
    obtain ⟨w2, rfl⟩ : ∃ w2, w2 = wr := ⟨_, rfl⟩
    have HR := Lib.hid hr
    have HF := Lib.hid hf
    have HBR := Lib.hid hbr
    by_cases hlt : i < n
    · have hi1 : (0 : Int) ≤ (i : Int) := by omega
      have hi2 : (i : Int) < (n : Int) := by omega
      have q0 := hr.cell hlt
      have q1 := hr.free i
      have hr26 : (i : Int).tmod 26 = ((i % 26 : Nat) : Int) := by rw [Int.tmod_eq_emod_of_nonneg (by omega)]; omega
      have hw : (97 + ((i % 26 : Nat) : Int)) % 256 = (((UInt8.ofNat (97 + i % 26)).toNat : Nat) : Int) := by rw [UInt8.toNat_ofNat']; omega
      clear hr hf hbr
      go_wp2_with fail
      have e97 : (97 + (i : Int) % 26) = (((UInt8.ofNat (97 + i % 26)).toNat : Nat) : Int) := by rw [UInt8.toNat_ofNat']; omega
      rw [e97]
      refine ⟨⟨i + 1, by omega, by go_num, ⟨_, HR.out.set hlt _, fun j hj => ?_⟩, HBR.out.setCell (by rw [HG.out]; exact Nat.le_refl _) _⟩, by simp [intOf]; omega⟩
      by_cases e : j = i
      · rw [if_pos e, e]
      · rw [if_neg e]; exact HF.out j (by omega)
    · obtain rfl : i = n := by omega
      have hbk := (show RowZ w2 g (longL i).length f by rw [longL_len]; exact hr).back (fun j hj => by rw [longL_at i j (by rw [longL_len] at hj; exact hj)]; exact hf j (by rw [longL_len] at hj; exact hj))
      rw [longL_len] at hbk
      clear hr hf
      go_wp2_with fail
      go_ret
      exact ⟨rfl, HBR.out⟩
end Go.Proofs.YtgeiemccjionpaaGreat.Chn

/- HCat -/
namespace Go.Proofs.YtgeiemccjionpaaGreat.Chn
open Go.RowKit Go.Sort
open Dsk Vlt

theorem app_none {w : World} {B : Nat} {v : Value} {l : List Int} (ty : TypeId) (c : Nat) {i : TypeInfo} (hi : Tryz.prog.info? 3 = some i) (hown : OwnI B w v l) :
    (Builtin.append_ #[36, 36] ty #[v, .slice none 0 c]).run Tryz.prog w = .ok v w := by
  have ht := Tryz.underlying36
  rcases hown.2 with ⟨rfl, h0⟩ | ⟨g, cap, cur, rfl, _, _, hnc, _⟩
  · simp [Builtin.append_, run_underlying ht, sizeOf, typeInfo, hi, Builtin.lenOf, Builtin.firstCells]
  · simp [Builtin.append_, run_underlying ht, sizeOf, typeInfo, hi, Builtin.lenOf, Builtin.firstCells, hnc, storeCells]

/-- Pages that are appended to a slice of the call's own. -/
theorem app_run {w : World} {B : Nat} {v u : Value} {l m : List Int} (ty : TypeId) (hown : OwnI B w v l) (hu : IsInts w u m) (hl : l.length + m.length ≤ 1000000) (hB : B ≤ w.heap.size) :
    ∃ v' w', (Builtin.append_ #[36, 36] ty #[v, u]).run Tryz.prog w = .ok v' w' ∧ OwnI B w' v' (l ++ m) ∧ ∀ (a : World), Below B a w → Below B a w' := by
  obtain ⟨i1, hi0, hz0, hz1, hz2⟩ := info_parts infoI
  obtain ⟨A, n, c, rfl, hn, hnc, hr⟩ := hu.open_
  have mk : ∀ (ad : Addr), (∀ (j : Nat) (x : Value), (intC m)[j]? = some x → w.cell? (ad.add j) = some x) → ∃ v' w', (Builtin.append_ #[36, 36] ty #[v, .slice (some ad) n c]).run Tryz.prog w = .ok v' w' ∧ OwnI B w' v' (l ++ m) ∧ ∀ (a : World), Below B a w → Below B a w' := by
    intro ad had
    obtain ⟨v', w', h1, h2, h3, _, _⟩ := run_append_own_at (P := Tryz.prog) (w := w) B 36 ty 3 i1 _ 1 8 Tryz.underlying36 hi0 hz0 hz1 hz2 (by rfl) (by omega) v l.length (intC l) hown ad n c (intC m) (by rw [intC_length, hn]) had (intC_all m) (Nat.le_trans (show l.length + n ≤ 1000000 by omega) (by decide)) (by omega) hB
    refine ⟨v', w', h1, ?_, fun a ha => below_grown ha h3 hown.ge hB⟩
    unfold OwnI
    rw [intC_append, List.length_append, ← hn]
    exact h2
  cases A with
  | some ad =>
    by_cases h0 : 0 < n
    · obtain ⟨b, off, e, hb, hc⟩ := hr.at_ h0
      injection e with e
      subst e
      exact mk _ fun j x hx => by rw [Addr.add_lit]; exact hc j x hx
    · have : m = [] := List.eq_nil_of_length_eq_zero (by omega)
      subst this
      exact mk _ fun j x hx => by cases hx
  | none =>
    by_cases h0 : 0 < n
    · obtain ⟨b, off, e, _⟩ := hr.at_ h0
      cases e
    · have : m = [] := List.eq_nil_of_length_eq_zero (by omega)
      subst this
      obtain rfl : n = 0 := by simpa using hn
      exact ⟨v, w, app_none ty c hi0 hown, by simpa using hown, fun a h => h⟩

theorem wpList_app_run {w : World} {ops : Array Oper} {rest : List Oper} {o : Oper} {a : Act} {Q : Exit → Act → World → Prop} (hgd : o.guard = none) (s x : Operand)
    (ho : o.op = .call { callee := .builtin .append, args := #[s, x], argTypes := #[36, 36] }) (B : Nat) (v u : Value) (l m : List Int) (hs : a.eval s = v) (hx : a.eval x = u)
    (hown : OwnI B w v l) (hu : IsInts w u m) (hl : l.length + m.length ≤ 1000000) (hB : B ≤ w.heap.size)
    (h : ∀ v' w', OwnI B w' v' (l ++ m) → (∀ (a : World), Below B a w → Below B a w') → wpList Tryz.prog ops Q rest (a.put o.dst v') w') : wpList Tryz.prog ops Q (o :: rest) a w := by
  refine wpList_plain hgd fun K hK => ?_
  obtain ⟨v', w', hr, h2, h3⟩ := app_run o.type hown hu hl hB
  unfold Oper.wp execOp
  simp only [ho, resolve, invoke, builtin, Sem.run_bind, Sem.run_pure, Result.andThen_ok, List.map_toArray, List.map_cons, List.map_nil, hs, hx, hr]
  exact hK _ _ (h v' w' h2 h3)

set_option maxRecDepth 100000 in
set_option maxHeartbeats 4000000 in
theorem grow_calls (n : Nat) (w : World) (h1 : 1 ≤ n) (h2 : n ≤ 10000) :
    Calls Tryz.prog 90 #[.slice none 0 0, .int .i64 (n : Nat)] w fun e w' => ∃ v', e = .returned v' ∧ OwnI w.heap.size w' v' [] ∧ Below w.heap.size w w' := by
  obtain ⟨i1, hi0, hz0, hz1, hz2⟩ := info_parts infoI
  have hn1 : ¬ ((n : Int) < 0) := by omega
  have hn2 : (n : Int) > 0 := by omega
  obtain ⟨G, hG⟩ : ∃ G, G = grownCap w n 0 3 := ⟨_, rfl⟩
  have hGn : n ≤ G := by rw [hG]; exact grownCap_ge w _ _ _
  have hGm : G ≤ maxLen := by rw [hG]; exact grownCap_le_maxLen w n 0 3 (Nat.le_trans (show n ≤ 1000000 by omega) (by decide))
  have hG63 : G ≤ 9223372036854775807 := Nat.le_trans hGm (by decide)
  obtain ⟨W, hW⟩ : ∃ W, W = w.drew.alloc (.cells (Builtin.zeroCells (Value.cells (.int .i64 0)) n ++ Builtin.zeroCells (Value.cells (.int .i64 0)) (G - n)) 3) := ⟨_, rfl⟩
  have hrz : ∀ ty, (Builtin.append_ #[36, 3] ty #[.slice none 0 0, .int .i64 (n : Nat)]).run Tryz.prog w = .ok (.slice (some ⟨w.heap.size, 0, none⟩) n G) W := fun ty => by
    have h := Lib.run_append_nil_zeros w 36 3 ty 3 i1 _ .i64 .i64 Tryz.underlying36 Tryz.underlying3 hi0 hz0 n (by omega) (by omega) (by omega) (by rw [hz2]; omega)
    rw [← hG, ← hW] at h
    exact h
  have HB : Hid (Below w.heap.size w W) := Lib.hid (by rw [hW]; exact (Below.refl w.heap.size w).drew.alloc (Nat.le_refl _) _)
  have hzs : (Value.cells (.int .i64 0)).size = 1 := by rfl
  have HO : Hid (OwnI w.heap.size W (.slice (some ⟨w.heap.size, 0, none⟩) 0 G) []) := Lib.hid (by
    refine ⟨rfl, .inr ⟨w.heap.size, G, _, rfl, Nat.le_refl _, by rw [hW]; exact heap_alloc_new w.drew _, Nat.zero_le _, hGm, ?_, by simp [intC]⟩⟩
    rw [Array.size_append, size_zeroCells, size_zeroCells, hzs, ← Nat.add_mul]
    congr 1
    omega)
  clear hG hGm hW
  go_enter Tryz.func90, Tryz.ntmps90
  go_wp2_with (at_builtin; refine Lib.wpList_append_run _ rfl _ _ _ _ rfl _ _ rfl rfl _ _ (hrz _) ?_)
  all_goals (go_ret; exact ⟨_, rfl, HO.out, HB.out⟩)

theorem flat_take {Ls : List (List Int)} {i : Nat} {l : List Int} (h : Ls[i]? = some l) : (Ls.take (i + 1)).flatten = (Ls.take i).flatten ++ l := by
  rw [List.take_add_one, h]
  simp
theorem flat_le {Ls : List (List Int)} (i : Nat) : (Ls.take i).flatten.length ≤ Ls.flatten.length := by
  have h : Ls.flatten = (Ls.take i).flatten ++ (Ls.drop i).flatten := by rw [← List.flatten_append, List.take_append_drop]
  rw [h, List.length_append]
  omega

set_option maxRecDepth 100000 in
set_option maxHeartbeats 4000000 in
theorem concat_calls (g : Nat) (vs : List Value) (Ls : List (List Int)) (m c : Nat) (w : World) (hg : g < w.heap.size) (hm : m = vs.length) (hmm : m = Ls.length) (hm10 : m ≤ 10) (hcell : ∀ (i : Nat) (v : Value), vs[i]? = some v → w.cell? ⟨g, i, none⟩ = some v)
    (hr : ∀ (i : Nat) (v : Value) (l : List Int), vs[i]? = some v → Ls[i]? = some l → IsInts w v l) (h1 : 1 ≤ Ls.flatten.length) (h2 : Ls.flatten.length ≤ 10000) :
    Calls Tryz.prog 64 #[.slice (some ⟨g, 0, none⟩) m c] w fun e w' => ∃ v', e = .returned v' ∧ OwnI w.heap.size w' v' Ls.flatten ∧ Below w.heap.size w w' := by
  obtain ⟨B, hB⟩ : ∃ B, B = w.heap.size := ⟨_, rfl⟩
  have hat : ∀ i, i < m → ∃ v l, vs[i]? = some v ∧ Ls[i]? = some l := fun i hi => ⟨_, _, List.getElem?_eq_getElem (by omega), List.getElem?_eq_getElem (by omega)⟩
  have HM := Lib.hid hmm
  have HAT := Lib.hid hat
  have HC := Lib.hid hcell
  have HR := Lib.hid hr
  have H1 := Lib.hid h1
  have H2 := Lib.hid h2
  have HG := Lib.hid hg
  have HB := Lib.hid hB
  clear hg hcell hr h1 h2 hat hm hmm hB
  go_enter Tryz.func64, Tryz.ntmps64
  go_wp2_with fail
  go_loopw [3, 11] (fun s3 s11 wr => ∃ i S : Nat, i ≤ m ∧ s11 = .int .i64 i ∧ s3 = .int .i64 S ∧ S = (Ls.take i).flatten.length ∧ w = wr) (fun _ s11 _ => m - (intOf s11).toNat)
  case atStart => exact ⟨0, 0, Nat.zero_le _, rfl, rfl, rfl, rfl⟩
  case round =>
    obtain ⟨i, S, hi, rfl, rfl, hS, rfl⟩ := hrel
    have HS := Lib.hid hS
    have hS2 : S ≤ 10000 := by have := flat_le (Ls := Ls) i; have := H2.out; omega
    clear hS
    by_cases hlt : i < m
    · obtain ⟨v, l, hv, hl⟩ := HAT.out i hlt
      have hc := HC.out i v hv
      obtain ⟨A, n, k, rfl, hn, _, _⟩ := (HR.out i v l hv hl).open_
      have hi1 : (0 : Int) ≤ (i : Int) := by omega
      have hi2 : (i : Int) < (m : Int) := by omega
      have hnx := flat_take hl
      have hS3 : S + n = (Ls.take (i + 1)).flatten.length := by rw [hnx, List.length_append, HS.out, hn]
      have hS4 : S + n ≤ 10000 := by have := flat_le (Ls := Ls) (i + 1); have := H2.out; omega
      have HS3 := Lib.hid hS3
      have hng : ¬ ((S : Int) + (n : Int) < 0) := by omega
      clear hv hl hn hnx hS3
      go_wp2_with fail
      exact ⟨⟨i + 1, S + n, by omega, by go_num, by go_num, HS3.out, by first | rfl | trivial⟩, by simp [intOf]; omega⟩
    · obtain rfl : i = m := by omega
      have hSe : S = Ls.flatten.length := by rw [HS.out, HM.out, List.take_length]
      have hS1 : 1 ≤ S := by have := H1.out; omega
      have HSE := Lib.hid hSe
      have HGR := Lib.hid (grow_calls S w hS1 hS2)
      clear hSe
      go_wp2_with fail
      (with_reducible refine HGR.out.mono ?_)
      rintro e w1 ⟨v1, rfl, ho1, hB1⟩
      obtain ⟨A1, c1, rfl⟩ := ho1.form
      have HO1 := Lib.hid ho1
      have HB1 := Lib.hid hB1
      clear ho1 hB1
      go_wp2_with fail
      go_loopw [6, 27] (fun s6 s27 wq => ∃ (k : Nat) (acc : List Int) (Z : Option Addr) (z : Nat), k ≤ i ∧ s27 = .int .i64 k ∧ s6 = .slice Z acc.length z ∧ acc = (Ls.take k).flatten ∧ OwnI B wq (.slice Z acc.length z) acc ∧ Below w.heap.size w wq) (fun _ s27 _ => i - (intOf s27).toNat)
      case atStart => exact ⟨0, [], A1, c1, Nat.zero_le _, rfl, rfl, rfl, by rw [HB.out]; exact HO1.out, HB1.out⟩
      case round =>
        obtain ⟨k, acc, Z, z, hk, rfl, rfl, hacc, how, hbq⟩ := hrel
        have HACC := Lib.hid hacc
        have HOW := Lib.hid how
        have HBQ := Lib.hid hbq
        clear hacc how hbq
        by_cases hlt2 : k < i
        · obtain ⟨v, l, hv, hl⟩ := HAT.out k hlt2
          have hc : w.cell? ⟨g, k, none⟩ = some v := HC.out k v hv
          have hc2 := (HBQ.out.cell (p := ⟨g, k, none⟩) HG.out).trans hc
          have hf := (HR.out k v l hv hl).below HBQ.out
          obtain ⟨A, n, cc, rfl, hn, _, _⟩ := hf.open_
          have HF := Lib.hid hf
          have hi1 : (0 : Int) ≤ (k : Int) := by omega
          have hi2 : (k : Int) < (i : Int) := by omega
          have hnx := flat_take hl
          have hle : acc.length + l.length ≤ 1000000 := by
            have := flat_le (Ls := Ls) (k + 1)
            rw [hnx, List.length_append, ← HACC.out] at this
            have := H2.out
            omega
          have hBw : B ≤ wr.heap.size := by rw [HB.out]; exact HBQ.out.size
          have HNX := Lib.hid hnx
          clear hv hl hn hc hf hnx
          go_wp2_with (at_builtin; refine wpList_app_run (by rfl) (.tmp 31) (.tmp 32) (by rfl) B _ _ acc l (by rfl) (by rfl) HOW.out HF.out hle hBw ?_; intro v' w' hown' hbl')
          obtain ⟨Z2, z2, hZ⟩ := hown'.form
          have HO2 := Lib.hid hown'
          have HB2 : Hid (Below w.heap.size w w') := Lib.hid (by have := hbl' w (by rw [HB.out]; exact HBQ.out); rw [HB.out] at this; exact this)
          clear hown' hbl'
          subst hZ
          go_wp2_with fail
          exact ⟨⟨k + 1, acc ++ l, Z2, z2, by omega, by go_num, rfl, by rw [HNX.out, HACC.out], HO2.out, HB2.out⟩, by simp [intOf]; omega⟩
        · obtain rfl : k = i := by omega
          have hfin : acc = Ls.flatten := by rw [HACC.out, HM.out, List.take_length]
          have HFI := Lib.hid hfin
          have hnl : decide ((k : Int) < (k : Int)) = false := by simp
          clear hfin
          go_wp2_with fail
          go_ret
          exact ⟨_, rfl, by rw [← HFI.out, ← HB.out]; exact HOW.out, HBQ.out⟩

end Go.Proofs.YtgeiemccjionpaaGreat.Chn
