/- Contracts and plain mathematics that the statement's proof wants: no statement is proved here, nothing is assumed. -/
import Derived.Lib.AppendZeros
import Derived.Laws.OwnMore
import Derived.Test.YtgeiemccjionpaaGreatMg15
import Derived.Test.YtgeiemccjionpaaGreatMg18
import Derived.Test.YtgeiemccjionpaaGreatMg19
import Derived.Test.YtgeiemccjionpaaGreatMg20
/- PCat -/
namespace Go.Proofs.YtgeiemccjionpaaGreat.Vlt
open Go.RowKit Go.Sort
open Dsk

theorem lfCells_one_all (l : List Lf) : ∀ u ∈ lfCells l, u.oneCell' = true := by
  intro u hu
  unfold lfCells at hu
  obtain ⟨p, _, hp⟩ := List.mem_flatMap.1 hu
  simp only [List.mem_cons, List.not_mem_nil, or_false] at hp
  rcases hp with rfl | rfl <;> rfl

theorem app_none {w : World} {B : Nat} {v : Value} {l : List Lf} (ty : TypeId) (c : Nat) {i : TypeInfo} (hi : Tryz.prog.info? 98 = some i) (hown : OwnL B w v l) :
    (Builtin.append_ #[30, 30] ty #[v, .slice none 0 c]).run Tryz.prog w = .ok v w := by
  have ht := Tryz.underlying30
  rcases hown.2 with ⟨rfl, h0⟩ | ⟨g, cap, cur, rfl, _, _, hnc, _⟩
  · simp [Builtin.append_, run_underlying ht, sizeOf, typeInfo, hi, Builtin.lenOf, Builtin.firstCells]
  · simp [Builtin.append_, run_underlying ht, sizeOf, typeInfo, hi, Builtin.lenOf, Builtin.firstCells, hnc, storeCells]

/-- Pages that are appended to a slice of the call's own. -/
theorem app_run {w : World} {B : Nat} {v u : Value} {l m : List Lf} (ty : TypeId) (hown : OwnL B w v l) (hu : IsLfs w u m) (hl : l.length + m.length ≤ 1000000) (hB : B ≤ w.heap.size) :
    ∃ v' w', (Builtin.append_ #[30, 30] ty #[v, u]).run Tryz.prog w = .ok v' w' ∧ OwnL B w' v' (l ++ m) ∧ ∀ (a : World), Below B a w → Below B a w' := by
  obtain ⟨i1, hi0, hz0, hz1, hz2⟩ := info_parts info48
  obtain ⟨A, n, c, rfl, hn, hnc, hr⟩ := hu.open_
  have mk : ∀ (ad : Addr), (∀ (j : Nat) (x : Value), (lfCells m)[j]? = some x → w.cell? (ad.add j) = some x) → ∃ v' w', (Builtin.append_ #[30, 30] ty #[v, .slice (some ad) n c]).run Tryz.prog w = .ok v' w' ∧ OwnL B w' v' (l ++ m) ∧ ∀ (a : World), Below B a w → Below B a w' := by
    intro ad had
    obtain ⟨v', w', h1, h2, h3, _, _⟩ := run_append_own_at (P := Tryz.prog) (w := w) B 30 ty 98 i1 _ 2 24 Tryz.underlying30 hi0 hz0 hz1 hz2 (by rfl) (by omega) v l.length (lfCells l) hown ad n c (lfCells m) (by rw [lfCells_length, hn]) had (lfCells_one_all m) (Nat.le_trans (show l.length + n ≤ 1000000 by omega) (by decide)) (by omega) hB
    refine ⟨v', w', h1, ?_, fun a ha => below_grown ha h3 hown.ge hB⟩
    unfold OwnL
    rw [lfCells_append, List.length_append, ← hn]
    exact h2
  cases A with
  | some ad =>
    by_cases h0 : 0 < n
    · obtain ⟨b, off, e, hb, hc⟩ := hr.at_ h0
      injection e with e
      subst e
      exact mk _ fun j x hx => by rw [Addr.add_lit]; exact hc j x hx
    · have : m = [] := List.eq_nil_of_length_eq_zero (by omega)
      subst this
      exact mk _ fun j x hx => by cases hx
  | none =>
    by_cases h0 : 0 < n
    · obtain ⟨b, off, e, _⟩ := hr.at_ h0
      cases e
    · have : m = [] := List.eq_nil_of_length_eq_zero (by omega)
      subst this
      obtain rfl : n = 0 := by simpa using hn
      exact ⟨v, w, app_none ty c hi0 hown, by simpa using hown, fun a h => h⟩

theorem wpList_app_run {w : World} {ops : Array Oper} {rest : List Oper} {o : Oper} {a : Act} {Q : Exit → Act → World → Prop} (hgd : o.guard = none) (s x : Operand)
    (ho : o.op = .call { callee := .builtin .append, args := #[s, x], argTypes := #[30, 30] }) (B : Nat) (v u : Value) (l m : List Lf) (hs : a.eval s = v) (hx : a.eval x = u)
    (hown : OwnL B w v l) (hu : IsLfs w u m) (hl : l.length + m.length ≤ 1000000) (hB : B ≤ w.heap.size)
    (h : ∀ v' w', OwnL B w' v' (l ++ m) → (∀ (a : World), Below B a w → Below B a w') → wpList Tryz.prog ops Q rest (a.put o.dst v') w') : wpList Tryz.prog ops Q (o :: rest) a w := by
  refine wpList_plain hgd fun K hK => ?_
  obtain ⟨v', w', hr, h2, h3⟩ := app_run o.type hown hu hl hB
  unfold Oper.wp execOp
  simp only [ho, resolve, invoke, builtin, Sem.run_bind, Sem.run_pure, Result.andThen_ok, List.map_toArray, List.map_cons, List.map_nil, hs, hx, hr]
  exact hK _ _ (h v' w' h2 h3)

set_option maxRecDepth 100000 in
set_option maxHeartbeats 4000000 in
theorem grow_calls (n : Nat) (w : World) (h1 : 1 ≤ n) (h2 : n ≤ 10000) :
    Calls Tryz.prog 99 #[.slice none 0 0, .int .i64 (n : Nat)] w fun e w' => ∃ v', e = .returned v' ∧ OwnL w.heap.size w' v' [] ∧ Below w.heap.size w w' := by
  obtain ⟨i1, hi0, hz0, hz1, hz2⟩ := info_parts info48
  have hn1 : ¬ ((n : Int) < 0) := by omega
  have hn2 : (n : Int) > 0 := by omega
  obtain ⟨G, hG⟩ : ∃ G, G = grownCap w n 0 98 := ⟨_, rfl⟩
  have hGn : n ≤ G := by rw [hG]; exact grownCap_ge w _ _ _
  have hGm : G ≤ maxLen := by rw [hG]; exact grownCap_le_maxLen w n 0 98 (Nat.le_trans (show n ≤ 1000000 by omega) (by decide))
  have hG63 : G ≤ 9223372036854775807 := Nat.le_trans hGm (by decide)
  obtain ⟨W, hW⟩ : ∃ W, W = w.drew.alloc (.cells (Builtin.zeroCells (Value.cells (.agg #[.int .i64 0, .string ⟨#[]⟩])) n ++ Builtin.zeroCells (Value.cells (.agg #[.int .i64 0, .string ⟨#[]⟩])) (G - n)) 98) := ⟨_, rfl⟩
  have hrz : ∀ ty, (Builtin.append_ #[30, 3] ty #[.slice none 0 0, .int .i64 (n : Nat)]).run Tryz.prog w = .ok (.slice (some ⟨w.heap.size, 0, none⟩) n G) W := fun ty => by
    have h := Lib.run_append_nil_zeros w 30 3 ty 98 i1 _ .i64 .i64 Tryz.underlying30 Tryz.underlying3 hi0 hz0 n (by omega) (by omega) (by omega) (by rw [hz2]; omega)
    rw [← hG, ← hW] at h
    exact h
  have HB : Hid (Below w.heap.size w W) := Lib.hid (by rw [hW]; exact (Below.refl w.heap.size w).drew.alloc (Nat.le_refl _) _)
  have hzs : (Value.cells (.agg #[.int .i64 0, .string ⟨#[]⟩])).size = 2 := by rfl
  have HO : Hid (OwnL w.heap.size W (.slice (some ⟨w.heap.size, 0, none⟩) 0 G) []) := Lib.hid (by
    refine ⟨rfl, .inr ⟨w.heap.size, G, _, rfl, Nat.le_refl _, by rw [hW]; exact heap_alloc_new w.drew _, Nat.zero_le _, hGm, ?_, by simp [lfCells]⟩⟩
    rw [Array.size_append, size_zeroCells, size_zeroCells, hzs, ← Nat.add_mul]
    congr 1
    omega)
  clear hG hGm hW
  go_enter Tryz.func99, Tryz.ntmps99
  go_wp2_with (at_builtin; refine Lib.wpList_append_run _ rfl _ _ _ _ rfl _ _ rfl rfl _ _ (hrz _) ?_)
  all_goals (go_ret; exact ⟨_, rfl, HO.out, HB.out⟩)

theorem flat_take {Ls : List (List Lf)} {i : Nat} {l : List Lf} (h : Ls[i]? = some l) : (Ls.take (i + 1)).flatten = (Ls.take i).flatten ++ l := by
  rw [List.take_add_one, h]
  simp
theorem flat_le {Ls : List (List Lf)} (i : Nat) : (Ls.take i).flatten.length ≤ Ls.flatten.length := by
  have h : Ls.flatten = (Ls.take i).flatten ++ (Ls.drop i).flatten := by rw [← List.flatten_append, List.take_append_drop]
  rw [h, List.length_append]
  omega

set_option maxRecDepth 100000 in
set_option maxHeartbeats 4000000 in
theorem concat_calls (g : Nat) (vs : List Value) (Ls : List (List Lf)) (m c : Nat) (w : World) (hg : g < w.heap.size) (hm : m = vs.length) (hmm : m = Ls.length) (hm10 : m ≤ 10) (hcell : ∀ (i : Nat) (v : Value), vs[i]? = some v → w.cell? ⟨g, i, none⟩ = some v)
    (hr : ∀ (i : Nat) (v : Value) (l : List Lf), vs[i]? = some v → Ls[i]? = some l → IsLfs w v l) (h1 : 1 ≤ Ls.flatten.length) (h2 : Ls.flatten.length ≤ 10000) :
    Calls Tryz.prog 91 #[.slice (some ⟨g, 0, none⟩) m c] w fun e w' => ∃ v', e = .returned v' ∧ OwnL w.heap.size w' v' Ls.flatten ∧ Below w.heap.size w w' := by
  obtain ⟨B, hB⟩ : ∃ B, B = w.heap.size := ⟨_, rfl⟩
  have hat : ∀ i, i < m → ∃ v l, vs[i]? = some v ∧ Ls[i]? = some l := fun i hi => ⟨_, _, List.getElem?_eq_getElem (by omega), List.getElem?_eq_getElem (by omega)⟩
  have HM := Lib.hid hmm
  have HAT := Lib.hid hat
  have HC := Lib.hid hcell
  have HR := Lib.hid hr
  have H1 := Lib.hid h1
  have H2 := Lib.hid h2
  have HG := Lib.hid hg
  have HB := Lib.hid hB
  clear hg hcell hr h1 h2 hat hm hmm hB
  go_enter Tryz.func91, Tryz.ntmps91
  go_wp2_with fail
  go_loopw [3, 11] (fun s3 s11 wr => ∃ i S : Nat, i ≤ m ∧ s11 = .int .i64 i ∧ s3 = .int .i64 S ∧ S = (Ls.take i).flatten.length ∧ w = wr) (fun _ s11 _ => m - (intOf s11).toNat)
  case atStart => exact ⟨0, 0, Nat.zero_le _, rfl, rfl, rfl, rfl⟩
  case round =>
    obtain ⟨i, S, hi, rfl, rfl, hS, rfl⟩ := hrel
    have HS := Lib.hid hS
    have hS2 : S ≤ 10000 := by have := flat_le (Ls := Ls) i; have := H2.out; omega
    clear hS
    by_cases hlt : i < m
    · obtain ⟨v, l, hv, hl⟩ := HAT.out i hlt
      have hc := HC.out i v hv
      obtain ⟨A, n, k, rfl, hn, _, _⟩ := (HR.out i v l hv hl).open_
      have hi1 : (0 : Int) ≤ (i : Int) := by omega
      have hi2 : (i : Int) < (m : Int) := by omega
      have hnx := flat_take hl
      have hS3 : S + n = (Ls.take (i + 1)).flatten.length := by rw [hnx, List.length_append, HS.out, hn]
      have hS4 : S + n ≤ 10000 := by have := flat_le (Ls := Ls) (i + 1); have := H2.out; omega
      have HS3 := Lib.hid hS3
      have hng : ¬ ((S : Int) + (n : Int) < 0) := by omega
      clear hv hl hn hnx hS3
      go_wp2_with fail
      exact ⟨⟨i + 1, S + n, by omega, by go_num, by go_num, HS3.out, by first | rfl | trivial⟩, by simp [intOf]; omega⟩
    · obtain rfl : i = m := by omega
      have hSe : S = Ls.flatten.length := by rw [HS.out, HM.out, List.take_length]
      have hS1 : 1 ≤ S := by have := H1.out; omega
      have HSE := Lib.hid hSe
      have HGR := Lib.hid (grow_calls S w hS1 hS2)
      clear hSe
      go_wp2_with fail
      (with_reducible refine HGR.out.mono ?_)
      rintro e w1 ⟨v1, rfl, ho1, hB1⟩
      obtain ⟨A1, c1, rfl⟩ := ho1.form
      have HO1 := Lib.hid ho1
      have HB1 := Lib.hid hB1
      clear ho1 hB1
      go_wp2_with fail
      go_loopw [6, 27] (fun s6 s27 wq => ∃ (k : Nat) (acc : List Lf) (Z : Option Addr) (z : Nat), k ≤ i ∧ s27 = .int .i64 k ∧ s6 = .slice Z acc.length z ∧ acc = (Ls.take k).flatten ∧ OwnL B wq (.slice Z acc.length z) acc ∧ Below w.heap.size w wq) (fun _ s27 _ => i - (intOf s27).toNat)
      case atStart => exact ⟨0, [], A1, c1, Nat.zero_le _, rfl, rfl, rfl, by rw [HB.out]; exact HO1.out, HB1.out⟩
      case round =>
        obtain ⟨k, acc, Z, z, hk, rfl, rfl, hacc, how, hbq⟩ := hrel
        have HACC := Lib.hid hacc
        have HOW := Lib.hid how
        have HBQ := Lib.hid hbq
        clear hacc how hbq
        by_cases hlt2 : k < i
        · obtain ⟨v, l, hv, hl⟩ := HAT.out k hlt2
          have hc : w.cell? ⟨g, k, none⟩ = some v := HC.out k v hv
          have hc2 := (HBQ.out.cell (p := ⟨g, k, none⟩) HG.out).trans hc
          have hf := (HR.out k v l hv hl).below HBQ.out
          obtain ⟨A, n, cc, rfl, hn, _, _⟩ := hf.open_
          have HF := Lib.hid hf
          have hi1 : (0 : Int) ≤ (k : Int) := by omega
          have hi2 : (k : Int) < (i : Int) := by omega
          have hnx := flat_take hl
          have hle : acc.length + l.length ≤ 1000000 := by
            have := flat_le (Ls := Ls) (k + 1)
            rw [hnx, List.length_append, ← HACC.out] at this
            have := H2.out
            omega
          have hBw : B ≤ wr.heap.size := by rw [HB.out]; exact HBQ.out.size
          have HNX := Lib.hid hnx
          clear hv hl hn hc hf hnx
          go_wp2_with (at_builtin; refine wpList_app_run (by rfl) (.tmp 31) (.tmp 32) (by rfl) B _ _ acc l (by rfl) (by rfl) HOW.out HF.out hle hBw ?_; intro v' w' hown' hbl')
          obtain ⟨Z2, z2, hZ⟩ := hown'.form
          have HO2 := Lib.hid hown'
          have HB2 : Hid (Below w.heap.size w w') := Lib.hid (by have := hbl' w (by rw [HB.out]; exact HBQ.out); rw [HB.out] at this; exact this)
          clear hown' hbl'
          subst hZ
          go_wp2_with fail
          exact ⟨⟨k + 1, acc ++ l, Z2, z2, by omega, by go_num, rfl, by rw [HNX.out, HACC.out], HO2.out, HB2.out⟩, by simp [intOf]; omega⟩
        · obtain rfl : k = i := by omega
          have hfin : acc = Ls.flatten := by rw [HACC.out, HM.out, List.take_length]
          have HFI := Lib.hid hfin
          have hnl : decide ((k : Int) < (k : Int)) = false := by simp
          clear hfin
          go_wp2_with fail
          go_ret
          exact ⟨_, rfl, by rw [← HFI.out, ← HB.out]; exact HOW.out, HBQ.out⟩

end Go.Proofs.YtgeiemccjionpaaGreat.Vlt

/- PSet -/
namespace Go.Proofs.YtgeiemccjionpaaGreat.Vlt
open Go.RowKit Go.Sort
open Dsk

theorem wt_at {w w' : World} {A : Option Addr} {n : Nat} {l : List (Int × ByteArray)} (h : Reads w 106 2 A n (wetCells l)) (hb : Below w.heap.size w w') {k : Nat} {o : Int × ByteArray} (ho : l[k]? = some o) (hn : 0 < n) :
    ∃ b off, A = some ⟨b, off, none⟩ ∧ w'.cell? ⟨b, off + k * 2, none⟩ = some (.int .i64 o.1) ∧ w'.cell? ⟨b, off + k * 2 + 1, none⟩ = some (.string o.2) := by
  obtain ⟨b, off, e, hbl, hc⟩ := h.at_ hn
  obtain ⟨h0, h1⟩ := wetCells_at l k o ho
  exact ⟨b, off, e, (hb.cell (p := ⟨b, off + k * 2, none⟩) hbl).trans (hc _ _ h0), (hb.cell (p := ⟨b, off + k * 2 + 1, none⟩) hbl).trans (hc _ _ h1)⟩

/-- The boxes of settle, between rounds: the disk's, the answer's. -/
structure SB2 (w W : World) (vs vw : Value) (d : DK) : Prop where
  dk : W.heap[w.heap.size]? = some (.cells #[vs, vw, .bool d.dead, .int .i64 d.left] 27 (0, 0))
  isd : IsDisk W (.agg #[vs, vw, .bool d.dead, .int .i64 d.left]) d
  zr : W.heap[w.heap.size + 1]? = some (.cells #[.slice none 0 0, .slice none 0 0, .bool false, .int .i64 0] 27 (0, 0))
  below : Below w.heap.size w W
section
variable {w W W' : World} {vs vw us uw : Value} {d e : DK}
theorem SB2.more (h : SB2 w W vs vw d) (k : Below W.heap.size W W') : SB2 w W' vs vw d :=
  ⟨box_kept _ h.dk k, h.isd.below k, box_kept _ h.zr k, Dsk.below_trans' h.below k⟩
theorem SB2.new (w : World) (h : IsDisk w (.agg #[vs, vw, .bool d.dead, .int .i64 d.left]) d) :
    ∃ Y, Y = (w.alloc (.cells #[vs, vw, .bool d.dead, .int .i64 d.left] 27)).alloc (.cells #[.slice none 0 0, .slice none 0 0, .bool false, .int .i64 0] 27) ∧ SB2 w Y vs vw d := by
  have b1 := below_one w (.cells #[vs, vw, .bool d.dead, .int .i64 d.left] 27)
  have b3 := below_one (w.alloc (.cells #[vs, vw, .bool d.dead, .int .i64 d.left] 27)) (.cells #[.slice none 0 0, .slice none 0 0, .bool false, .int .i64 0] 27)
  refine ⟨_, rfl, box_kept _ (heap_alloc_new w _) b3, (h.below b1).below b3, ?_, Dsk.below_trans' b1 b3⟩
  have := heap_alloc_new (w.alloc (.cells #[vs, vw, .bool d.dead, .int .i64 d.left] 27)) (.cells #[.slice none 0 0, .slice none 0 0, .bool false, .int .i64 0] 27)
  simpa using this
/-- Another disk is stored into the first box. -/
theorem SB2.put (h : SB2 w W vs vw d) (hv : IsDisk W (.agg #[us, uw, .bool e.dead, .int .i64 e.left]) e) :
    ∃ X, (((W.setCell ⟨w.heap.size, 0, none⟩ us).setCell ⟨w.heap.size, 1, none⟩ uw).setCell ⟨w.heap.size, 2, none⟩ (.bool e.dead)).setCell ⟨w.heap.size, 3, none⟩ (.int .i64 e.left) = X ∧ SB2 w X us uw e := by
  obtain ⟨X, hX, hb, hk, hB⟩ := box_store4 h.dk us uw (.bool e.dead) (.int .i64 e.left)
  exact ⟨X, hX, hb, hv.other h.dk (by decide) (by decide) hk, (hk _ (by omega)).trans h.zr, hB _ _ h.below (Nat.le_refl _)⟩
end

theorem take_next {l : List (Int × ByteArray)} {i : Nat} {o : Int × ByteArray} (ho : l[i]? = some o) : l.take (i + 1) = l.take i ++ [(o.1, o.2)] := by
  rw [List.take_add_one, ho]
  rfl

end Go.Proofs.YtgeiemccjionpaaGreat.Vlt

/- PPut -/
namespace Go.Proofs.YtgeiemccjionpaaGreat.Vlt
open Go.RowKit Go.Sort
open Dsk

/-- A slice of sectors of the call's own. -/
def OwnW (B : Nat) (w : World) (v : Value) (l : List (Int × ByteArray)) : Prop := w.ownsRow B 106 2 v l.length (wetCells l)
section
variable {B : Nat} {w w' : World} {v : Value} {l : List (Int × ByteArray)}
theorem OwnW.isWts (h : OwnW B w v l) : SL w 106 2 v l.length (wetCells l) := SL.of_own h
theorem OwnW.ge (h : OwnW B w v l) : ∀ k, v.ownBlock = some k → B ≤ k := fun k hk => (World.ownsRow.lt h k hk).1
theorem OwnW.below (h : OwnW B w v l) (hb : Below w.heap.size w w') : OwnW B w' v l := by
  refine ⟨h.1, ?_⟩
  rcases h.2 with hn | ⟨g, cap, cur, rfl, hg1, hg, rest⟩
  · exact .inl hn
  · exact .inr ⟨g, cap, cur, rfl, hg1, (hb.block g (Array.getElem?_eq_some_iff.1 hg).1).trans hg, rest⟩
theorem OwnW.form (h : OwnW B w v l) : ∃ A c, v = .slice A l.length c := by
  obtain ⟨A, c, e, _⟩ := h.isWts
  exact ⟨A, c, e⟩
end

theorem info72 : (Tryz.prog.info? 106).map (fun i => (i.zero, i.size, i.bytes)) = some (some (.agg #[.int .i64 0, .string ⟨#[]⟩]), 2, 24) := by kernel_rfl

/-- One sector more. -/
theorem one_run {w : World} {B : Nat} {v : Value} {l : List (Int × ByteArray)} (ty : TypeId) (hown : OwnW B w v l) (p : Int) (s : ByteArray) (g : Nat)
    (hg : w.heap[g]? = some (.cells #[.int .i64 p, .string s] 106 (0, 0))) (hl : l.length ≤ 100000) (hB : B ≤ w.heap.size) :
    ∃ v' w', (Builtin.append_ #[25, 25] ty #[v, .slice (some ⟨g, 0, none⟩) 1 1]).run Tryz.prog w = .ok v' w' ∧ OwnW B w' v' (l ++ [(p, s)]) ∧ (∀ (a : World), Below B a w → Below B a w') ∧ (∀ k ob, w.heap[k]? = some ob → some k ≠ v.ownBlock → w'.heap[k]? = some ob) ∧ w.heap.size ≤ w'.heap.size := by
  obtain ⟨i1, hi0, hz0, hz1, hz2⟩ := info_parts info72
  obtain ⟨v', w', h1, h2, h3, _, _⟩ := run_append_own_at (P := Tryz.prog) (w := w) B 25 ty 106 i1 _ 2 24 Tryz.underlying25 hi0 hz0 hz1 hz2 (by rfl) (by omega) v l.length (wetCells l) hown ⟨g, 0, none⟩ 1 1 [.int .i64 p, .string s] (by rfl)
    (World.news_of_block hg) (by intro u hu; simp only [List.mem_cons, List.not_mem_nil, or_false] at hu; rcases hu with rfl | rfl <;> rfl) (Nat.le_trans (show l.length + 1 ≤ 1000000 by omega) (by decide)) (by omega) hB
  refine ⟨v', w', h1, ?_, fun a ha => below_grown ha h3 hown.ge hB, fun k ob hk hne => (h3.block k (Array.getElem?_eq_some_iff.1 hk).1 hne).trans hk, h3.size⟩
  unfold OwnW
  rw [wetCells_append, wetCells_one, List.length_append]
  exact h2

theorem step_one {w : World} {ops : Array Oper} {o : Oper} {a : Act} {K : Act → World → Prop} {Q : Exit → Act → World → Prop} {E : Prop} (hg0 : o.guard = none) (s x : Operand)
    (ho : o.op = Op.call { callee := Callee.builtin Builtin.append, args := #[s, x], argTypes := #[25, 25] }) (B : Nat) (v : Value) (l : List (Int × ByteArray)) (p : Int) (b : ByteArray) (g : Nat)
    (hs : a.eval s = v) (hx : a.eval x = .slice (some ⟨g, 0, none⟩) 1 1) (hown : OwnW B w v l) (hg : w.heap[g]? = some (.cells #[.int .i64 p, .string b] 106 (0, 0))) (hl : l.length ≤ 100000) (hB : B ≤ w.heap.size)
    (h : ∀ v' w', OwnW B w' v' (l ++ [(p, b)]) → (∀ (a : World), Below B a w → Below B a w') → (∀ k ob, w.heap[k]? = some ob → some k ≠ v.ownBlock → w'.heap[k]? = some ob) → w.heap.size ≤ w'.heap.size → K (a.put o.dst v') w') :
    if Region.wanted o (yielded ops a.tmps) = true then Oper.wp Tryz.prog o a w K Q else E := by
  have hw : Region.wanted o (yielded ops a.tmps) = true := by simp [Region.wanted, hg0]
  rw [if_pos hw]
  obtain ⟨v', w', hr, h2, h3, h4, h5⟩ := one_run o.type hown p b g hg hl hB
  unfold Oper.wp
  simp [execOp, ho, resolve, invoke, builtin, hs, hx, hr, Result.andThen]
  exact h v' w' h2 h3 h4 h5

/-- What lies in a round of placed. -/
structure PRD (w W : World) (x : Sh) (g : Nat) (o : Lf) (B : Nat) (v : Value) (acc : List (Int × ByteArray)) : Prop where
  sh : SBox W w.heap.size x
  lf : Ent.LBox W g o.no o.data
  own : OwnW B W v acc
  below : Below w.heap.size w W
  size : B ≤ W.heap.size
  big : w.heap.size < B
  ne : ∀ k, v.ownBlock = some k → B ≤ k ∧ k < g
section
variable {w W W' : World} {x : Sh} {g B : Nat} {o : Lf} {v : Value} {acc : List (Int × ByteArray)}
theorem PRD.more (h : PRD w W x g o B v acc) (k : Below W.heap.size W W') : PRD w W' x g o B v acc := ⟨h.sh.below k, h.lf.below k, h.own.below k, Dsk.below_trans' h.below k, Nat.le_trans h.size k.size, h.big, h.ne⟩
theorem PRD.cells (h : PRD w W x g o B v acc) : (W.cell? ⟨w.heap.size, 0, none⟩ = some (.int .i64 x.pages) ∧ W.cell? ⟨w.heap.size, 1, none⟩ = some (.int .i64 x.journal)) ∧
    W.cell? ⟨g, 0, none⟩ = some (.int .i64 o.no) ∧ W.cell? ⟨g, 1, none⟩ = some (.string (strB o.data)) := ⟨⟨h.sh.c0, h.sh.c1⟩, h.lf.c0, h.lf.c1⟩
/-- A sector more. -/
theorem PRD.app (h : PRD w W x g o B v acc) {v' : Value} {acc' : List (Int × ByteArray)} (ho : OwnW B W' v' acc') (hb : ∀ (a : World), Below B a W → Below B a W') (hk : ∀ k ob, W.heap[k]? = some ob → some k ≠ v.ownBlock → W'.heap[k]? = some ob) (hs : W.heap.size ≤ W'.heap.size) :
    SBox W' w.heap.size x ∧ Ent.LBox W' g o.no o.data ∧ OwnW B W' v' acc' ∧ Below w.heap.size w W' ∧ B ≤ W'.heap.size := by
  have big := h.big
  refine ⟨hk _ _ h.sh fun e => ?_, hk _ _ h.lf fun e => ?_, ho, ?_, Nat.le_trans h.size hs⟩
  · have := (h.ne _ e.symm).1; omega
  · have := (h.ne _ e.symm).2; omega
  · exact h.below.trans ((hb W (Below.refl _ _)).mono (by omega))
end

theorem make_wts (n : Nat) (hn : n ≤ 100000) (W : World) : ∃ Z : Array Value, Z.size = n * 2 ∧ (Instr.makeSlice 25 (.int .i64 0) (.int .i64 (n : Nat))).run Tryz.prog W = .ok (.slice (some ⟨W.heap.size, 0, none⟩) 0 n) (W.alloc (.cells Z 106)) := by
  obtain ⟨i0, hi, hz0, hz1, hz2⟩ := info_parts info72
  refine ⟨madeCells (Value.cells (.agg #[.int .i64 0, .string ⟨#[]⟩])) (n * 2), size_madeCells _ _, ?_⟩
  have := run_make (P := Tryz.prog) W 25 106 i0 _ Tryz.underlying25 hi hz0 .i64 .i64 0 (n : Int) (by omega) (by omega) (by rw [hz2]; omega) (by omega)
  rw [this, hz1]
  rfl

end Go.Proofs.YtgeiemccjionpaaGreat.Vlt

/- HPush -/
namespace Go.Proofs.YtgeiemccjionpaaGreat.Chn
open Go.RowKit Go.Sort
open Dsk Vlt

theorem push_run {w : World} {B : Nat} {v : Value} {l : List Int} (ty : TypeId) (hown : OwnI B w v l) (y : Int) (g : Nat)
    (hg : w.heap[g]? = some (.cells #[.int .i64 y] 3 (0, 0))) (hl : l.length ≤ 500000) (hB : B ≤ w.heap.size) :
    ∃ v' w', (Builtin.append_ #[36, 36] ty #[v, .slice (some ⟨g, 0, none⟩) 1 1]).run Tryz.prog w = .ok v' w' ∧ OwnI B w' v' (l ++ [y]) ∧ (∀ (a : World), Below B a w → Below B a w') ∧ (∀ k ob, w.heap[k]? = some ob → some k ≠ v.ownBlock → w'.heap[k]? = some ob) ∧ w.heap.size ≤ w'.heap.size ∧ (v'.ownBlock = v.ownBlock ∨ v'.ownBlock = some w.heap.size) := by
  obtain ⟨i1, hi0, hz0, hz1, hz2⟩ := info_parts infoI
  obtain ⟨v', w', h1, h2, h3, _, h5⟩ := run_append_own_at (P := Tryz.prog) (w := w) B 36 ty 3 i1 _ 1 8 Tryz.underlying36 hi0 hz0 hz1 hz2 (by rfl) (by omega) v l.length (intC l) hown ⟨g, 0, none⟩ 1 1 [.int .i64 y] (by rfl)
    (World.news_of_block hg) (oneI y) (Nat.le_trans (show l.length + 1 ≤ 1000000 by omega) (by decide)) (by omega) hB
  refine ⟨v', w', h1, ?_, fun a ha => Vlt.below_grown ha h3 hown.ge hB, fun k ob hk hne => (h3.block k (Array.getElem?_eq_some_iff.1 hk).1 hne).trans hk, h3.size, h5⟩
  unfold OwnI
  rw [intC_append, intC_one, List.length_append]
  exact h2

theorem wpList_push {w : World} {ops : Array Oper} {rest : List Oper} {o : Oper} {a : Act} {Q : Exit → Act → World → Prop} (hgd : o.guard = none) (s x : Operand)
    (ho : o.op = .call { callee := .builtin .append, args := #[s, x], argTypes := #[36, 36] }) (B : Nat) (v : Value) (l : List Int) (y : Int) (g : Nat) (hs : a.eval s = v) (hx : a.eval x = .slice (some ⟨g, 0, none⟩) 1 1)
    (hown : OwnI B w v l) (hg : w.heap[g]? = some (.cells #[.int .i64 y] 3 (0, 0))) (hl : l.length ≤ 500000) (hB : B ≤ w.heap.size)
    (h : ∀ Z z w', OwnI B w' (.slice Z (l.length + 1) z) (l ++ [y]) → (∀ (a : World), Below B a w → Below B a w') → (∀ k ob, w.heap[k]? = some ob → some k ≠ v.ownBlock → w'.heap[k]? = some ob) → w.heap.size ≤ w'.heap.size → ((Value.slice Z (l.length + 1) z).ownBlock = v.ownBlock ∨ (Value.slice Z (l.length + 1) z).ownBlock = some w.heap.size) → wpList Tryz.prog ops Q rest (a.put o.dst (.slice Z (l.length + 1) z)) w') : wpList Tryz.prog ops Q (o :: rest) a w := by
  refine wpList_plain hgd fun K hK => ?_
  obtain ⟨v', w', hr, h2, h3, h4, h5, h6⟩ := push_run o.type hown y g hg hl hB
  obtain ⟨Z, z, e⟩ := h2.form
  rw [List.length_append] at e
  change v' = .slice Z (l.length + 1) z at e
  subst e
  unfold Oper.wp execOp
  simp only [ho, resolve, invoke, builtin, Sem.run_bind, Sem.run_pure, Result.andThen_ok, List.map_toArray, List.map_cons, List.map_nil, hs, hx, hr]
  exact hK _ _ (h Z z w' h2 h3 h4 h5 h6)

theorem step_push {w : World} {ops : Array Oper} {o : Oper} {a : Act} {K : Act → World → Prop} {Q : Exit → Act → World → Prop} {E : Prop} (hg0 : o.guard = none) (s x : Operand)
    (ho : o.op = Op.call { callee := Callee.builtin Builtin.append, args := #[s, x], argTypes := #[36, 36] }) (B : Nat) (v : Value) (l : List Int) (y : Int) (g : Nat)
    (hs : a.eval s = v) (hx : a.eval x = .slice (some ⟨g, 0, none⟩) 1 1) (hown : OwnI B w v l) (hg : w.heap[g]? = some (.cells #[.int .i64 y] 3 (0, 0))) (hl : l.length ≤ 500000) (hB : B ≤ w.heap.size)
    (h : ∀ Z z w', OwnI B w' (.slice Z (l.length + 1) z) (l ++ [y]) → (∀ (a : World), Below B a w → Below B a w') → (∀ k ob, w.heap[k]? = some ob → some k ≠ v.ownBlock → w'.heap[k]? = some ob) → w.heap.size ≤ w'.heap.size → ((Value.slice Z (l.length + 1) z).ownBlock = v.ownBlock ∨ (Value.slice Z (l.length + 1) z).ownBlock = some w.heap.size) → K (a.put o.dst (.slice Z (l.length + 1) z)) w') :
    if Region.wanted o (yielded ops a.tmps) = true then Oper.wp Tryz.prog o a w K Q else E := by
  have hw : Region.wanted o (yielded ops a.tmps) = true := by simp [Region.wanted, hg0]
  rw [if_pos hw]
  obtain ⟨v', w', hr, h2, h3, h4, h5, h6⟩ := push_run o.type hown y g hg hl hB
  obtain ⟨Z, z, e⟩ := h2.form
  rw [List.length_append] at e
  change v' = .slice Z (l.length + 1) z at e
  subst e
  unfold Oper.wp
  simp [execOp, ho, resolve, invoke, builtin, hs, hx, hr, Result.andThen]
  exact h Z z w' h2 h3 h4 h5 h6
end Go.Proofs.YtgeiemccjionpaaGreat.Chn
