/- Contracts and plain mathematics that the statement's proof wants: no statement is proved here, nothing is assumed. -/
import Derived.Lib.AppendZeros
import Derived.Laws.OwnMore
import Derived.Test.YtnbbijpmkhdgpaaGreatMg12
import Derived.Test.YtnbbijpmkhdgpaaGreatMg17
import Derived.Test.YtnbbijpmkhdgpaaGreatMg23
/- PCat -/
namespace Go.Proofs.YtnbbijpmkhdgpaaGreat.Vlt
open Go.RowKit Go.Sort
open Dsk

theorem lfCells_one_all (l : List Lf) : ∀ u ∈ lfCells l, u.oneCell' = true := by
  intro u hu
  unfold lfCells at hu
  obtain ⟨p, _, hp⟩ := List.mem_flatMap.1 hu
  simp only [List.mem_cons, List.not_mem_nil, or_false] at hp
  rcases hp with rfl | rfl <;> rfl

theorem app_none {w : World} {B : Nat} {v : Value} {l : List Lf} (ty : TypeId) (c : Nat) {i : TypeInfo} (hi : Tryz.prog.info? 52 = some i) (hown : OwnL B w v l) :
    (Builtin.append_ #[31, 31] ty #[v, .slice none 0 c]).run Tryz.prog w = .ok v w := by
  have ht := Tryz.underlying31
  rcases hown.2 with ⟨rfl, h0⟩ | ⟨g, cap, cur, rfl, _, _, hnc, _⟩
  · simp [Builtin.append_, run_underlying ht, sizeOf, typeInfo, hi, Builtin.lenOf, Builtin.firstCells]
  · simp [Builtin.append_, run_underlying ht, sizeOf, typeInfo, hi, Builtin.lenOf, Builtin.firstCells, hnc, storeCells]

/-- Pages that are appended to a slice of the call's own. -/
theorem app_run {w : World} {B : Nat} {v u : Value} {l m : List Lf} (ty : TypeId) (hown : OwnL B w v l) (hu : IsLfs w u m) (hl : l.length + m.length ≤ 1000000) (hB : B ≤ w.heap.size) :
    ∃ v' w', (Builtin.append_ #[31, 31] ty #[v, u]).run Tryz.prog w = .ok v' w' ∧ OwnL B w' v' (l ++ m) ∧ ∀ (a : World), Below B a w → Below B a w' := by
  obtain ⟨i1, hi0, hz0, hz1, hz2⟩ := info_parts info48
  obtain ⟨A, n, c, rfl, hn, hnc, hr⟩ := hu.open_
  have mk : ∀ (ad : Addr), (∀ (j : Nat) (x : Value), (lfCells m)[j]? = some x → w.cell? (ad.add j) = some x) → ∃ v' w', (Builtin.append_ #[31, 31] ty #[v, .slice (some ad) n c]).run Tryz.prog w = .ok v' w' ∧ OwnL B w' v' (l ++ m) ∧ ∀ (a : World), Below B a w → Below B a w' := by
    intro ad had
    obtain ⟨v', w', h1, h2, h3, _, _⟩ := run_append_own_at (P := Tryz.prog) (w := w) B 31 ty 52 i1 _ 2 24 Tryz.underlying31 hi0 hz0 hz1 hz2 (by rfl) (by omega) v l.length (lfCells l) hown ad n c (lfCells m) (by rw [lfCells_length, hn]) had (lfCells_one_all m) (Nat.le_trans (show l.length + n ≤ 1000000 by omega) (by decide)) (by omega) hB
    refine ⟨v', w', h1, ?_, fun a ha => below_grown ha h3 hown.ge hB⟩
    unfold OwnL
    rw [lfCells_append, List.length_append, ← hn]
    exact h2
  cases A with
  | some ad =>
    by_cases h0 : 0 < n
    · obtain ⟨b, off, e, hb, hc⟩ := hr.at_ h0
      injection e with e
      subst e
      exact mk _ fun j x hx => by rw [Addr.add_lit]; exact hc j x hx
    · have : m = [] := List.eq_nil_of_length_eq_zero (by omega)
      subst this
      exact mk _ fun j x hx => by cases hx
  | none =>
    by_cases h0 : 0 < n
    · obtain ⟨b, off, e, _⟩ := hr.at_ h0
      cases e
    · have : m = [] := List.eq_nil_of_length_eq_zero (by omega)
      subst this
      obtain rfl : n = 0 := by simpa using hn
      exact ⟨v, w, app_none ty c hi0 hown, by simpa using hown, fun a h => h⟩

theorem wpList_app_run {w : World} {ops : Array Oper} {rest : List Oper} {o : Oper} {a : Act} {Q : Exit → Act → World → Prop} (hgd : o.guard = none) (s x : Operand)
    (ho : o.op = .call { callee := .builtin .append, args := #[s, x], argTypes := #[31, 31] }) (B : Nat) (v u : Value) (l m : List Lf) (hs : a.eval s = v) (hx : a.eval x = u)
    (hown : OwnL B w v l) (hu : IsLfs w u m) (hl : l.length + m.length ≤ 1000000) (hB : B ≤ w.heap.size)
    (h : ∀ v' w', OwnL B w' v' (l ++ m) → (∀ (a : World), Below B a w → Below B a w') → wpList Tryz.prog ops Q rest (a.put o.dst v') w') : wpList Tryz.prog ops Q (o :: rest) a w := by
  refine wpList_plain hgd fun K hK => ?_
  obtain ⟨v', w', hr, h2, h3⟩ := app_run o.type hown hu hl hB
  unfold Oper.wp execOp
  simp only [ho, resolve, invoke, builtin, Sem.run_bind, Sem.run_pure, Result.andThen_ok, List.map_toArray, List.map_cons, List.map_nil, hs, hx, hr]
  exact hK _ _ (h v' w' h2 h3)

set_option maxRecDepth 100000 in
set_option maxHeartbeats 4000000 in
theorem grow_calls (n : Nat) (w : World) (h1 : 1 ≤ n) (h2 : n ≤ 10000) :
    Calls Tryz.prog 113 #[.slice none 0 0, .int .i64 (n : Nat)] w fun e w' => ∃ v', e = .returned v' ∧ OwnL w.heap.size w' v' [] ∧ Below w.heap.size w w' := by
  obtain ⟨i1, hi0, hz0, hz1, hz2⟩ := info_parts info48
  have hn1 : ¬ ((n : Int) < 0) := by omega
  have hn2 : (n : Int) > 0 := by omega
  obtain ⟨G, hG⟩ : ∃ G, G = grownCap w n 0 52 := ⟨_, rfl⟩
  have hGn : n ≤ G := by rw [hG]; exact grownCap_ge w _ _ _
  have hGm : G ≤ maxLen := by rw [hG]; exact grownCap_le_maxLen w n 0 52 (Nat.le_trans (show n ≤ 1000000 by omega) (by decide))
  have hG63 : G ≤ 9223372036854775807 := Nat.le_trans hGm (by decide)
  obtain ⟨W, hW⟩ : ∃ W, W = w.drew.alloc (.cells (Builtin.zeroCells (Value.cells (.agg #[.int .i64 0, .string ⟨#[]⟩])) n ++ Builtin.zeroCells (Value.cells (.agg #[.int .i64 0, .string ⟨#[]⟩])) (G - n)) 52) := ⟨_, rfl⟩
  have hrz : ∀ ty, (Builtin.append_ #[31, 3] ty #[.slice none 0 0, .int .i64 (n : Nat)]).run Tryz.prog w = .ok (.slice (some ⟨w.heap.size, 0, none⟩) n G) W := fun ty => by
    have h := Lib.run_append_nil_zeros w 31 3 ty 52 i1 _ .i64 .i64 Tryz.underlying31 Tryz.underlying3 hi0 hz0 n (by omega) (by omega) (by omega) (by rw [hz2]; omega)
    rw [← hG, ← hW] at h
    exact h
  have HB : Hid (Below w.heap.size w W) := Lib.hid (by rw [hW]; exact (Below.refl w.heap.size w).drew.alloc (Nat.le_refl _) _)
  have hzs : (Value.cells (.agg #[.int .i64 0, .string ⟨#[]⟩])).size = 2 := by rfl
  have HO : Hid (OwnL w.heap.size W (.slice (some ⟨w.heap.size, 0, none⟩) 0 G) []) := Lib.hid (by
    refine ⟨rfl, .inr ⟨w.heap.size, G, _, rfl, Nat.le_refl _, by rw [hW]; exact heap_alloc_new w.drew _, Nat.zero_le _, hGm, ?_, by simp [lfCells]⟩⟩
    rw [Array.size_append, size_zeroCells, size_zeroCells, hzs, ← Nat.add_mul]
    congr 1
    omega)
  clear hG hGm hW
  go_enter Tryz.func113, Tryz.ntmps113
  go_wp2_with (at_builtin; refine Lib.wpList_append_run _ rfl _ _ _ _ rfl _ _ rfl rfl _ _ (hrz _) ?_)
  all_goals (go_ret; exact ⟨_, rfl, HO.out, HB.out⟩)

theorem flat_take {Ls : List (List Lf)} {i : Nat} {l : List Lf} (h : Ls[i]? = some l) : (Ls.take (i + 1)).flatten = (Ls.take i).flatten ++ l := by
  rw [List.take_add_one, h]
  simp
theorem flat_le {Ls : List (List Lf)} (i : Nat) : (Ls.take i).flatten.length ≤ Ls.flatten.length := by
  have h : Ls.flatten = (Ls.take i).flatten ++ (Ls.drop i).flatten := by rw [← List.flatten_append, List.take_append_drop]
  rw [h, List.length_append]
  omega

set_option maxRecDepth 100000 in
set_option maxHeartbeats 4000000 in
theorem concat_calls (g : Nat) (vs : List Value) (Ls : List (List Lf)) (m c : Nat) (w : World) (hg : g < w.heap.size) (hm : m = vs.length) (hmm : m = Ls.length) (hm10 : m ≤ 10) (hcell : ∀ (i : Nat) (v : Value), vs[i]? = some v → w.cell? ⟨g, i, none⟩ = some v)
    (hr : ∀ (i : Nat) (v : Value) (l : List Lf), vs[i]? = some v → Ls[i]? = some l → IsLfs w v l) (h1 : 1 ≤ Ls.flatten.length) (h2 : Ls.flatten.length ≤ 10000) :
    Calls Tryz.prog 91 #[.slice (some ⟨g, 0, none⟩) m c] w fun e w' => ∃ v', e = .returned v' ∧ OwnL w.heap.size w' v' Ls.flatten ∧ Below w.heap.size w w' := by
  obtain ⟨B, hB⟩ : ∃ B, B = w.heap.size := ⟨_, rfl⟩
  have hat : ∀ i, i < m → ∃ v l, vs[i]? = some v ∧ Ls[i]? = some l := fun i hi => ⟨_, _, List.getElem?_eq_getElem (by omega), List.getElem?_eq_getElem (by omega)⟩
  have HM := Lib.hid hmm
  have HAT := Lib.hid hat
  have HC := Lib.hid hcell
  have HR := Lib.hid hr
  have H1 := Lib.hid h1
  have H2 := Lib.hid h2
  have HG := Lib.hid hg
  have HB := Lib.hid hB
  clear hg hcell hr h1 h2 hat hm hmm hB
  go_enter Tryz.func91, Tryz.ntmps91
  go_wp2_with fail
  go_loopw [3, 11] (fun s3 s11 wr => ∃ i S : Nat, i ≤ m ∧ s11 = .int .i64 i ∧ s3 = .int .i64 S ∧ S = (Ls.take i).flatten.length ∧ w = wr) (fun _ s11 _ => m - (intOf s11).toNat)
  case atStart => exact ⟨0, 0, Nat.zero_le _, rfl, rfl, rfl, rfl⟩
  case round =>
    obtain ⟨i, S, hi, rfl, rfl, hS, rfl⟩ := hrel
    have HS := Lib.hid hS
    have hS2 : S ≤ 10000 := by have := flat_le (Ls := Ls) i; have := H2.out; omega
    clear hS
    by_cases hlt : i < m
    · obtain ⟨v, l, hv, hl⟩ := HAT.out i hlt
      have hc := HC.out i v hv
      obtain ⟨A, n, k, rfl, hn, _, _⟩ := (HR.out i v l hv hl).open_
      have hi1 : (0 : Int) ≤ (i : Int) := by omega
      have hi2 : (i : Int) < (m : Int) := by omega
      have hnx := flat_take hl
      have hS3 : S + n = (Ls.take (i + 1)).flatten.length := by rw [hnx, List.length_append, HS.out, hn]
      have hS4 : S + n ≤ 10000 := by have := flat_le (Ls := Ls) (i + 1); have := H2.out; omega
      have HS3 := Lib.hid hS3
      have hng : ¬ ((S : Int) + (n : Int) < 0) := by omega
      clear hv hl hn hnx hS3
      go_wp2_with fail
      exact ⟨⟨i + 1, S + n, by omega, by go_num, by go_num, HS3.out, by first | rfl | trivial⟩, by simp [intOf]; omega⟩
    · obtain rfl : i = m := by omega
      have hSe : S = Ls.flatten.length := by rw [HS.out, HM.out, List.take_length]
      have hS1 : 1 ≤ S := by have := H1.out; omega
      have HSE := Lib.hid hSe
      have HGR := Lib.hid (grow_calls S w hS1 hS2)
      clear hSe
      go_wp2_with fail
      (with_reducible refine HGR.out.mono ?_)
      rintro e w1 ⟨v1, rfl, ho1, hB1⟩
      obtain ⟨A1, c1, rfl⟩ := ho1.form
      have HO1 := Lib.hid ho1
      have HB1 := Lib.hid hB1
      clear ho1 hB1
      go_wp2_with fail
      go_loopw [6, 27] (fun s6 s27 wq => ∃ (k : Nat) (acc : List Lf) (Z : Option Addr) (z : Nat), k ≤ i ∧ s27 = .int .i64 k ∧ s6 = .slice Z acc.length z ∧ acc = (Ls.take k).flatten ∧ OwnL B wq (.slice Z acc.length z) acc ∧ Below w.heap.size w wq) (fun _ s27 _ => i - (intOf s27).toNat)
      case atStart => exact ⟨0, [], A1, c1, Nat.zero_le _, rfl, rfl, rfl, by rw [HB.out]; exact HO1.out, HB1.out⟩
      case round =>
        obtain ⟨k, acc, Z, z, hk, rfl, rfl, hacc, how, hbq⟩ := hrel
        have HACC := Lib.hid hacc
        have HOW := Lib.hid how
        have HBQ := Lib.hid hbq
        clear hacc how hbq
        by_cases hlt2 : k < i
        · obtain ⟨v, l, hv, hl⟩ := HAT.out k hlt2
          have hc : w.cell? ⟨g, k, none⟩ = some v := HC.out k v hv
          have hc2 := (HBQ.out.cell (p := ⟨g, k, none⟩) HG.out).trans hc
          have hf := (HR.out k v l hv hl).below HBQ.out
          obtain ⟨A, n, cc, rfl, hn, _, _⟩ := hf.open_
          have HF := Lib.hid hf
          have hi1 : (0 : Int) ≤ (k : Int) := by omega
          have hi2 : (k : Int) < (i : Int) := by omega
          have hnx := flat_take hl
          have hle : acc.length + l.length ≤ 1000000 := by
            have := flat_le (Ls := Ls) (k + 1)
            rw [hnx, List.length_append, ← HACC.out] at this
            have := H2.out
            omega
          have hBw : B ≤ wr.heap.size := by rw [HB.out]; exact HBQ.out.size
          have HNX := Lib.hid hnx
          clear hv hl hn hc hf hnx
          go_wp2_with (at_builtin; refine wpList_app_run (by rfl) (.tmp 31) (.tmp 32) (by rfl) B _ _ acc l (by rfl) (by rfl) HOW.out HF.out hle hBw ?_; intro v' w' hown' hbl')
          obtain ⟨Z2, z2, hZ⟩ := hown'.form
          have HO2 := Lib.hid hown'
          have HB2 : Hid (Below w.heap.size w w') := Lib.hid (by have := hbl' w (by rw [HB.out]; exact HBQ.out); rw [HB.out] at this; exact this)
          clear hown' hbl'
          subst hZ
          go_wp2_with fail
          exact ⟨⟨k + 1, acc ++ l, Z2, z2, by omega, by go_num, rfl, by rw [HNX.out, HACC.out], HO2.out, HB2.out⟩, by simp [intOf]; omega⟩
        · obtain rfl : k = i := by omega
          have hfin : acc = Ls.flatten := by rw [HACC.out, HM.out, List.take_length]
          have HFI := Lib.hid hfin
          have hnl : decide ((k : Int) < (k : Int)) = false := by simp
          clear hfin
          go_wp2_with fail
          go_ret
          exact ⟨_, rfl, by rw [← HFI.out, ← HB.out]; exact HOW.out, HBQ.out⟩

end Go.Proofs.YtnbbijpmkhdgpaaGreat.Vlt

/- PSet -/
namespace Go.Proofs.YtnbbijpmkhdgpaaGreat.Vlt
open Go.RowKit Go.Sort
open Dsk

theorem wt_at {w w' : World} {A : Option Addr} {n : Nat} {l : List (Int × ByteArray)} (h : Reads w 72 2 A n (wetCells l)) (hb : Below w.heap.size w w') {k : Nat} {o : Int × ByteArray} (ho : l[k]? = some o) (hn : 0 < n) :
    ∃ b off, A = some ⟨b, off, none⟩ ∧ w'.cell? ⟨b, off + k * 2, none⟩ = some (.int .i64 o.1) ∧ w'.cell? ⟨b, off + k * 2 + 1, none⟩ = some (.string o.2) := by
  obtain ⟨b, off, e, hbl, hc⟩ := h.at_ hn
  obtain ⟨h0, h1⟩ := wetCells_at l k o ho
  exact ⟨b, off, e, (hb.cell (p := ⟨b, off + k * 2, none⟩) hbl).trans (hc _ _ h0), (hb.cell (p := ⟨b, off + k * 2 + 1, none⟩) hbl).trans (hc _ _ h1)⟩

/-- The boxes of settle, between rounds: the disk's, the answer's. -/
structure SB2 (w W : World) (vs vw : Value) (d : DK) : Prop where
  dk : W.heap[w.heap.size]? = some (.cells #[vs, vw, .bool d.dead, .int .i64 d.left] 28 (0, 0))
  isd : IsDisk W (.agg #[vs, vw, .bool d.dead, .int .i64 d.left]) d
  zr : W.heap[w.heap.size + 1]? = some (.cells #[.slice none 0 0, .slice none 0 0, .bool false, .int .i64 0] 28 (0, 0))
  below : Below w.heap.size w W
section
variable {w W W' : World} {vs vw us uw : Value} {d e : DK}
theorem SB2.more (h : SB2 w W vs vw d) (k : Below W.heap.size W W') : SB2 w W' vs vw d :=
  ⟨box_kept _ h.dk k, h.isd.below k, box_kept _ h.zr k, Dsk.below_trans' h.below k⟩
theorem SB2.new (w : World) (h : IsDisk w (.agg #[vs, vw, .bool d.dead, .int .i64 d.left]) d) :
    ∃ Y, Y = (w.alloc (.cells #[vs, vw, .bool d.dead, .int .i64 d.left] 28)).alloc (.cells #[.slice none 0 0, .slice none 0 0, .bool false, .int .i64 0] 28) ∧ SB2 w Y vs vw d := by
  have b1 := below_one w (.cells #[vs, vw, .bool d.dead, .int .i64 d.left] 28)
  have b3 := below_one (w.alloc (.cells #[vs, vw, .bool d.dead, .int .i64 d.left] 28)) (.cells #[.slice none 0 0, .slice none 0 0, .bool false, .int .i64 0] 28)
  refine ⟨_, rfl, box_kept _ (heap_alloc_new w _) b3, (h.below b1).below b3, ?_, Dsk.below_trans' b1 b3⟩
  have := heap_alloc_new (w.alloc (.cells #[vs, vw, .bool d.dead, .int .i64 d.left] 28)) (.cells #[.slice none 0 0, .slice none 0 0, .bool false, .int .i64 0] 28)
  simpa using this
/-- Another disk is stored into the first box. -/
theorem SB2.put (h : SB2 w W vs vw d) (hv : IsDisk W (.agg #[us, uw, .bool e.dead, .int .i64 e.left]) e) :
    ∃ X, (((W.setCell ⟨w.heap.size, 0, none⟩ us).setCell ⟨w.heap.size, 1, none⟩ uw).setCell ⟨w.heap.size, 2, none⟩ (.bool e.dead)).setCell ⟨w.heap.size, 3, none⟩ (.int .i64 e.left) = X ∧ SB2 w X us uw e := by
  obtain ⟨X, hX, hb, hk, hB⟩ := box_store4 h.dk us uw (.bool e.dead) (.int .i64 e.left)
  exact ⟨X, hX, hb, hv.other h.dk (by decide) (by decide) hk, (hk _ (by omega)).trans h.zr, hB _ _ h.below (Nat.le_refl _)⟩
end

theorem take_next {l : List (Int × ByteArray)} {i : Nat} {o : Int × ByteArray} (ho : l[i]? = some o) : l.take (i + 1) = l.take i ++ [(o.1, o.2)] := by
  rw [List.take_add_one, ho]
  rfl

set_option maxRecDepth 100000 in
set_option maxHeartbeats 4000000 in
theorem settle_calls (v vl : Value) (d : DK) (l : List (Int × ByteArray)) (w : World) {nn ii : Nat} (hv : IsDisk w v d) (hp : Pl nn ii d) (hnn : nn ≤ 2000) (hii : ii + l.length ≤ 2000)
    (hl : SL w 72 2 vl l.length (wetCells l)) :
    Calls Tryz.prog 31 #[v, vl] w fun e w' => ∃ v', e = .returned (.tuple #[v', .int .i64 (wfF d l).2]) ∧ IsDisk w' v' (wfF d l).1 ∧ Below w.heap.size w w' := by
  obtain ⟨X1, X2, X3, X4, X5, X6, rfl⟩ := hv.parts
  obtain ⟨A, c, rfl, _, hr⟩ := hl
  obtain ⟨n, hn⟩ : ∃ n, n = l.length := ⟨_, rfl⟩
  rw [← hn] at hr ⊢
  obtain ⟨Y, hY, hB⟩ := SB2.new w hv
  have HY := Lib.hid hY
  have HB0 := Lib.hid hB
  have HN := Lib.hid hn
  have HR := Lib.hid hr
  have HP := Lib.hid hp
  have hnm : n ≤ 2000 := by omega
  have HII := Lib.hid hii
  clear hY hB hn hr hp hii hv
  go_enter Tryz.func31, Tryz.ntmps31
  go_wp2_with fail
  rw [← HY.out]
  clear HY
  go_loopw [11] (fun u wr => ∃ (i : Nat) (D : DK) (B1 : Option Addr) (B2 B3 : Nat) (B4 : Option Addr) (B5 B6 : Nat), i ≤ n ∧ u = .int .i64 i ∧ wrsF d (l.take i) = (D, 0) ∧ SB2 w wr (.slice B1 B2 B3) (.slice B4 B5 B6) D) (fun u _ => n - (intOf u).toNat)
  case atStart => exact ⟨0, d, _, _, _, _, _, _, Nat.zero_le _, rfl, rfl, HB0.out⟩
  case round =>
    obtain ⟨i, D, B1, B2, B3, B4, B5, B6, hi, rfl, hw, hb⟩ := hrel
    have HW := Lib.hid hw
    have HT0 := Lib.hid hb
    clear hw hb HB0
    by_cases hlt : i < n
    · obtain ⟨o, ho⟩ : ∃ o, l[i]? = some o := ⟨_, List.getElem?_eq_getElem (by have := HN.out; omega)⟩
      obtain ⟨b, off, rfl, x0, x1⟩ := wt_at HR.out HT0.out.below ho (by omega)
      have hi1 : (0 : Int) ≤ (i : Int) := by omega
      have hi2 : (i : Int) < (n : Int) := by omega
      have hDpl := wrs_pl (l.take i) HP.out
      rw [HW.out] at hDpl
      have hlen : (l.take i).length ≤ i := by simp; omega
      have hDok : D.ok := hDpl.ok (by omega) (by have := HII.out; have := HN.out; omega)
      obtain ⟨PL, S⟩ := o
      obtain ⟨D2, hD2⟩ : ∃ z, z = wrD D PL S := ⟨_, rfl⟩
      obtain ⟨E2, hE2⟩ : ∃ z, z = wrE D PL S := ⟨_, rfl⟩
      have CW : Hid (∀ v W, IsDisk W v D → Calls Tryz.prog 63 #[v, .int .i64 PL, .string S] W fun e w' => ∃ v', e = .returned (.tuple #[v', .int .i64 E2]) ∧ IsDisk w' v' D2 ∧ Below W.heap.size W w') := Lib.hid (fun v W h => by rw [hD2, hE2]; exact write_calls v D PL S W h hDok)
      have hst := take_next ho
      have hnx : wrsF d (l.take (i + 1)) = (D2, E2) := by rw [hst, wrs_next (by rw [HW.out]), HW.out, hD2, hE2]
      have HNW := Lib.hid hnx
      have hstop : E2 ≠ 0 → wfF d l = (D2, E2) := fun he => by
        have e2 := wrs_stop (d := d) (l := l) (k := i + 1) (by rw [hnx]; exact he)
        unfold wfF
        rw [e2, hnx, if_neg he]
      have HST := Lib.hid hstop
      obtain ⟨Y2, hY2⟩ : ∃ Y2, Y2 = wr.alloc (.cells #[.int .i64 PL, .string S] 72) := ⟨_, rfl⟩
      have HT := Lib.hid (show SB2 w Y2 (.slice B1 B2 B3) (.slice B4 B5 B6) D by rw [hY2]; exact HT0.out.more (below_one _ _))
      have HLF : Hid (Y2.heap[wr.heap.size]? = some (.cells #[.int .i64 PL, .string S] 72 (0, 0))) := Lib.hid (by rw [hY2]; exact heap_alloc_new wr _)
      have HY2 := Lib.hid hY2
      dsimp only at x0 x1
      clear ho hDpl hlen hDok hst hnx hstop hD2 hE2 hY2
      go_upto_region 4 with (fail)
      rw [← HY2.out]
      clear x0 x1 HY2
      obtain ⟨⟨p0, p1, p2, p3⟩, _⟩ := box4 HT.out.dk
      have y0 : Y2.cell? ⟨wr.heap.size, 0, none⟩ = some (.int .i64 PL) := by rw [cell_of_row _ _ _ _ _ _ HLF.out]; rfl
      have y1 : Y2.cell? ⟨wr.heap.size, 1, none⟩ = some (.string S) := by rw [cell_of_row _ _ _ _ _ _ HLF.out]; rfl
      go_wp2_with fail
      (with_reducible refine (CW.out _ _ HT.out.isd).mono ?_)
      rintro e wa ⟨v', rfl, hv', hBa⟩
      obtain ⟨T1, T2, T3, T4, T5, T6, rfl⟩ := hv'.parts
      have HTA := Lib.hid (HT.out.more hBa)
      have HV := Lib.hid hv'
      clear hv' hBa p0 p1 p2 p3 y0 y1
      obtain ⟨⟨p0, p1, p2, p3⟩, f0, f1, f2, f3⟩ := box4 HTA.out.dk
      obtain ⟨X6, e6, hb6⟩ := HTA.out.put HV.out
      have HX6 := Lib.hid e6
      have HB6 := Lib.hid hb6
      clear e6 hb6
      by_cases hE : E2 = 0
      · have hE1 : (E2 == 0) = true := by simpa using hE
        go_wp2_with fail
        rw [HX6.out]
        exact ⟨⟨i + 1, D2, _, _, _, _, _, _, by omega, by go_num, by rw [HNW.out, hE], HB6.out⟩, by simp [intOf]; omega⟩
      · have hE1 : (E2 == 0) = false := by simpa using hE
        obtain ⟨⟨q0, q1, q2, q3⟩, _⟩ := box4 HB6.out.dk
        obtain ⟨⟨r0, r1, r2, r3⟩, g0, g1, g2, g3⟩ := box4 HB6.out.zr
        obtain ⟨X7, e7, hb7, hk7, hB7⟩ := box_store4 HB6.out.zr (.slice T1 T2 T3) (.slice T4 T5 T6) (.bool D2.dead) (.int .i64 D2.left)
        have HX7 := Lib.hid e7
        have HB7 := Lib.hid (And.intro (HB6.out.isd.other HB6.out.zr (by decide) (by decide) hk7) (hB7 _ _ HB6.out.below (by omega)))
        obtain ⟨⟨s0, s1, s2, s3⟩, _⟩ := box4 hb7
        have hfin := HST.out hE
        have HF := Lib.hid hfin
        clear e7 hb7 hk7 hB7 hfin
        go_upto_region 6 with (fail)
        rw [HX6.out]
        clear p0 p1 p2 p3 f0 f1 f2 f3 HX6
        go_wp2_with fail
        rw [HX7.out]
        refine bodyPost_ret (v := .tuple #[.agg #[.slice T1 T2 T3, .slice T4 T5 T6, .bool D2.dead, .int .i64 D2.left], .int .i64 E2]) (by simp [results, Tryz.results31, go_sem, s0, s1, s2, s3]) rfl ⟨_, by rw [HF.out], by rw [HF.out]; exact HB7.out.1, HB7.out.2⟩
    · have hnl : decide ((i : Int) < (n : Int)) = false := by simp; omega
      have hin : i = n := by omega
      subst hin
      have hall : wrsF d l = (D, 0) := by
        have := HW.out
        rwa [show l.take i = l by rw [HN.out, List.take_length]] at this
      have hfin : wfF d l = (flD D, flE D) := by unfold wfF; rw [hall, if_pos rfl]
      have hDpl := wrs_pl l HP.out
      rw [hall] at hDpl
      have hDok : D.ok := hDpl.ok (by omega) (by have := HII.out; omega)
      have HF := Lib.hid hfin
      have CF : Hid (∀ v W, IsDisk W v D → Calls Tryz.prog 64 #[v] W fun e w' => ∃ v', e = .returned (.tuple #[v', .int .i64 (flE D)]) ∧ IsDisk w' v' (flD D) ∧ Below W.heap.size W w') := Lib.hid (fun v W h => flush_calls v D W h hDok)
      obtain ⟨⟨p0, p1, p2, p3⟩, _⟩ := box4 HT0.out.dk
      clear hall hfin hDpl hDok
      go_wp2_with fail
      (with_reducible refine (CF.out _ _ HT0.out.isd).mono ?_)
      rintro e wa ⟨v', rfl, hv', hBa⟩
      obtain ⟨T1, T2, T3, T4, T5, T6, rfl⟩ := hv'.parts
      have HT := Lib.hid (HT0.out.more hBa)
      have HV := Lib.hid hv'
      obtain ⟨⟨r0, r1, r2, r3⟩, g0, g1, g2, g3⟩ := box4 HT.out.zr
      obtain ⟨X7, e7, hb7, hk7, hB7⟩ := box_store4 HT.out.zr (.slice T1 T2 T3) (.slice T4 T5 T6) (.bool (flD D).dead) (.int .i64 (flD D).left)
      have HX7 := Lib.hid e7
      have HB7 := Lib.hid (And.intro (hv'.other HT.out.zr (by decide) (by decide) hk7) (hB7 _ _ HT.out.below (by omega)))
      obtain ⟨⟨s0, s1, s2, s3⟩, _⟩ := box4 hb7
      clear hv' hBa e7 hb7 hk7 hB7 p0 p1 p2 p3
      go_wp2_with fail
      rw [HX7.out]
      refine bodyPost_ret (v := .tuple #[.agg #[.slice T1 T2 T3, .slice T4 T5 T6, .bool (flD D).dead, .int .i64 (flD D).left], .int .i64 (flE D)]) (by simp [results, Tryz.results31, go_sem, s0, s1, s2, s3]) rfl ⟨_, by rw [HF.out], by rw [HF.out]; exact HB7.out.1, HB7.out.2⟩

end Go.Proofs.YtnbbijpmkhdgpaaGreat.Vlt

/- PPut -/
namespace Go.Proofs.YtnbbijpmkhdgpaaGreat.Vlt
open Go.RowKit Go.Sort
open Dsk

/-- A slice of sectors of the call's own. -/
def OwnW (B : Nat) (w : World) (v : Value) (l : List (Int × ByteArray)) : Prop := w.ownsRow B 72 2 v l.length (wetCells l)
section
variable {B : Nat} {w w' : World} {v : Value} {l : List (Int × ByteArray)}
theorem OwnW.isWts (h : OwnW B w v l) : SL w 72 2 v l.length (wetCells l) := SL.of_own h
theorem OwnW.ge (h : OwnW B w v l) : ∀ k, v.ownBlock = some k → B ≤ k := fun k hk => (World.ownsRow.lt h k hk).1
theorem OwnW.below (h : OwnW B w v l) (hb : Below w.heap.size w w') : OwnW B w' v l := by
  refine ⟨h.1, ?_⟩
  rcases h.2 with hn | ⟨g, cap, cur, rfl, hg1, hg, rest⟩
  · exact .inl hn
  · exact .inr ⟨g, cap, cur, rfl, hg1, (hb.block g (Array.getElem?_eq_some_iff.1 hg).1).trans hg, rest⟩
theorem OwnW.form (h : OwnW B w v l) : ∃ A c, v = .slice A l.length c := by
  obtain ⟨A, c, e, _⟩ := h.isWts
  exact ⟨A, c, e⟩
end

theorem info72 : (Tryz.prog.info? 72).map (fun i => (i.zero, i.size, i.bytes)) = some (some (.agg #[.int .i64 0, .string ⟨#[]⟩]), 2, 24) := by kernel_rfl

/-- One sector more. -/
theorem one_run {w : World} {B : Nat} {v : Value} {l : List (Int × ByteArray)} (ty : TypeId) (hown : OwnW B w v l) (p : Int) (s : ByteArray) (g : Nat)
    (hg : w.heap[g]? = some (.cells #[.int .i64 p, .string s] 72 (0, 0))) (hl : l.length ≤ 100000) (hB : B ≤ w.heap.size) :
    ∃ v' w', (Builtin.append_ #[26, 26] ty #[v, .slice (some ⟨g, 0, none⟩) 1 1]).run Tryz.prog w = .ok v' w' ∧ OwnW B w' v' (l ++ [(p, s)]) ∧ (∀ (a : World), Below B a w → Below B a w') ∧ (∀ k ob, w.heap[k]? = some ob → some k ≠ v.ownBlock → w'.heap[k]? = some ob) ∧ w.heap.size ≤ w'.heap.size := by
  obtain ⟨i1, hi0, hz0, hz1, hz2⟩ := info_parts info72
  obtain ⟨v', w', h1, h2, h3, _, _⟩ := run_append_own_at (P := Tryz.prog) (w := w) B 26 ty 72 i1 _ 2 24 Tryz.underlying26 hi0 hz0 hz1 hz2 (by rfl) (by omega) v l.length (wetCells l) hown ⟨g, 0, none⟩ 1 1 [.int .i64 p, .string s] (by rfl)
    (World.news_of_block hg) (by intro u hu; simp only [List.mem_cons, List.not_mem_nil, or_false] at hu; rcases hu with rfl | rfl <;> rfl) (Nat.le_trans (show l.length + 1 ≤ 1000000 by omega) (by decide)) (by omega) hB
  refine ⟨v', w', h1, ?_, fun a ha => below_grown ha h3 hown.ge hB, fun k ob hk hne => (h3.block k (Array.getElem?_eq_some_iff.1 hk).1 hne).trans hk, h3.size⟩
  unfold OwnW
  rw [wetCells_append, wetCells_one, List.length_append]
  exact h2

theorem step_one {w : World} {ops : Array Oper} {o : Oper} {a : Act} {K : Act → World → Prop} {Q : Exit → Act → World → Prop} {E : Prop} (hg0 : o.guard = none) (s x : Operand)
    (ho : o.op = Op.call { callee := Callee.builtin Builtin.append, args := #[s, x], argTypes := #[26, 26] }) (B : Nat) (v : Value) (l : List (Int × ByteArray)) (p : Int) (b : ByteArray) (g : Nat)
    (hs : a.eval s = v) (hx : a.eval x = .slice (some ⟨g, 0, none⟩) 1 1) (hown : OwnW B w v l) (hg : w.heap[g]? = some (.cells #[.int .i64 p, .string b] 72 (0, 0))) (hl : l.length ≤ 100000) (hB : B ≤ w.heap.size)
    (h : ∀ v' w', OwnW B w' v' (l ++ [(p, b)]) → (∀ (a : World), Below B a w → Below B a w') → (∀ k ob, w.heap[k]? = some ob → some k ≠ v.ownBlock → w'.heap[k]? = some ob) → w.heap.size ≤ w'.heap.size → K (a.put o.dst v') w') :
    if Region.wanted o (yielded ops a.tmps) = true then Oper.wp Tryz.prog o a w K Q else E := by
  have hw : Region.wanted o (yielded ops a.tmps) = true := by simp [Region.wanted, hg0]
  rw [if_pos hw]
  obtain ⟨v', w', hr, h2, h3, h4, h5⟩ := one_run o.type hown p b g hg hl hB
  unfold Oper.wp
  simp [execOp, ho, resolve, invoke, builtin, hs, hx, hr, Result.andThen]
  exact h v' w' h2 h3 h4 h5

/-- What lies in a round of placed. -/
structure PRD (w W : World) (x : Sh) (g : Nat) (o : Lf) (B : Nat) (v : Value) (acc : List (Int × ByteArray)) : Prop where
  sh : SBox W w.heap.size x
  lf : Ent.LBox W g o.no o.data
  own : OwnW B W v acc
  below : Below w.heap.size w W
  size : B ≤ W.heap.size
  big : w.heap.size < B
  ne : ∀ k, v.ownBlock = some k → B ≤ k ∧ k < g
section
variable {w W W' : World} {x : Sh} {g B : Nat} {o : Lf} {v : Value} {acc : List (Int × ByteArray)}
theorem PRD.more (h : PRD w W x g o B v acc) (k : Below W.heap.size W W') : PRD w W' x g o B v acc := ⟨h.sh.below k, h.lf.below k, h.own.below k, Dsk.below_trans' h.below k, Nat.le_trans h.size k.size, h.big, h.ne⟩
theorem PRD.cells (h : PRD w W x g o B v acc) : (W.cell? ⟨w.heap.size, 0, none⟩ = some (.int .i64 x.pages) ∧ W.cell? ⟨w.heap.size, 1, none⟩ = some (.int .i64 x.journal)) ∧
    W.cell? ⟨g, 0, none⟩ = some (.int .i64 o.no) ∧ W.cell? ⟨g, 1, none⟩ = some (.string (strB o.data)) := ⟨⟨h.sh.c0, h.sh.c1⟩, h.lf.c0, h.lf.c1⟩
/-- A sector more. -/
theorem PRD.app (h : PRD w W x g o B v acc) {v' : Value} {acc' : List (Int × ByteArray)} (ho : OwnW B W' v' acc') (hb : ∀ (a : World), Below B a W → Below B a W') (hk : ∀ k ob, W.heap[k]? = some ob → some k ≠ v.ownBlock → W'.heap[k]? = some ob) (hs : W.heap.size ≤ W'.heap.size) :
    SBox W' w.heap.size x ∧ Ent.LBox W' g o.no o.data ∧ OwnW B W' v' acc' ∧ Below w.heap.size w W' ∧ B ≤ W'.heap.size := by
  have big := h.big
  refine ⟨hk _ _ h.sh fun e => ?_, hk _ _ h.lf fun e => ?_, ho, ?_, Nat.le_trans h.size hs⟩
  · have := (h.ne _ e.symm).1; omega
  · have := (h.ne _ e.symm).2; omega
  · exact h.below.trans ((hb W (Below.refl _ _)).mono (by omega))
end

theorem make_wts (n : Nat) (hn : n ≤ 100000) (W : World) : ∃ Z : Array Value, Z.size = n * 2 ∧ (Instr.makeSlice 26 (.int .i64 0) (.int .i64 (n : Nat))).run Tryz.prog W = .ok (.slice (some ⟨W.heap.size, 0, none⟩) 0 n) (W.alloc (.cells Z 72)) := by
  obtain ⟨i0, hi, hz0, hz1, hz2⟩ := info_parts info72
  refine ⟨madeCells (Value.cells (.agg #[.int .i64 0, .string ⟨#[]⟩])) (n * 2), size_madeCells _ _, ?_⟩
  have := run_make (P := Tryz.prog) W 26 72 i0 _ Tryz.underlying26 hi hz0 .i64 .i64 0 (n : Int) (by omega) (by omega) (by rw [hz2]; omega) (by omega)
  rw [this, hz1]
  rfl

set_option maxRecDepth 100000 in
set_option maxHeartbeats 8000000 in
theorem placed_calls (vl : Value) (x : Sh) (l : List Lf) (w : World) (hl : IsLfs w vl l) (hd : ∀ q ∈ l, q.data.length ≤ 240) (hn : l.length ≤ 2000) :
    Calls Tryz.prog 55 #[shV x, vl] w fun e w' => ∃ v', e = .returned v' ∧ SL w' 72 2 v' (homeW x l).length (wetCells (homeW x l)) ∧ Below w.heap.size w w' := by
  obtain ⟨A, n, c, rfl, hnl, _, hr⟩ := hl.open_
  have hnm : n ≤ 2000 := by omega
  obtain ⟨B, hB⟩ : ∃ B, B = w.heap.size + 1 := ⟨_, rfl⟩
  obtain ⟨Y0, hY0⟩ : ∃ Y0, Y0 = w.alloc (.cells #[.int .i64 x.pages, .int .i64 x.journal] 30) := ⟨_, rfl⟩
  have hs0 : Y0.heap.size = B := by rw [hY0, hB]; simp
  obtain ⟨Z, hZ, hmk⟩ := make_wts n (by omega) Y0
  obtain ⟨Y, hY⟩ : ∃ Y, Y = Y0.alloc (.cells Z 72) := ⟨_, rfl⟩
  have hsh : SBox Y w.heap.size x := by
    rw [hY]
    refine SBox.below ?_ (below_one _ _)
    rw [hY0]; exact SBox.new w x
  have hown : OwnW B Y (.slice (some ⟨B, 0, none⟩) 0 n) [] := by
    have := World.ownsRow_made (base := B) (e := 72) (size := 2) Y0 Z n (by omega) (by unfold maxLen; omega) hZ
    rw [hs0, ← hY] at this
    exact this
  have hbel : Below w.heap.size w Y := by rw [hY, hY0]; exact Dsk.below_trans' (below_one _ _) (below_one _ _)
  rw [← hY, hs0] at hmk
  have HMK := hmk
  have HY0 := Lib.hid hY0
  have HSH := Lib.hid hsh
  have HOWN := Lib.hid hown
  have HBEL := Lib.hid hbel
  have HBB := Lib.hid hB
  have HBIG := Lib.hid (show w.heap.size < B by omega)
  have HN := Lib.hid hnl
  have HR := Lib.hid hr
  have HD := Lib.hid hd
  clear hY0 hY hsh hown hbel hB hnl hr hd hl hs0 hn hZ
  unfold shV
  go_enter Tryz.func55, Tryz.ntmps55
  go_upto_region 1 with (fail)
  rw [← HY0.out]
  go_wp2_with fail
  clear hmk HMK
  go_loopw [5, 13] (fun s5 s13 wr => ∃ (i : Nat) (Z1 : Option Addr) (z1 : Nat), i ≤ n ∧ s13 = .int .i64 i ∧ s5 = .slice Z1 (homeW x (l.take i)).length z1 ∧ OwnW B wr (.slice Z1 (homeW x (l.take i)).length z1) (homeW x (l.take i)) ∧ SBox wr w.heap.size x ∧ Below w.heap.size w wr ∧ B ≤ wr.heap.size) (fun _ u _ => n - (intOf u).toNat)
  case atStart => exact ⟨0, _, _, Nat.zero_le _, rfl, rfl, HOWN.out, HSH.out, HBEL.out, by have := HSH.out.lt; have := HBB.out; omega⟩
  case round =>
    obtain ⟨i, Z1, z1, hi, rfl, rfl, how, hsb, hbr, hBw⟩ := hrel
    have HBR := Lib.hid hbr
    by_cases hlt : i < n
    · obtain ⟨o, ho⟩ : ∃ o, l[i]? = some o := ⟨_, List.getElem?_eq_getElem (by have := HN.out; omega)⟩
      obtain ⟨b, off, rfl, x0, x1⟩ := lf_at HR.out hbr ho (by omega)
      have hi1 : (0 : Int) ≤ (i : Int) := by omega
      have hi2 : (i : Int) < (n : Int) := by omega
      obtain ⟨acc, hacc⟩ : ∃ acc, acc = homeW x (l.take i) := ⟨_, rfl⟩
      have hal : acc.length ≤ 100000 := by rw [hacc]; simp [homeW]; omega
      obtain ⟨PL, hPL⟩ : ∃ p, p = placeN x o.no := ⟨_, rfl⟩
      obtain ⟨S, hS⟩ : ∃ s, s = strB (Ent.leafL o.no o.data) := ⟨_, rfl⟩
      have C1 := place_calls x o.no
      have C2 := fun W => Ent.leaf_calls o.no o.data W (HD.out o (List.mem_of_getElem? ho))
      rw [← hPL] at C1
      rw [← hS] at C2
      unfold shV at C1
      unfold Ent.lfV at C2
      have C1 := Lib.hid C1
      have C2 := Lib.hid C2
      have hst := home_take (x := x) ho
      rw [← hPL, ← hS, ← hacc] at hst
      rw [← hacc] at how ⊢
      have HST := Lib.hid hst
      have HAL := Lib.hid hal
      obtain ⟨Y2, hY2⟩ : ∃ Y2, Y2 = wr.alloc (.cells #[.int .i64 o.no, .string (strB o.data)] 52) := ⟨_, rfl⟩
      have hprd : PRD w Y2 x wr.heap.size o B (.slice Z1 acc.length z1) acc := by
        rw [hY2]
        exact ⟨hsb.below (below_one _ _), Ent.LBox.new wr o.no o.data, how.below (below_one _ _), Dsk.below_trans' hbr (below_one _ _), by simp; omega, HBIG.out, fun k hk => World.ownsRow.lt how k hk⟩
      have HT0 := Lib.hid hprd
      have HY2 := Lib.hid hY2
      obtain ⟨G, hG⟩ : ∃ G, G = wr.heap.size := ⟨_, rfl⟩
      rw [← hG] at HT0
      clear ho hst hY2 hprd how hsb hbr hBw hacc hPL hS hal
      go_upto_region 5 with (fail)
      rw [← HY2.out]
      rw [← hG]
      clear x0 x1 HY2 hG
      have HT : Hid (PRD w Y2.drew x G o B (.slice Z1 acc.length z1) acc) := Lib.hid (HT0.out.more (Below.refl _ _).drew)
      go_region_held3 (fun W => (W.cell? ⟨w.heap.size, 0, none⟩ = some (.int .i64 x.pages) ∧ W.cell? ⟨w.heap.size, 1, none⟩ = some (.int .i64 x.journal)) ∧
          W.cell? ⟨G, 0, none⟩ = some (.int .i64 o.no) ∧ W.cell? ⟨G, 1, none⟩ = some (.string (strB o.data))) (first | with_reducible exact HT.out.cells | with_reducible exact (HT.out.more (below_one _ _)).cells | with_reducible exact ⟨⟨HF.out.1.c0, HF.out.1.c1⟩, HF.out.2.1.c0, HF.out.2.1.c1⟩) (first
        | (go_at_call 45; (with_reducible refine (C1.out _).mono ?_); rintro e wa ⟨rfl, hBa⟩; (with_reducible replace HT := Lib.hid (HT.out.more hBa)); clear hBa)
        | (go_at_call 85; (with_reducible refine (C2.out _).mono ?_); rintro e wa ⟨rfl, hBa⟩; (with_reducible replace HT := Lib.hid (HT.out.more hBa)); clear hBa)
        | (refine step_one rfl _ _ rfl B (.slice Z1 acc.length z1) acc PL S _ (by simp [Act.eval]) (by simp [Act.eval]) ((HT.out.more (below_one _ _)).own) (heap_alloc_new _ _) HAL.out ((HT.out.more (below_one _ _)).size) ?_; intro v' w' hown' hbl' hkk' hsz'; have HF := Lib.hid ((HT.out.more (below_one _ _)).app hown' hbl' hkk' hsz'); obtain ⟨Z3, z3, hZ3⟩ := hown'.form; subst hZ3; clear hown' hbl' hkk' hsz'))
      all_goals
        (rename_i hheld; clear hheld)
        go_wp2_with fail
        exact ⟨⟨i + 1, Z3, z3, by omega, by go_num, by rw [HST.out]; simp, by rw [HST.out]; exact HF.out.2.2.1, HF.out.1, HF.out.2.2.2.1, HF.out.2.2.2.2⟩, by simp [intOf]; omega⟩
    · have hnl : decide ((i : Int) < (n : Int)) = false := by simp; omega
      have hin : i = n := by omega
      have hfin : l.take i = l := by rw [hin, HN.out, List.take_length]
      rw [hfin] at how ⊢
      have HO := Lib.hid how
      clear hfin how hin
      go_wp2_with fail
      go_ret
      exact ⟨_, rfl, HO.out.isWts, HBR.out⟩

end Go.Proofs.YtnbbijpmkhdgpaaGreat.Vlt

/- PLog -/
namespace Go.Proofs.YtnbbijpmkhdgpaaGreat.Vlt
open Go.RowKit Go.Sort
open Dsk

def logT (s : Int) (l : List Lf) (i : Nat) : List (Int × ByteArray) := (List.range i).map fun k : Nat => ((1 : Int) + k, strB (Ent.printL (entK s l k)))
theorem logT_len (s : Int) (l : List Lf) (i : Nat) : (logT s l i).length = i := by simp [logT]
theorem logT_next (s : Int) (l : List Lf) (i : Nat) : logT s l (i + 1) = logT s l i ++ [((1 : Int) + i, strB (Ent.printL (entK s l i)))] := by
  unfold logT
  rw [List.range_succ, List.map_append]
  rfl
theorem ent_page {s : Int} {l : List Lf} {i : Nat} {o : Lf} (ho : l[i]? = some o) : entK s l i = ⟨s, i, false, o.no, o.data⟩ := by
  have h := (List.getElem?_eq_some_iff.1 ho).1
  unfold entK
  rw [if_pos h, List.getD_eq_getElem?_getD, ho]
  rfl
theorem ent_last {s : Int} {l : List Lf} : entK s l l.length = ⟨s, l.length, true, l.length, []⟩ := by
  unfold entK
  rw [if_neg (by omega)]

/-- What lies in a round of logged. -/
structure LRD (w W : World) (g : Nat) (x : Ent.En) (v : Value) (acc : List (Int × ByteArray)) : Prop where
  eb : Ent.EBox W g x
  own : OwnW w.heap.size W v acc
  below : Below w.heap.size w W
  ne : ∀ k, v.ownBlock = some k → k < g
section
variable {w W W' : World} {g : Nat} {x : Ent.En} {v : Value} {acc : List (Int × ByteArray)}
theorem LRD.more (h : LRD w W g x v acc) (k : Below W.heap.size W W') : LRD w W' g x v acc := ⟨h.eb.below k, h.own.below k, Dsk.below_trans' h.below k, h.ne⟩
def LCells (W : World) (g : Nat) (x : Ent.En) : Prop := W.cell? ⟨g, 0, none⟩ = some (.int .i64 x.seq) ∧ W.cell? ⟨g, 1, none⟩ = some (.int .i64 x.index) ∧ W.cell? ⟨g, 2, none⟩ = some (.bool x.last) ∧ W.cell? ⟨g, 3, none⟩ = some (.int .i64 x.no) ∧ W.cell? ⟨g, 4, none⟩ = some (.string (strB x.data))
theorem ecells (h : Ent.EBox W g x) : W.cell? ⟨g, 0, none⟩ = some (.int .i64 x.seq) ∧ W.cell? ⟨g, 1, none⟩ = some (.int .i64 x.index) ∧ W.cell? ⟨g, 2, none⟩ = some (.bool x.last) ∧ W.cell? ⟨g, 3, none⟩ = some (.int .i64 x.no) ∧ W.cell? ⟨g, 4, none⟩ = some (.string (strB x.data)) := by
  obtain ⟨a, b, c, d, e⟩ := h.at_
  exact ⟨a, b, c, d, e⟩
/-- A sector more. -/
theorem LRD.app (h : LRD w W g x v acc) {v' : Value} {acc' : List (Int × ByteArray)} (ho : OwnW w.heap.size W' v' acc') (hb : ∀ (a : World), Below w.heap.size a W → Below w.heap.size a W') (hk : ∀ k ob, W.heap[k]? = some ob → some k ≠ v.ownBlock → W'.heap[k]? = some ob) :
    Ent.EBox W' g x ∧ OwnW w.heap.size W' v' acc' ∧ Below w.heap.size w W' := by
  refine ⟨hk _ _ h.eb fun e => ?_, ho, hb _ h.below⟩
  have := h.ne _ e.symm; omega
end

set_option maxRecDepth 100000 in
set_option maxHeartbeats 8000000 in
theorem logged_calls (s : Int) (vl : Value) (l : List Lf) (w : World) (hl : IsLfs w vl l) (hd : ∀ q ∈ l, q.data.length ≤ 240) (hn : l.length ≤ 2000) :
    Calls Tryz.prog 60 #[.int .i64 s, vl] w fun e w' => ∃ v', e = .returned v' ∧ SL w' 72 2 v' (logL s l).length (wetCells (logL s l)) ∧ Below w.heap.size w w' := by
  obtain ⟨A, n, c, rfl, hnl, _, hr⟩ := hl.open_
  have hnm : n ≤ 2000 := by omega
  obtain ⟨Z, hZ, hmk⟩ := make_wts (n + 1) (by omega) w
  obtain ⟨Y, hY⟩ : ∃ Y, Y = w.alloc (.cells Z 72) := ⟨_, rfl⟩
  have hown : OwnW w.heap.size Y (.slice (some ⟨w.heap.size, 0, none⟩) 0 (n + 1)) (logT s l 0) := by
    have := World.ownsRow_made (base := w.heap.size) (e := 72) (size := 2) w Z (n + 1) (by omega) (by unfold maxLen; omega) hZ
    rw [← hY] at this
    exact this
  have hbel : Below w.heap.size w Y := by rw [hY]; exact below_one _ _
  rw [← hY, show ((n + 1 : Nat) : Int) = (n : Int) + 1 by omega] at hmk
  have HOWN := Lib.hid hown
  have HBEL := Lib.hid hbel
  have HN := Lib.hid hnl
  have HR := Lib.hid hr
  have HD := Lib.hid hd
  clear hY hown hbel hnl hr hd hl hn hZ
  go_enter Tryz.func60, Tryz.ntmps60
  go_wp2_with fail
  clear hmk
  go_loopw [5, 17] (fun s5 s17 wr => ∃ (i : Nat) (Z1 : Option Addr) (z1 : Nat), i ≤ n ∧ s17 = .int .i64 i ∧ s5 = .slice Z1 i z1 ∧ OwnW w.heap.size wr (.slice Z1 i z1) (logT s l i) ∧ Below w.heap.size w wr) (fun _ u _ => n - (intOf u).toNat)
  case atStart => exact ⟨0, _, _, Nat.zero_le _, rfl, rfl, HOWN.out, HBEL.out⟩
  case round =>
    obtain ⟨i, Z1, z1, hi, rfl, rfl, how, hbr⟩ := hrel
    have HBR := Lib.hid hbr
    by_cases hlt : i < n
    · obtain ⟨o, ho⟩ : ∃ o, l[i]? = some o := ⟨_, List.getElem?_eq_getElem (by have := HN.out; omega)⟩
      obtain ⟨b, off, rfl, x0, x1⟩ := lf_at HR.out hbr ho (by omega)
      have hi1 : (0 : Int) ≤ (i : Int) := by omega
      have hi2 : (i : Int) < (n : Int) := by omega
      obtain ⟨PL, hPL⟩ : ∃ p, p = logN (i : Int) := ⟨_, rfl⟩
      have hPL2 : PL = 1 + (i : Int) := by rw [hPL]; unfold logN wrap64; omega
      obtain ⟨S, hS⟩ : ∃ z, z = strB (Ent.printL (entK s l i)) := ⟨_, rfl⟩
      have hen := ent_page (s := s) ho
      have C1 := log_calls (i : Int)
      have C2 := fun W => Ent.print_calls ⟨s, i, false, o.no, o.data⟩ W (HD.out o (List.mem_of_getElem? ho))
      rw [← hPL] at C1
      rw [← hen, ← hS, hen] at C2
      unfold Ent.enV at C2
      dsimp only at C2
      have C1 := Lib.hid C1
      have C2 := Lib.hid C2
      have hst := logT_next s l i
      rw [← hPL2, ← hS] at hst
      have HST := Lib.hid hst
      have hal : (logT s l i).length ≤ 100000 := by rw [logT_len]; omega
      have HAL := Lib.hid hal
      have HLN := Lib.hid (logT_len s l i)
      obtain ⟨acc, hacc⟩ : ∃ a, a = logT s l i := ⟨_, rfl⟩
      rw [← hacc] at how HST HAL HLN
      obtain ⟨Y1, hY1⟩ : ∃ Y1, Y1 = wr.alloc (.cells #[.int .i64 o.no, .string (strB o.data)] 52) := ⟨_, rfl⟩
      obtain ⟨Y2, hY2⟩ : ∃ Y2, Y2 = Y1.alloc (.cells #[.int .i64 s, .int .i64 (i : Nat), .bool false, .int .i64 o.no, .string (strB o.data)] 55) := ⟨_, rfl⟩
      obtain ⟨G, hG⟩ : ∃ G, G = Y1.heap.size := ⟨_, rfl⟩
      have hG1 : Y1.heap.size = wr.heap.size + 1 := by rw [hY1]; simp
      have hlb : Ent.LBox Y1 wr.heap.size o.no o.data := by rw [hY1]; exact Ent.LBox.new wr o.no o.data
      have hlrd : LRD w Y2 G ⟨s, i, false, o.no, o.data⟩ (.slice Z1 i z1) acc := by
        rw [hY2, hG]
        refine ⟨Ent.EBox.new Y1 ⟨s, i, false, o.no, o.data⟩, (how.below (by rw [hY1]; exact below_one _ _)).below (below_one _ _), Dsk.below_trans' (Dsk.below_trans' hbr (by rw [hY1]; exact below_one _ _)) (below_one _ _), fun k hk => ?_⟩
        have := (World.ownsRow.lt how k hk).2
        omega
      have HT0 := Lib.hid hlrd
      have HY1 := Lib.hid hY1
      have HY2 := Lib.hid hY2
      have HLB := Lib.hid hlb
      have HG : Hid (wr.heap.size + 1 = G) := Lib.hid (by omega)
      have HG2 : Hid (Y1.heap.size = G) := Lib.hid (by omega)
      clear ho hst hY1 hY2 hlrd how hbr hacc hPL hPL2 hS hal hen hlb hG1 hG
      go_upto_region 5 with (fail)
      rw [← HY1.out]
      clear x0 x1 HY1
      have y0 := HLB.out.c0
      have y1 := HLB.out.c1
      go_wp2_with fail
      rw [← HY2.out]
      rw [HG2.out]
      clear y0 y1 HY2 HLB
      have HT : Hid (LRD w Y2.drew G ⟨s, i, false, o.no, o.data⟩ (.slice Z1 i z1) acc) := Lib.hid (HT0.out.more (Below.refl _ _).drew)
      go_region_held3 (fun W => W.cell? ⟨G, 0, none⟩ = some (.int .i64 s) ∧ W.cell? ⟨G, 1, none⟩ = some (.int .i64 (i : Nat)) ∧ W.cell? ⟨G, 2, none⟩ = some (.bool false) ∧ W.cell? ⟨G, 3, none⟩ = some (.int .i64 o.no) ∧ W.cell? ⟨G, 4, none⟩ = some (.string (strB o.data))) (first | with_reducible exact ecells HT.out.eb | with_reducible exact ecells (HT.out.more (below_one _ _)).eb | with_reducible exact ecells HF.out.1) (first
        | (go_at_call 80; (with_reducible refine (C1.out _).mono ?_); rintro e wa ⟨rfl, rfl⟩)
        | (go_at_call 92; (with_reducible refine (C2.out _).mono ?_); rintro e wa ⟨rfl, hBa⟩; (with_reducible replace HT := Lib.hid (HT.out.more hBa)); clear hBa)
        | (refine step_one rfl _ _ rfl w.heap.size (.slice Z1 i z1) acc PL S _ (by simp [Act.eval]) (by simp [Act.eval]) ((HT.out.more (below_one _ _)).own) (heap_alloc_new _ _) HAL.out ((HT.out.more (below_one _ _)).below.size) ?_; intro v' w' hown' hbl' hkk' hsz'; have HF := Lib.hid ((HT.out.more (below_one _ _)).app hown' hbl' hkk'); obtain ⟨Z3, z3, hZ3⟩ := hown'.form; subst hZ3; clear hown' hbl' hkk' hsz'))
      all_goals
        (rename_i hheld; clear hheld)
        rw [← HST.out, logT_len] at HF
        go_wp2_with fail
        exact ⟨⟨i + 1, Z3, z3, by omega, by go_num, by rw [HLN.out], HF.out.2.1, HF.out.2.2⟩, by simp [intOf]; omega⟩
    · have hnl : decide ((i : Int) < (n : Int)) = false := by simp; omega
      obtain rfl : i = n := by omega
      obtain ⟨PL, hPL⟩ : ∃ p, p = logN (i : Int) := ⟨_, rfl⟩
      have hPL2 : PL = 1 + (i : Int) := by rw [hPL]; unfold logN wrap64; omega
      obtain ⟨S, hS⟩ : ∃ z, z = strB (Ent.printL (entK s l i)) := ⟨_, rfl⟩
      have hen : entK s l i = ⟨s, i, true, i, []⟩ := by rw [HN.out]; exact ent_last
      have C1 := log_calls (i : Int)
      have C2 := fun W => Ent.print_calls ⟨s, i, true, i, []⟩ W (by simp)
      rw [← hPL] at C1
      rw [← hen, ← hS, hen] at C2
      unfold Ent.enV at C2
      dsimp only at C2
      have C1 := Lib.hid C1
      have C2 := Lib.hid C2
      have hst := logT_next s l i
      rw [← hPL2, ← hS] at hst
      have hfin : logL s l = logT s l (i + 1) := by unfold logL logT; rw [HN.out]
      have HST := Lib.hid (hfin.trans hst)
      have hal : (logT s l i).length ≤ 100000 := by rw [logT_len]; omega
      have HAL := Lib.hid hal
      have HLN := Lib.hid (logT_len s l i)
      obtain ⟨acc, hacc⟩ : ∃ a, a = logT s l i := ⟨_, rfl⟩
      rw [← hacc] at how HST HAL HLN
      obtain ⟨Y2, hY2⟩ : ∃ Y2, Y2 = wr.alloc (.cells #[.int .i64 s, .int .i64 (i : Nat), .bool true, .int .i64 (i : Nat), .string (strB [])] 55) := ⟨_, rfl⟩
      obtain ⟨G, hG⟩ : ∃ G, G = wr.heap.size := ⟨_, rfl⟩
      have hlrd : LRD w Y2 G ⟨s, i, true, i, []⟩ (.slice Z1 i z1) acc := by
        rw [hY2, hG]
        exact ⟨Ent.EBox.new wr ⟨s, i, true, i, []⟩, how.below (below_one _ _), Dsk.below_trans' hbr (below_one _ _), fun k hk => (World.ownsRow.lt how k hk).2⟩
      have HT0 := Lib.hid hlrd
      change Y2 = wr.alloc (.cells #[.int .i64 s, .int .i64 (i : Nat), .bool true, .int .i64 (i : Nat), .string ⟨#[]⟩] 55) at hY2
      change Hid (∀ W, Calls Tryz.prog 92 #[.agg #[.int .i64 s, .int .i64 (i : Nat), .bool true, .int .i64 (i : Nat), .string ⟨#[]⟩]] W _) at C2
      have HY2 := Lib.hid hY2
      have HG2 : Hid (wr.heap.size = G) := Lib.hid hG.symm
      clear hst hY2 hlrd how hbr hacc hPL hPL2 hS hal hen hG hfin
      go_upto_region 10 with (fail)
      rw [← HY2.out]
      rw [HG2.out]
      clear HY2
      have HT : Hid (LRD w Y2.drew G ⟨s, i, true, i, []⟩ (.slice Z1 i z1) acc) := Lib.hid (HT0.out.more (Below.refl _ _).drew)
      go_region_held3 (fun W => W.cell? ⟨G, 0, none⟩ = some (.int .i64 s) ∧ W.cell? ⟨G, 1, none⟩ = some (.int .i64 (i : Nat)) ∧ W.cell? ⟨G, 2, none⟩ = some (.bool true) ∧ W.cell? ⟨G, 3, none⟩ = some (.int .i64 (i : Nat)) ∧ W.cell? ⟨G, 4, none⟩ = some (.string ⟨#[]⟩)) (first | with_reducible exact ecells HT.out.eb | exact ecells HT.out.eb | exact ecells (HT.out.more (below_one _ _)).eb | exact ecells HF.out.1) (first
        | (go_at_call 80; (with_reducible refine (C1.out _).mono ?_); rintro e wa ⟨rfl, rfl⟩)
        | (go_at_call 92; (with_reducible refine (C2.out _).mono ?_); rintro e wa ⟨rfl, hBa⟩; (with_reducible replace HT := Lib.hid (HT.out.more hBa)); clear hBa)
        | (refine step_one rfl _ _ rfl w.heap.size (.slice Z1 i z1) acc PL S _ (by simp [Act.eval]) (by simp [Act.eval]) ((HT.out.more (below_one _ _)).own) (heap_alloc_new _ _) HAL.out ((HT.out.more (below_one _ _)).below.size) ?_; intro v' w' hown' hbl' hkk' hsz'; have HF := Lib.hid ((HT.out.more (below_one _ _)).app hown' hbl' hkk'); obtain ⟨Z3, z3, hZ3⟩ := hown'.form; subst hZ3; clear hown' hbl' hkk' hsz'))
      all_goals
        (rename_i hheld; clear hheld)
        go_wp2_with fail
        go_ret
        exact ⟨.slice Z3 (acc ++ [(PL, S)]).length z3, by simp, by rw [HST.out]; exact HF.out.2.1.isWts, HF.out.2.2⟩

end Go.Proofs.YtnbbijpmkhdgpaaGreat.Vlt
