/- Contracts and plain mathematics that the statement's proof wants: no statement is proved here, nothing is assumed. -/
import Derived.BigRegion
import Derived.Deep.RegionWith
import Derived.Test.YtgeiemccjionpaaGreatMg01
import Derived.Test.YtgeiemccjionpaaGreatMg27
import Derived.Test.YtgeiemccjionpaaGreatMg29
/- HRead -/
namespace Go.Proofs.YtgeiemccjionpaaGreat.Chn
open Go.RowKit Go.Sort
open Dsk Vlt
open Wire (TK TP But numV numS txtV txtS numL inside good takeV takeS)

/-! The tape of a page -/
section
variable {d : List UInt8}
theorem numL2 {l : List UInt8} (h : 2 ≤ l.length) : numL (l.take 2) = (l.getD 0 0).toNat * 256 + (l.getD 1 0).toNat := by
  match l, h with
  | a :: b :: l, _ => exact Wire.numL_two a b
theorem tape_next (h : d.length = 208) : numV 2 0 65535 ⟨d, false⟩ = nextB d ∧ numS 2 0 65535 ⟨d, false⟩ = ⟨d.drop 2, false⟩ := by
  have hg : good 2 ⟨d, false⟩ = true := Wire.good_yes (by omega)
  have hn : numL (d.take 2) = nextB d := numL2 (by omega)
  have hi : inside 2 0 65535 ⟨d, false⟩ = true := by
    unfold inside
    rw [hg]
    dsimp only
    rw [hn]
    have : nextB d ≤ 65535 := by
      unfold nextB
      have := (d.getD 0 0).toNat_lt
      have := (d.getD 1 0).toNat_lt
      omega
    rw [Bool.true_and, Bool.and_eq_true, decide_eq_true_eq, decide_eq_true_eq]
    omega
  constructor
  · unfold numV; rw [if_pos hi]; exact hn
  · unfold numS; rw [if_pos hg, hi]; rfl
theorem len_drop (h : d.length = 208) : numL ((d.drop 2).take 2) = lenB d := by
  rw [numL2 (by rw [List.length_drop]; omega)]
  unfold lenB
  rw [List.getD_eq_getElem?_getD, List.getD_eq_getElem?_getD, List.getElem?_drop, List.getElem?_drop, ← List.getD_eq_getElem?_getD, ← List.getD_eq_getElem?_getD]
theorem tape_inside (h : d.length = 208) : inside 2 0 204 ⟨d.drop 2, false⟩ = decide (lenB d ≤ 204) := by
  have hg : good 2 ⟨d.drop 2, false⟩ = true := Wire.good_yes (by rw [List.length_drop]; omega)
  unfold inside
  rw [hg]
  dsimp only
  rw [len_drop h, Bool.true_and, Bool.eq_iff_iff, Bool.and_eq_true, decide_eq_true_eq, decide_eq_true_eq, decide_eq_true_eq]
  omega
theorem tape_part (h : d.length = 208) (hl : lenB d ≤ 204) : txtV 204 ⟨d.drop 2, false⟩ = partB d ∧ (txtS 204 ⟨d.drop 2, false⟩).bad = false := by
  have hg : good 2 ⟨d.drop 2, false⟩ = true := Wire.good_yes (by rw [List.length_drop]; omega)
  have hi : inside 2 0 204 ⟨d.drop 2, false⟩ = true := by rw [tape_inside h]; exact decide_eq_true hl
  have hv : numV 2 0 204 ⟨d.drop 2, false⟩ = lenB d := by unfold numV; rw [if_pos hi]; exact len_drop h
  have hs : numS 2 0 204 ⟨d.drop 2, false⟩ = ⟨d.drop 4, false⟩ := by
    unfold numS
    rw [if_pos hg, hi]
    simp
  have hg2 : good (lenB d) ⟨d.drop 4, false⟩ = true := Wire.good_yes (by rw [List.length_drop]; omega)
  constructor
  · unfold txtV; rw [if_pos hi, hv, hs]; unfold takeV; rw [if_pos hg2]; rfl
  · unfold txtS; rw [if_pos hi, hv, hs]; unfold takeS; rw [if_pos hg2]
theorem tape_bad (h : d.length = 208) (hl : 204 < lenB d) : txtV 204 ⟨d.drop 2, false⟩ = [] ∧ (txtS 204 ⟨d.drop 2, false⟩).bad = true := by
  have hg : good 2 ⟨d.drop 2, false⟩ = true := Wire.good_yes (by rw [List.length_drop]; omega)
  have hi : inside 2 0 204 ⟨d.drop 2, false⟩ = false := by rw [tape_inside h]; exact decide_eq_false (by omega)
  constructor
  · unfold txtV; rw [hi]; rfl
  · unfold txtS; rw [hi]; unfold numS; rw [if_neg (by simp), if_pos hg, hi]; rfl
end

/-! vault.Read at rest -/
theorem read_at (v : Value) {x : Sh} {k : VK} (no : Nat) (w : World) (hx : rightS x = true) (hs : Still x k) (hv : IsVault w v k) (hn : no < PN x) :
    Calls Tryz.prog 35 #[v, .int .i64 (no : Nat)] w fun e w' => e = .returned (.tuple #[.string (strB (CV k no)), .int .i64 0]) ∧ Below w.heap.size w w' := by
  obtain ⟨a, b, _⟩ := hs.good hx
  have := read_calls v k (no : Int) w hv a b
  rw [hs.read hx hn] at this
  exact this
theorem rread_at (v : Value) {x : Sh} {k : VK} (no : Nat) (w : World) (hx : rightS x = true) (hs : Still x k) (hv : IsVault w v k) (hn : no < PN x) :
    Calls Tryz.prog 25 #[v, .int .i64 (no : Nat)] w fun e w' => e = .returned (.tuple #[.string (strB (CV k no)), .int .i64 0]) ∧ Below w.heap.size w w' := by
  obtain ⟨a, b, _⟩ := hs.good hx
  have := rread_calls v k (no : Int) w hv a
  rw [hs.read hx hn] at this
  exact this
theorem rread_out (v : Value) {x : Sh} {k : VK} (no : Int) (w : World) (hx : rightS x = true) (hs : Still x k) (hv : IsVault w v k) (hn : no < 0 ∨ (PN x : Int) ≤ no) :
    Calls Tryz.prog 25 #[v, .int .i64 no] w fun e w' => e = .returned (.tuple #[.string ⟨#[]⟩, .int .i64 1]) ∧ Below w.heap.size w w' := by
  obtain ⟨a, b, _, _, _, c⟩ := hs.good hx
  have := rread_calls v k no w hv a
  have e : readV k no = ([], 1) := by
    unfold readV
    rw [if_pos]
    unfold hasP
    rw [c, (right_nat hx).1]
    omega
  rw [e] at this
  exact this

/-- What chain.read answers. -/
def rdC (C : Nat → List UInt8) (n : Nat) (no : Int) : Nat × List UInt8 × Int :=
  if no < 0 ∨ (n : Int) ≤ no then (0, [], 2) else if 204 < lenB (C no.toNat) then (0, [], 2) else (nextB (C no.toNat), partB (C no.toNat), 0)

/-- A vault's value, by letters. -/
theorem Still.form {v : Value} {x : Sh} {k : VK} {w : World} (hx : rightS x = true) (hs : Still x k) (hv : IsVault w v k) :
    ∃ vs vw dl jr sq vd, v = .agg #[vs, vw, .bool false, .int .i64 dl, .int .i64 ((PN x : Nat) : Int), .int .i64 jr, .int .i64 sq, vd] := by
  obtain ⟨vs, vw, vd, rfl, _, _⟩ := hv
  refine ⟨vs, vw, k.disk.left, k.shape.journal, k.seq, vd, ?_⟩
  rw [hs.up, hs.shape, ← (right_nat hx).1]

set_option maxRecDepth 100000 in
set_option maxHeartbeats 4000000 in
theorem cread_calls (v : Value) {x : Sh} {k : VK} (no : Int) (w : World) (hx : rightS x = true) (hs : Still x k) (hv : IsVault w v k) :
    Calls Tryz.prog 47 #[v, .int .i64 no] w fun e w' => e = .returned (.tuple #[.int .i64 (rdC (CV k) (PN x) no).1, .string (strB (rdC (CV k) (PN x) no).2.1), .int .i64 (rdC (CV k) (PN x) no).2.2]) ∧ Below w.heap.size w w' := by
  obtain ⟨vs, vw, dl, jr, sq, vd, rfl⟩ := hs.form hx hv
  have HV := Lib.hid hv
  obtain ⟨n, hn⟩ : ∃ n, n = PN x := ⟨_, rfl⟩
  rw [← hn] at HV ⊢
  obtain ⟨Y, hY, hYb, hB⟩ : ∃ Y, Y = w.alloc (.cells #[vs, vw, .bool false, .int .i64 dl, .int .i64 (n : Nat), .int .i64 jr, .int .i64 sq, vd] 32) ∧ Y.heap[w.heap.size]? = some (.cells #[vs, vw, .bool false, .int .i64 dl, .int .i64 (n : Nat), .int .i64 jr, .int .i64 sq, vd] 32 (0, 0)) ∧ Below w.heap.size w Y := ⟨_, rfl, heap_alloc_new w _, below_one _ _⟩
  have HY := Lib.hid hY
  have HB := Lib.hid hB
  obtain ⟨⟨i0, i1, i2, i3, i4, i5, i6, i7⟩, _⟩ := box8 hYb
  rw [hY] at i0 i1 i2 i3 i4 i5 i6 i7
  clear hY hYb hB hv
  by_cases hout : no < 0 ∨ (n : Int) ≤ no
  · have HE : Hid (rdC (CV k) n no = (0, [], 2)) := Lib.hid (by unfold rdC; rw [if_pos hout])
    rw [HE.out]
    clear hs hn
    by_cases h0 : no < 0
    · have hd := decide_eq_true h0
      go_enter Tryz.func47, Tryz.ntmps47
      go_wp2_with fail
      go_ret3; refine ⟨rfl, ?_⟩
      rw [← HY.out]
      exact HB.out
    · have hd := decide_eq_false h0
      have h3 : (n : Int) ≤ no := by omega
      go_enter Tryz.func47, Tryz.ntmps47
      go_wp2_with fail
      go_ret3; refine ⟨rfl, ?_⟩
      rw [← HY.out]
      exact HB.out
  · obtain ⟨p, rfl⟩ := Int.eq_ofNat_of_zero_le (show 0 ≤ no by omega)
    have hd := decide_eq_false (show ¬ ((p : Int) < 0) by omega)
    have h3 : ¬ (n : Int) ≤ (p : Int) := by omega
    have HRD := Lib.hid (fun W (hW : Below w.heap.size w W) => read_at _ p W hx hs (HV.out.below hW) (by omega))
    obtain ⟨d, hdd⟩ : ∃ d, d = CV k p := ⟨_, rfl⟩
    have hlen : d.length = 208 := by rw [hdd]; exact CV_len hs p
    obtain ⟨t1, t2⟩ := tape_next hlen
    have T1 := Lib.hid t1
    have T2 := Lib.hid t2
    rw [← hdd] at HRD
    by_cases hl : 204 < lenB d
    · have HE : Hid (rdC (CV k) n (p : Int) = (0, [], 2)) := Lib.hid (by unfold rdC; rw [if_neg hout, Int.toNat_natCast, ← hdd, if_pos hl])
      rw [HE.out]
      obtain ⟨t3, t4⟩ := tape_bad hlen hl
      have T3 := Lib.hid t3
      have T4 := Lib.hid t4
      clear hdd hlen t1 t2 t3 t4 hout hs hx hn
      go_enter Tryz.func47, Tryz.ntmps47
      go_wp2_with fail
      rw [← HY.out]
      (with_reducible refine (HRD.out _ HB.out).mono ?_)
      rintro e w1 ⟨rfl, hb1⟩
      have HB1 := Lib.hid (Dsk.below_trans' HB.out hb1)
      clear hb1
      go_wp2_with fail
      have HT0 := Lib.hid (TP.new 118 w1 d false)
      (with_reducible refine (Wire.ttwo_calls w1.heap.size 0 65535 ⟨d, false⟩ _ HT0.out).mono ?_)
      rintro e w2 ⟨rfl, ht2, hb2⟩
      rw [T2.out] at ht2
      have HT2 := Lib.hid ht2
      have HU2 : Hid (But w1.heap.size w1 w2) := Lib.hid ((But.of _ (below_one w1 _)).trans hb2)
      clear ht2 hb2
      go_wp2_with fail
      (with_reducible refine (Wire.ttext_calls w1.heap.size 204 ⟨d.drop 2, false⟩ _ HT2.out).mono ?_)
      rintro e w3 ⟨rfl, ht3, hb3⟩
      have q1 := ht3.bad
      rw [T4.out] at q1
      have HB3 : Hid (Below w.heap.size w w3) := Lib.hid (HB1.out.trans ((HU2.out.trans hb3).below HB1.out.size HB1.out.size))
      clear ht3 hb3
      go_wp2_with fail
      exact bodyPost_ret (v := .tuple #[.int .i64 0, .string ⟨#[]⟩, .int .i64 2]) (by simp [results, Tryz.results47, go_sem]) rfl ⟨rfl, HB3.out⟩
    · have hl2 : lenB d ≤ 204 := by omega
      have HE : Hid (rdC (CV k) n (p : Int) = (nextB d, partB d, 0)) := Lib.hid (by unfold rdC; rw [if_neg hout, Int.toNat_natCast, ← hdd, if_neg hl])
      rw [HE.out]
      obtain ⟨t3, t4⟩ := tape_part hlen hl2
      have T3 := Lib.hid t3
      have T4 := Lib.hid t4
      clear hdd hlen t1 t2 t3 t4 hout hs hx hn
      go_enter Tryz.func47, Tryz.ntmps47
      go_wp2_with fail
      rw [← HY.out]
      (with_reducible refine (HRD.out _ HB.out).mono ?_)
      rintro e w1 ⟨rfl, hb1⟩
      have HB1 := Lib.hid (Dsk.below_trans' HB.out hb1)
      clear hb1
      go_wp2_with fail
      have HT0 := Lib.hid (TP.new 118 w1 d false)
      (with_reducible refine (Wire.ttwo_calls w1.heap.size 0 65535 ⟨d, false⟩ _ HT0.out).mono ?_)
      rintro e w2 ⟨rfl, ht2, hb2⟩
      rw [T2.out] at ht2
      have HT2 := Lib.hid ht2
      have HU2 : Hid (But w1.heap.size w1 w2) := Lib.hid ((But.of _ (below_one w1 _)).trans hb2)
      clear ht2 hb2
      rw [T1.out]
      go_wp2_with fail
      (with_reducible refine (Wire.ttext_calls w1.heap.size 204 ⟨d.drop 2, false⟩ _ HT2.out).mono ?_)
      rintro e w3 ⟨rfl, ht3, hb3⟩
      have q1 := ht3.bad
      rw [T4.out] at q1
      have HB3 : Hid (Below w.heap.size w w3) := Lib.hid (HB1.out.trans ((HU2.out.trans hb3).below HB1.out.size HB1.out.size))
      clear ht3 hb3
      rw [T3.out]
      go_wp2_with fail
      exact bodyPost_ret (v := .tuple #[.int .i64 (nextB d : Nat), .string (strB (partB d)), .int .i64 0]) (by simp [results, Tryz.results47, go_sem]) rfl ⟨rfl, HB3.out⟩
end Go.Proofs.YtgeiemccjionpaaGreat.Chn

/- HWalk -/
namespace Go.Proofs.YtgeiemccjionpaaGreat.Chn
open Go.RowKit Go.Sort
open Dsk Vlt

/-! What a walk answers, from any page on -/
def walkZ (C : Nat → List UInt8) (n f : Nat) (ps : List Nat) (t : List UInt8) (no : Int) : List Nat × List UInt8 × Int := if no < 0 then ([], [], 2) else walkC C n f ps t no.toNat
section
variable (C : Nat → List UInt8) (n : Nat)
theorem walkZ_zero (f : Nat) (ps : List Nat) (t : List UInt8) : walkZ C n f ps t 0 = if ps = [] then ([], [], 1) else (ps, t, 0) := by
  unfold walkZ
  rw [if_neg (by omega)]
  exact walk_zero C n f ps t
theorem walkZ_full (ps : List Nat) (t : List UInt8) {no : Int} (h : no ≠ 0) : walkZ C n 0 ps t no = ([], [], 2) := by
  unfold walkZ
  by_cases h0 : no < 0
  · rw [if_pos h0]
  · rw [if_neg h0]
    obtain ⟨k, hk⟩ : ∃ k, no.toNat = k + 1 := ⟨no.toNat - 1, by omega⟩
    rw [hk]
    rfl
theorem walkZ_out (f : Nat) (ps : List Nat) (t : List UInt8) {no : Int} (h : no ≠ 0) (ho : no < 0 ∨ (n : Int) ≤ no ∨ 204 < lenB (C no.toNat)) : walkZ C n f ps t no = ([], [], 2) := by
  cases f with
  | zero => exact walkZ_full C n ps t h
  | succ f =>
    unfold walkZ
    by_cases h0 : no < 0
    · rw [if_pos h0]
    · rw [if_neg h0]
      obtain ⟨k, hk⟩ : ∃ k, no.toNat = k + 1 := ⟨no.toNat - 1, by omega⟩
      rw [hk] at ho ⊢
      show (if n ≤ k + 1 then _ else if 204 < lenB (C (k + 1)) then _ else _) = _
      by_cases h1 : n ≤ k + 1
      · rw [if_pos h1]
      · rw [if_neg h1, if_pos (by omega)]
theorem walkZ_next (f : Nat) (ps : List Nat) (t : List UInt8) {no : Int} (h : 0 < no) (hn : no < n) (hl : lenB (C no.toNat) ≤ 204) :
    walkZ C n (f + 1) ps t no = walkZ C n f (ps ++ [no.toNat]) (t ++ partB (C no.toNat)) (nextB (C no.toNat) : Nat) := by
  unfold walkZ
  rw [if_neg (by omega), if_neg (by omega), walk_next C n f ps t (by omega) (by omega) hl, Int.toNat_natCast]
theorem part_len (d : List UInt8) (h : lenB d ≤ 204) : (partB d).length ≤ 204 := by unfold partB; rw [List.length_take]; omega
end

/-- What lies in a round of Walk. -/
structure WD (w W : World) (vs vw vd : Value) (dl jr sq : Int) (n : Nat) (vp : Value) (ps : List Int) (t : List UInt8) : Prop where
  box : W.heap[w.heap.size]? = some (.cells #[vs, vw, .bool false, .int .i64 dl, .int .i64 (n : Nat), .int .i64 jr, .int .i64 sq, vd] 32 (0, 0))
  bld : Bld (w.heap.size + 1) (w.heap.size + 1) t W
  own : OwnI (w.heap.size + 1) W vp ps
  below : Below w.heap.size w W
section
variable {w W W' : World} {vs vw vd vp vq : Value} {dl jr sq : Int} {n : Nat} {ps qs : List Int} {t u : List UInt8}
theorem WD.more (h : WD w W vs vw vd dl jr sq n vp ps t) (k : Below W.heap.size W W') : WD w W' vs vw vd dl jr sq n vp ps t := ⟨box_kept _ h.box k, h.bld.below k, h.own.below k, Dsk.below_trans' h.below k⟩
theorem own_kind {B : Nat} (h : OwnI B W vp ps) : ∀ g, vp.ownBlock = some g → ∃ c, W.heap[g]? = some (.cells c 3 (0, 0)) ∧ B ≤ g := by
  intro g hg
  rcases h.2 with ⟨rfl, _⟩ | ⟨g', cap, cur, rfl, hB, hgg, _⟩
  · simp [Value.ownBlock] at hg
  · simp [Value.ownBlock] at hg
    subst hg
    exact ⟨cur, hgg, hB⟩
theorem WD.push (h : WD w W vs vw vd dl jr sq n vp ps t) (ho : OwnI (w.heap.size + 1) W' vq qs) (hb : ∀ (a : World), Below (w.heap.size + 1) a W → Below (w.heap.size + 1) a W') (hk : ∀ k ob, W.heap[k]? = some ob → some k ≠ vp.ownBlock → W'.heap[k]? = some ob) (hs : W.heap.size ≤ W'.heap.size) : WD w W' vs vw vd dl jr sq n vq qs t := by
  have hbb := hb W (Below.refl _ _)
  refine ⟨hk _ _ h.box fun e => ?_, ?_, ho, ?_⟩
  · obtain ⟨c, _, hB⟩ := own_kind h.own _ e.symm
    omega
  · have hgr : W.grownBy W' vp.ownBlock := ⟨hbb.os, hbb.tape, hbb.output, hs, fun i hi hne => by
      obtain ⟨ob, hob⟩ : ∃ ob, W.heap[i]? = some ob := ⟨_, Array.getElem?_eq_getElem hi⟩
      rw [hob]
      exact hk i ob hob hne⟩
    have one : ∀ p, Lib.BuilderAtF 88 5 (w.heap.size + 1) (w.heap.size + 1) p (Lib.byteCells t) W → Lib.BuilderAtF 88 5 (w.heap.size + 1) (w.heap.size + 1) p (Lib.byteCells t) W' := by
      rintro p ⟨hB, v, hbk, hown, hne⟩
      refine ⟨hB, v, hk _ _ hbk fun e => ?_, hown.kept hgr ?_, hne⟩
      · obtain ⟨c, hc, _⟩ := own_kind h.own _ e.symm
        rw [hbk] at hc
        cases hc
      · cases hv : v.ownBlock with
        | none => exact .inl rfl
        | some g =>
          refine .inr fun e => ?_
          obtain ⟨c, hc, _⟩ := own_kind h.own _ e.symm
          obtain ⟨c2, fz, hc2⟩ := Lib.ownsRowF_kind hown _ hv
          rw [hc] at hc2
          cases hc2
    exact Or.elim h.bld (fun x => .inl (one _ x)) (fun x => .inr (one _ x))
  · exact h.below.trans (hbb.mono (by omega))
theorem WD.put (h : WD w W vs vw vd dl jr sq n vp ps t) (ho : Bld (w.heap.size + 1) (w.heap.size + 1) u W') (hb : Below (w.heap.size + 1) W W') (hk : Lib.OthersKept 5 (some (w.heap.size + 1)) W W') : WD w W' vs vw vd dl jr sq n vp ps u := by
  refine ⟨hk _ _ h.box (fun e => by injection e with e; omega) (fun c fz e => by cases e), ho, ?_, h.below.trans (hb.mono (by omega))⟩
  refine ⟨h.own.1, ?_⟩
  rcases h.own.2 with hn | ⟨g, cap, cur, e, hg1, hg, rest⟩
  · exact .inl hn
  · refine .inr ⟨g, cap, cur, e, hg1, hk _ _ hg (fun e2 => ?_) (fun c fz e2 => by cases e2), rest⟩
    injection e2 with e2
    have := h.bld
    subst e2
    rcases this with ⟨_, v, hbk, _⟩ | ⟨_, v, hbk, _⟩ <;> (rw [hg] at hbk; cases hbk)
end

theorem bget2_calls (B b : Nat) (l : List UInt8) (w : World) (h : Bld B b l w) :
    Calls Tryz.prog 49 #[.pointer (some ⟨b, 0, none⟩)] w fun e w' => e = .returned (.string (strB l)) ∧ Bld B b l w' ∧ Below B w w' ∧ Lib.OthersKept 5 (some b) w w' := by
  have hb := h.le
  have hl := h.lt
  exact Tryz.Builder_String_any_k B b l w h (by omega)

/-- A slice's length. -/
def slen : Value → Nat
  | .slice _ n _ => n
  | _ => 0

set_option maxRecDepth 100000 in
set_option maxHeartbeats 8000000 in
theorem walk_calls (v : Value) {x : Sh} {k : VK} (no : Int) (w : World) (hx : rightS x = true) (hs : Still x k) (hv : IsVault w v k) (R : List Nat × List UInt8 × Int) (hR : walkZ (CV k) (PN x) (PN x) [] [] no = R) :
    Calls Tryz.prog 16 #[v, .int .i64 no] w fun e w' => ∃ vp, e = .returned (.tuple #[vp, .string (strB R.2.1), .int .i64 R.2.2]) ∧ IsInts w' vp (natI R.1) ∧ Below w.heap.size w w' := by
  obtain ⟨vs, vw, dl, jr, sq, vd, rfl⟩ := hs.form hx hv
  have HV := Lib.hid hv
  have hx16 := (right_nat hx).2.2
  have HRD := Lib.hid (fun W (hW : Below w.heap.size w W) (no : Int) => cread_calls _ no W hx hs (HV.out.below hW))
  obtain ⟨n, hn⟩ : ∃ n, n = PN x := ⟨_, rfl⟩
  obtain ⟨C, hC⟩ : ∃ C, C = CV k := ⟨_, rfl⟩
  rw [← hn] at HRD hR hx16 ⊢
  rw [← hC] at HRD hR
  have hn1 : 16 ≤ n := hx16.1
  have hn2 : n ≤ 512 := hx16.2.1
  have HLG := Lib.hid (fun W => longest_calls n jr W hn2)
  clear hn hC hx16 hv HV hx hs
  by_cases h0 : no = 0
  · subst h0
    rw [walkZ_zero, if_pos rfl] at hR
    subst hR
    go_enter Tryz.func16, Tryz.ntmps16
    go_wp2_with fail
    go_ret3
    exact ⟨_, rfl, IsInts.nil _, below_one _ _⟩
  · have HR := Lib.hid hR
    have hd0 : (no == (0 : Int)) = false := by simpa using h0
    obtain ⟨Y, hY, hYb, hB⟩ : ∃ Y, Y = (w.alloc (.cells #[vs, vw, .bool false, .int .i64 dl, .int .i64 (n : Nat), .int .i64 jr, .int .i64 sq, vd] 32)).alloc (.cells #[.pointer none, .slice none 0 0] 88) ∧ WD w Y vs vw vd dl jr sq n (.slice none 0 0) (natI []) [] ∧ Below w.heap.size w Y := by
      have e : (w.alloc (.cells #[vs, vw, .bool false, .int .i64 dl, .int .i64 (n : Nat), .int .i64 jr, .int .i64 sq, vd] 32)).heap.size = w.heap.size + 1 := by simp
      have b0 := Bld.new (w.alloc (.cells #[vs, vw, .bool false, .int .i64 dl, .int .i64 (n : Nat), .int .i64 jr, .int .i64 sq, vd] 32))
      rw [e] at b0
      have hb := Dsk.below_trans' (below_one w (.cells #[vs, vw, .bool false, .int .i64 dl, .int .i64 (n : Nat), .int .i64 jr, .int .i64 sq, vd] 32)) (below_one _ (.cells #[.pointer none, .slice none 0 0] 88))
      exact ⟨_, rfl, ⟨box_alloc (heap_alloc_new w _) _, b0, OwnI.nil _ _, hb⟩, hb⟩
    have HY := Lib.hid hY
    have HW := Lib.hid hYb
    clear hY hYb hB hR
    go_enter Tryz.func16, Tryz.ntmps16
    go_wp2_with fail
    rw [← HY.out]
    clear HY
    go_loopw [1, 7] (fun s1 s7 wr => ∃ (no : Int) (f : Nat) (ps : List Nat) (t : List UInt8) (Z : Option Addr) (z : Nat), s1 = .int .i64 no ∧ s7 = .slice Z ps.length z ∧ f + ps.length = n ∧ (ps = [] → no ≠ 0) ∧ walkZ C n f ps t no = R ∧ t.length ≤ 204 * ps.length ∧ WD w wr vs vw vd dl jr sq n (.slice Z ps.length z) (natI ps) t) (fun _ s7 _ => n - slen s7)
    case atStart => exact ⟨no, n, [], [], _, _, rfl, rfl, rfl, fun _ => h0, HR.out, Nat.le_refl _, HW.out⟩
    case round =>
      clear hd0 h0 HR
      obtain ⟨no, f, ps, t, Z, z, rfl, rfl, hf, hne, hR, htl, hW⟩ := hrel
      obtain ⟨w2, rfl⟩ : ∃ w2, w2 = wr := ⟨_, rfl⟩
      obtain ⟨⟨i0, i1, i2, i3, i4, i5, i6, i7⟩, _⟩ := box8 hW.box
      have HW2 := Lib.hid hW
      clear HW hW
      by_cases h0 : no = 0
      · subst h0
        rw [walkZ_zero, if_neg (fun e => hne e rfl)] at hR
        subst hR
        clear hne i0 i1 i2 i3 i4 i5 i6 i7
        go_wp2_with fail
        (with_reducible refine (bget2_calls (w.heap.size + 1) (w.heap.size + 1) t _ HW2.out.bld).mono ?_)
        rintro e w3 ⟨rfl, hd3, hb3, hk3⟩
        have HW3 := Lib.hid (HW2.out.put hd3 hb3 hk3)
        clear hd3 hb3 hk3
        go_wp2_with fail
        go_ret3
        exact ⟨_, rfl, HW3.out.own.isInts, HW3.out.below⟩
      · have hd0 : (no == (0 : Int)) = false := by simpa using h0
        cases f with
        | zero =>
          rw [walkZ_full C n ps t h0] at hR
          subst hR
          have hg : (n : Int) ≤ (ps.length : Int) := by omega
          have HB2 := Lib.hid HW2.out.below
          clear hne
          go_wp2_with fail
          (with_reducible refine (HLG.out _).mono ?_)
          rintro e w3 ⟨rfl, hb3⟩
          have HB3 := Lib.hid (Dsk.below_trans' HB2.out hb3)
          clear hb3
          go_wp2_with fail
          go_ret3
          exact ⟨_, rfl, IsInts.nil _, HB3.out⟩
        | succ f =>
          have hg : ¬ (n : Int) ≤ (ps.length : Int) := by omega
          clear hne
          go_wp2_with fail
          (with_reducible refine (HLG.out _).mono ?_)
          rintro e w3 ⟨rfl, hb3⟩
          have hw3 := HW2.out.more hb3
          obtain ⟨⟨j0, j1, j2, j3, j4, j5, j6, j7⟩, _⟩ := box8 hw3.box
          have HW3 := Lib.hid hw3
          clear hb3 hw3 i0 i1 i2 i3 i4 i5 i6 i7 HW2
          go_wp2_with fail
          (with_reducible refine (HRD.out _ HW3.out.below no).mono ?_)
          rintro e w4 ⟨rfl, hb4⟩
          have HW4 := Lib.hid (HW3.out.more hb4)
          clear hb4 j0 j1 j2 j3 j4 j5 j6 j7 HW3
          by_cases hout : no < 0 ∨ (n : Int) ≤ no ∨ 204 < lenB (C no.toNat)
          · rw [walkZ_out C n _ ps t h0 hout] at hR
            subst hR
            have hrd : rdC C n no = (0, [], 2) := by
              unfold rdC
              by_cases ho : no < 0 ∨ (n : Int) ≤ no
              · rw [if_pos ho]
              · rw [if_neg ho, if_pos (by omega)]
            rw [hrd]
            clear hrd hout
            go_wp2_with fail
            go_ret3
            exact ⟨_, rfl, IsInts.nil _, HW4.out.below⟩
          · have hl : lenB (C no.toNat) ≤ 204 := by omega
            rw [walkZ_next C n f ps t (by omega) (by omega) hl] at hR
            have hrd : rdC C n no = (nextB (C no.toNat), partB (C no.toNat), 0) := by
              unfold rdC
              rw [if_neg (by omega), if_neg (by omega)]
            rw [hrd]
            have hpl := part_len _ hl
            have hno : ((no.toNat : Nat) : Int) = no := by omega
            obtain ⟨nx, hnx⟩ : ∃ nx, nx = nextB (C no.toNat) := ⟨_, rfl⟩
            obtain ⟨pt, hpt⟩ : ∃ pt, pt = partB (C no.toNat) := ⟨_, rfl⟩
            rw [← hnx, ← hpt] at hR ⊢
            rw [← hpt] at hpl
            obtain ⟨q, hq⟩ : ∃ q, q = no.toNat := ⟨_, rfl⟩
            rw [← hq] at hR hno
            have HR := Lib.hid hR
            have HNO := Lib.hid hno
            have HPL : Hid (t.length + pt.length ≤ 204 * (ps.length + 1)) := Lib.hid (by omega)
            have HT5 : Hid (t.length + pt.length ≤ 1000000) := Lib.hid (by omega)
            have hm2 : (natI ps).length ≤ 500000 := by rw [natI_len]; omega
            have hBs : w.heap.size + 1 ≤ (w4.alloc (.cells #[.int .i64 no] 3)).heap.size := by have := HW4.out.below.size; have := HW4.out.bld.lt; simp; omega
            clear hrd hout hl hnx hpt hq hR hno hpl
            go_wp2_with (at_builtin; refine wpList_push (by rfl) (.tmp 32) (.tmp 34) (by rfl) (w.heap.size + 1) _ (natI ps) no w4.heap.size (by rfl) (by rfl) (by exact HW4.out.own.below (below_one _ _)) (by exact heap_alloc_new w4 _) hm2 hBs ?_; intro Z' z' w6 hown' hbl' hkeep' hsz' hat'; obtain ⟨M2, hM2⟩ : ∃ M2, M2 = (natI ps).length + 1 := ⟨_, rfl⟩; rw [← hM2] at hown' hat' ⊢; replace hM2 := Lib.hid hM2)
            have HW6 := Lib.hid ((HW4.out.more (below_one w4 (.cells #[.int .i64 no] 3))).push hown' hbl' hkeep' hsz')
            clear hown' hbl' hkeep' hsz' hat' hm2 hBs
            go_wp2_with fail
            (with_reducible refine (bput_calls (w.heap.size + 1) (w.heap.size + 1) t pt _ HW6.out.bld HT5.out).mono ?_)
            rintro e w7 ⟨rfl, hb7, hb8, hk7⟩
            have HW7 := Lib.hid (HW6.out.put hb7 hb8 hk7)
            clear hb7 hb8 hk7
            go_wp2_with fail
            have hM : M2 = (ps ++ [q]).length := by rw [hM2.out, natI_len]; simp
            refine ⟨⟨(nx : Nat), f, ps ++ [q], t ++ pt, Z', z', rfl, by rw [hM], by simp; omega, by simp, HR.out, by simp; have := HPL.out; omega, ?_⟩, ?_⟩
            · have := HW7.out
              rw [hM] at this
              rw [natI_append]
              show WD _ _ _ _ _ _ _ _ _ _ (natI ps ++ [((q : Nat) : Int)]) _
              rw [HNO.out]
              exact this
            · show n - M2 < n - ps.length
              have := hM2.out
              rw [natI_len] at this
              omega
end Go.Proofs.YtgeiemccjionpaaGreat.Chn

/- HRWalk -/
namespace Go.Proofs.YtgeiemccjionpaaGreat.Chn
open Go.RowKit Go.Sort
open Dsk Vlt

/-- What lies in a round of the document's Walk. -/
structure RD (w W : World) (vs vw vd : Value) (dl jr sq : Int) (n : Nat) (vp : Value) (ps : List Int) : Prop where
  box : W.heap[w.heap.size]? = some (.cells #[vs, vw, .bool false, .int .i64 dl, .int .i64 (n : Nat), .int .i64 jr, .int .i64 sq, vd] 32 (0, 0))
  own : OwnI (w.heap.size + 1) W vp ps
  below : Below w.heap.size w W
section
variable {w W W' : World} {vs vw vd vp vq : Value} {dl jr sq : Int} {n : Nat} {ps qs : List Int}
theorem RD.more (h : RD w W vs vw vd dl jr sq n vp ps) (k : Below W.heap.size W W') : RD w W' vs vw vd dl jr sq n vp ps := ⟨box_kept _ h.box k, h.own.below k, Dsk.below_trans' h.below k⟩
theorem RD.size (h : RD w W vs vw vd dl jr sq n vp ps) : w.heap.size + 1 ≤ W.heap.size := (Array.getElem?_eq_some_iff.1 h.box).1
theorem RD.push (h : RD w W vs vw vd dl jr sq n vp ps) (ho : OwnI (w.heap.size + 1) W' vq qs) (hb : ∀ (a : World), Below (w.heap.size + 1) a W → Below (w.heap.size + 1) a W') (hk : ∀ k ob, W.heap[k]? = some ob → some k ≠ vp.ownBlock → W'.heap[k]? = some ob) : RD w W' vs vw vd dl jr sq n vq qs := by
  have hbb := hb W (Below.refl _ _)
  refine ⟨hk _ _ h.box fun e => ?_, ho, h.below.trans (hbb.mono (by omega))⟩
  obtain ⟨c, _, hB⟩ := own_kind h.own _ e.symm
  omega
end

theorem byte_run (d : List UInt8) (j : Nat) (h : j < d.length) (W : World) : (Instr.index 9 (.string (strB d)) (.int .i64 (j : Nat))).run Tryz.prog W = .ok (.int .u8 ((d.getD j 0).toNat : Nat)) W := by
  rw [run_index_string (P := Tryz.prog) W 9 (strB d) .i64 _ Tryz.underlying9, dif_pos ⟨by omega, by rw [strB_size]; omega⟩]
  simp only [Int.toNat_natCast, Bit.at_strB]
theorem ext_mid (l : List UInt8) (a b : Nat) : (strB l).extract a (a + b) = strB ((l.drop a).take b) := by
  apply ByteArray.ext
  apply Array.ext'
  simp [strB, ByteArray.data_extract, List.extract_eq_take_drop]
theorem cut4_run (d : List UInt8) (n : Nat) (h : 4 + n ≤ d.length) (W : World) : (Instr.slice 9 (.string (strB d)) (some (.int .i64 4)) (some (.int .i64 (4 + (n : Int)))) none).run Tryz.prog W = .ok (.string (strB ((d.drop 4).take n))) W := by
  rw [run_slice_string (P := Tryz.prog) W 9 (strB d) .i64 .i64 4 (4 + (n : Int)) Tryz.underlying9 (by omega) (by omega) (by rw [strB_size]; omega)]
  rw [← ext_mid]
  congr 3

set_option maxRecDepth 100000 in
set_option maxHeartbeats 8000000 in
theorem rwalk_calls (v : Value) {x : Sh} {k : VK} (no : Int) (w : World) (hx : rightS x = true) (hs : Still x k) (hv : IsVault w v k) (R : List Nat × List UInt8 × Int) (hR : walkZ (CV k) (PN x) (PN x) [] [] no = R) :
    Calls Tryz.prog 17 #[v, .int .i64 no] w fun e w' => ∃ vp, e = .returned (.tuple #[vp, .string (strB R.2.1), .int .i64 R.2.2]) ∧ IsInts w' vp (natI R.1) ∧ Below w.heap.size w w' := by
  obtain ⟨vs, vw, dl, jr, sq, vd, rfl⟩ := hs.form hx hv
  have HV := Lib.hid hv
  have hx16 := (right_nat hx).2.2
  have HRD := Lib.hid (fun W (hW : Below w.heap.size w W) (no : Nat) (hno : no < PN x) => rread_at _ no W hx hs (HV.out.below hW) hno)
  have HRO := Lib.hid (fun W (hW : Below w.heap.size w W) (no : Int) (hno : no < 0 ∨ (PN x : Int) ≤ no) => rread_out _ no W hx hs (HV.out.below hW) hno)
  have HCL := Lib.hid (fun j => CV_len hs j)
  obtain ⟨n, hn⟩ : ∃ n, n = PN x := ⟨_, rfl⟩
  obtain ⟨C, hC⟩ : ∃ C, C = CV k := ⟨_, rfl⟩
  rw [← hn] at HRD HRO hR hx16 ⊢
  rw [← hC] at HRD hR HCL
  have hn1 : 16 ≤ n := hx16.1
  have hn2 : n ≤ 512 := hx16.2.1
  have HR := Lib.hid hR
  obtain ⟨Y, hY, hYb⟩ : ∃ Y, Y = w.alloc (.cells #[vs, vw, .bool false, .int .i64 dl, .int .i64 (n : Nat), .int .i64 jr, .int .i64 sq, vd] 32) ∧ RD w Y vs vw vd dl jr sq n (.slice none 0 0) (natI []) := ⟨_, rfl, heap_alloc_new w _, OwnI.nil _ _, below_one _ _⟩
  have HY := Lib.hid hY
  have HW := Lib.hid hYb
  clear hn hC hx16 hv HV hx hs hY hYb hR
  go_enter Tryz.func17, Tryz.ntmps17
  go_wp2_with fail
  rw [← HY.out]
  clear HY
  go_loopw [1, 7, 8] (fun s1 s7 s8 wr => ∃ (no : Int) (f : Nat) (ps : List Nat) (t : List UInt8) (Z : Option Addr) (z : Nat), s1 = .int .i64 no ∧ s7 = .slice Z ps.length z ∧ s8 = .string (strB t) ∧ f + ps.length = n ∧ walkZ C n f ps t no = R ∧ t.length ≤ 204 * ps.length ∧ RD w wr vs vw vd dl jr sq n (.slice Z ps.length z) (natI ps)) (fun _ s7 _ _ => n - slen s7)
  case atStart => exact ⟨no, n, [], [], _, _, rfl, rfl, rfl, rfl, HR.out, Nat.le_refl _, HW.out⟩
  case round =>
    clear HR
    obtain ⟨no, f, ps, t, Z, z, rfl, rfl, rfl, hf, hR, htl, hW⟩ := hrel
    obtain ⟨w2, rfl⟩ : ∃ w2, w2 = wr := ⟨_, rfl⟩
    obtain ⟨⟨i0, i1, i2, i3, i4, i5, i6, i7⟩, _⟩ := box8 hW.box
    have HW2 := Lib.hid hW
    clear HW hW
    by_cases h0 : no = 0
    · subst h0
      rw [walkZ_zero] at hR
      clear i0 i1 i2 i3 i4 i5 i6 i7
      by_cases hps : ps = []
      · rw [if_pos hps] at hR
        subst hR hps
        go_wp2_with fail
        go_ret3
        exact ⟨_, rfl, IsInts.nil _, HW2.out.below⟩
      · rw [if_neg hps] at hR
        subst hR
        have hl : ((ps.length : Int) == (0 : Int)) = false := by
          have : ps.length ≠ 0 := fun e => hps (List.eq_nil_of_length_eq_zero e)
          simp
          exact hps
        go_wp2_with fail
        go_ret3
        exact ⟨_, rfl, HW2.out.own.isInts, HW2.out.below⟩
    · have hd0 : (no == (0 : Int)) = false := by simpa using h0
      cases f with
      | zero =>
        rw [walkZ_full C n ps t h0] at hR
        subst hR
        have hg : (n : Int) ≤ (ps.length : Int) := by omega
        have HB2 := Lib.hid HW2.out.below
        go_wp2_with fail
        go_ret3
        exact ⟨_, rfl, IsInts.nil _, HB2.out⟩
      | succ f =>
        have hg : ¬ (n : Int) ≤ (ps.length : Int) := by omega
        by_cases hout : no < 0 ∨ (n : Int) ≤ no
        · rw [walkZ_out C n _ ps t h0 (by omega)] at hR
          subst hR
          have HRO2 := Lib.hid (HRO.out _ HW2.out.below no hout)
          clear hout
          go_wp2_with fail
          (with_reducible refine HRO2.out.mono ?_)
          rintro e w3 ⟨rfl, hb3⟩
          have HB3 := Lib.hid (Dsk.below_trans' HW2.out.below hb3)
          clear hb3
          go_wp2_with fail
          go_ret3
          exact ⟨_, rfl, IsInts.nil _, HB3.out⟩
        · obtain ⟨p, rfl⟩ := Int.eq_ofNat_of_zero_le (show 0 ≤ no by omega)
          have hRD2 := HRD.out _ HW2.out.below p (by omega)
          have hlen := HCL.out p
          have HN := Lib.hid (walkZ_next C n f ps t (no := (p : Int)) (by omega) (by omega))
          have HO := Lib.hid (fun h => walkZ_out C n (f + 1) ps t h0 (.inr (.inr h)))
          rw [Int.toNat_natCast] at HN HO
          obtain ⟨d, hd⟩ : ∃ d, d = C p := ⟨_, rfl⟩
          rw [← hd] at hRD2 hlen HN HO
          have HRD2 := Lib.hid hRD2
          have e0 : ∀ W : World, (Instr.index 9 (.string (strB d)) (.int .i64 0)).run Tryz.prog W = .ok (.int .u8 ((d.getD 0 0).toNat : Nat)) W := fun W => byte_run d 0 (by omega) W
          have e1 : ∀ W : World, (Instr.index 9 (.string (strB d)) (.int .i64 1)).run Tryz.prog W = .ok (.int .u8 ((d.getD 1 0).toNat : Nat)) W := fun W => byte_run d 1 (by omega) W
          have e2 : ∀ W : World, (Instr.index 9 (.string (strB d)) (.int .i64 2)).run Tryz.prog W = .ok (.int .u8 ((d.getD 2 0).toNat : Nat)) W := fun W => byte_run d 2 (by omega) W
          have e3 : ∀ W : World, (Instr.index 9 (.string (strB d)) (.int .i64 3)).run Tryz.prog W = .ok (.int .u8 ((d.getD 3 0).toNat : Nat)) W := fun W => byte_run d 3 (by omega) W
          obtain ⟨b0, hb0⟩ : ∃ b, b = d.getD 0 0 := ⟨_, rfl⟩
          obtain ⟨b1, hb1⟩ : ∃ b, b = d.getD 1 0 := ⟨_, rfl⟩
          obtain ⟨b2, hb2⟩ : ∃ b, b = d.getD 2 0 := ⟨_, rfl⟩
          obtain ⟨b3, hb3⟩ : ∃ b, b = d.getD 3 0 := ⟨_, rfl⟩
          rw [← hb0] at e0
          rw [← hb1] at e1
          rw [← hb2] at e2
          rw [← hb3] at e3
          have HNX : Hid (nextB d = b0.toNat * 256 + b1.toNat) := Lib.hid (by unfold nextB; rw [hb0, hb1])
          have HLB : Hid (lenB d = b2.toNat * 256 + b3.toNat) := Lib.hid (by unfold lenB; rw [hb2, hb3])
          have HWR : Hid (IntKind.i64.wrap (IntKind.i64.wrap (IntKind.i64.wrap (b0.toNat : Int) * 256) + IntKind.i64.wrap (b1.toNat : Int)) = (b0.toNat : Int) * 256 + (b1.toNat : Int)) := Lib.hid (by
            have q0 := b0.toNat_lt
            have q1 := b1.toNat_lt
            rw [wrap_small (b0.toNat : Int) (by omega) (by omega), wrap_small (b1.toNat : Int) (by omega) (by omega), wrap_small ((b0.toNat : Int) * 256) (by omega) (by omega), wrap_small _ (by omega) (by omega)])
          have q0 := b0.toNat_lt
          have q1 := b1.toNat_lt
          have q2 := b2.toNat_lt
          have q3 := b3.toNat_lt
          clear hb0 hb1 hb2 hb3 hd hRD2 hout
          go_wp2_with fail
          (with_reducible refine HRD2.out.mono ?_)
          rintro e w3 ⟨rfl, hb3⟩
          have HW3 := Lib.hid (HW2.out.more hb3)
          clear hb3 i0 i1 i2 i3 i4 i5 i6 i7
          go_wp2_with fail
          go_quiet (fail)
          obtain ⟨w4, hw4⟩ : ∃ w4, w4 = w3.drewN nq := ⟨_, rfl⟩
          rw [← hw4]
          obtain ⟨nl, hnl⟩ : ∃ nl, nl = lenB d := ⟨_, rfl⟩
          have hnl2 : (b2.toNat : Int) * 256 + (b3.toNat : Int) = (nl : Nat) := by rw [hnl, HLB.out]; omega
          rw [hnl2]
          have HNL := Lib.hid hnl
          clear hnl hnl2
          have HW4 : Hid (RD w w4 vs vw vd dl jr sq n (.slice Z ps.length z) (natI ps)) := Lib.hid (by rw [hw4]; exact HW3.out.more (Bit.below_drewN _ _))
          clear hw4
          go_wp2_with fail
          (with_reducible refine (rmost_calls _).mono ?_)
          rintro e w5 ⟨rfl, rfl⟩
          by_cases hl : 204 < lenB d
          · rw [HO.out hl] at hR
            subst hR
            have hl2 : ((nl : Int) > 204) := by rw [HNL.out]; omega
            go_wp2_with fail
            go_ret3
            exact ⟨_, rfl, IsInts.nil _, HW4.out.below⟩
          · rw [HN.out (by omega)] at hR
            have hl2 : ¬ ((nl : Int) > 204) := by rw [HNL.out]; omega
            have hl3 : nl ≤ 204 := by omega
            have hpl := part_len d (by omega)
            have hcut := cut4_run d nl (by omega)
            rw [show (d.drop 4).take nl = partB d by rw [HNL.out]; rfl] at hcut
            have hw4 : IntKind.i64.wrap (4 + (nl : Int)) = 4 + (nl : Int) := by rw [wrap_small _ (by omega) (by omega)]
            obtain ⟨pt, hpt⟩ : ∃ pt, pt = partB d := ⟨_, rfl⟩
            rw [← hpt] at hcut hR hpl
            have hz : ¬ 9223372036854775807 < (strB t).size + (strB pt).size := by rw [strB_size, strB_size]; omega
            have HJ : Hid (strB t ++ strB pt = strB (t ++ pt)) := Lib.hid (strB_append _ _)
            have hnx : ((nextB d : Nat) : Int) = (b0.toNat : Int) * 256 + (b1.toNat : Int) := by rw [HNX.out]; omega
            rw [hnx] at hR
            have HR := Lib.hid hR
            have HD := Lib.hid (HW4.out.more (Below.refl _ _).drew)
            have hm2 : (natI ps).length ≤ 500000 := by rw [natI_len]; omega
            have HM2 := Lib.hid hm2
            have HPL : Hid (t.length + pt.length ≤ 204 * (ps.length + 1)) := Lib.hid (by omega)
            clear hpt hnx hR hpl hm2 hl
            go_wp2_with fail
            go_region_law (refine step_push rfl (.tmp 42) (.tmp 44) rfl (w.heap.size + 1) (.slice Z ps.length z) (natI ps) (p : Int) _ (by simp [Act.eval]) (by simp [Act.eval]) ((HD.out.more (below_one _ _)).own) (heap_alloc_new _ _) HM2.out ((HD.out.more (below_one _ _)).size) ?_; intro Z' z' w6 hown' hbl' hkeep' hsz' hat'; obtain ⟨M2, hM2⟩ : ∃ M2, M2 = (natI ps).length + 1 := ⟨_, rfl⟩; rw [← hM2] at hown' hat' ⊢; replace hM2 := Lib.hid hM2; have HW6 := Lib.hid ((HD.out.more (below_one _ _)).push hown' hbl' hkeep'); clear hown' hbl' hkeep' hsz' hat')
            all_goals go_wp2_with fail
            all_goals rw [HJ.out]
            all_goals go_quiet (fail)
            all_goals
              obtain ⟨w7, hw7⟩ : ∃ w7, w7 = w6.drewN nq := ⟨_, rfl⟩
              rw [← hw7]
              have HW7 : Hid (RD w w7 vs vw vd dl jr sq n (.slice Z' M2 z') (natI ps ++ [(p : Int)])) := Lib.hid (by rw [hw7]; exact HW6.out.more (Bit.below_drewN _ _))
              clear hw7
              go_wp2_with fail
              have hM : M2 = (ps ++ [p]).length := by rw [hM2.out, natI_len]; simp
              refine ⟨⟨_, f, ps ++ [p], t ++ pt, Z', z', rfl, by rw [hM], rfl, by simp; omega, by rw [HWR.out]; exact HR.out, by simp; have := HPL.out; omega, ?_⟩, ?_⟩
              · have := HW7.out
                rw [hM] at this
                rw [natI_append]
                exact this
              · show n - M2 < n - ps.length
                have := hM2.out
                rw [natI_len] at this
                omega
end Go.Proofs.YtgeiemccjionpaaGreat.Chn
