/- Contracts and plain mathematics that the statement's proof wants: no statement is proved here, nothing is assumed. -/
import Derived.Test.YtnbbijpmkhdgpaaGreatMg05
import Derived.Test.YtnbbijpmkhdgpaaGreatMg10
import Derived.Test.YtnbbijpmkhdgpaaGreatMg12
import Derived.Test.YtnbbijpmkhdgpaaGreatMg13
/- VJour -/
namespace Go.Proofs.YtnbbijpmkhdgpaaGreat.Vlt
open Go.RowKit
open Ent (isE parseE En)

/-- What is known of a journal behind k sectors: the pages so far, the first entry's number, the greatest one, whether a transaction is whole, whether one may still be. -/
structure Jst (n : Int) (S : Nat → List UInt8) (k : Nat) (l : List Lf) (seq most : Int) (whole op : Bool) : Prop where
  imost : most = mostF S k
  iseq : 0 < k → seq = (parseE (S 0)).seq
  iop : op = true → whole = false ∧ l.length = k ∧ ∀ j, j < k → PageAt n (parseE (S 0)).seq j (S j) (l.getD j ⟨0, []⟩)
  iyes : whole = true → op = false ∧ ∀ J, k ≤ J → Whole n J S l
  ino : op = false → whole = false → ∀ J m, ¬ Whole n J S m
  ipos : op = false → 0 < k

theorem Jst.start (n : Int) (S : Nat → List UInt8) : Jst n S 0 [] 0 0 false true :=
  ⟨rfl, fun h => absurd h (by omega), fun _ => ⟨rfl, rfl, fun j h => absurd h (by omega)⟩, fun h => (by cases h), fun h => (by cases h), fun h => (by cases h)⟩

section
variable {n : Int} {S : Nat → List UInt8} {k : Nat} {l : List Lf} {seq most : Int} {whole op : Bool}

theorem most_next (S : Nat → List UInt8) (k : Nat) : mostF S (k + 1) = if isE (S k) = true then max (mostF S k) (parseE (S k)).seq else mostF S k := rfl

/-- No transaction may be any more: nothing turns but the greatest number. -/
theorem Jst.skip (h : Jst n S k l seq most whole false) (hk : 0 < k) : Jst n S (k + 1) l seq (if isE (S k) = true then max most (parseE (S k)).seq else most) whole false :=
  ⟨by rw [most_next, h.imost], fun _ => h.iseq hk, fun g => (by cases g), fun g => ⟨rfl, fun J hJ => (h.iyes g).2 J (by omega)⟩, h.ino, fun _ => Nat.succ_pos _⟩

/-- The next sector has a page of it. -/
theorem Jst.page (h : Jst n S k l seq most false true) {q : Int} (hq : q = if k = 0 then (parseE (S 0)).seq else seq) (hp : PageAt n q k (S k) ⟨(parseE (S k)).no, (parseE (S k)).data⟩) :
    Jst n S (k + 1) (l ++ [⟨(parseE (S k)).no, (parseE (S k)).data⟩]) q (if isE (S k) = true then max most (parseE (S k)).seq else most) false true := by
  obtain ⟨_, h2, h3⟩ := h.iop rfl
  have hq0 : q = (parseE (S 0)).seq := by
    rw [hq]
    split
    · rfl
    · exact h.iseq (by omega)
  refine ⟨by rw [most_next, h.imost], fun _ => hq0, fun _ => ⟨rfl, by simp [h2], fun j hj => ?_⟩, fun g => (by cases g), fun g => (by cases g), fun g => (by cases g)⟩
  rw [← hq0]
  by_cases e : j < k
  · have := h3 j e
    rw [← hq0] at this
    rw [List.getD_eq_getElem?_getD, List.getElem?_append_left (by omega), ← List.getD_eq_getElem?_getD]
    exact this
  · have : j = k := by omega
    subst this
    rw [List.getD_eq_getElem?_getD, List.getElem?_append_right (by omega), h2]
    simpa using hp

/-- It has its last entry. -/
theorem Jst.last (h : Jst n S k l seq most false true) {q : Int} (hq : q = if k = 0 then (parseE (S 0)).seq else seq) (hp : LastAt q k (S k)) :
    Jst n S (k + 1) l q (if isE (S k) = true then max most (parseE (S k)).seq else most) true false := by
  obtain ⟨_, h2, h3⟩ := h.iop rfl
  have hq0 : q = (parseE (S 0)).seq := by
    rw [hq]
    split
    · rfl
    · exact h.iseq (by omega)
  refine ⟨by rw [most_next, h.imost], fun _ => hq0, fun g => (by cases g), fun _ => ⟨rfl, fun J hJ => ⟨q, by omega, fun j hj => ?_, by rw [h2]; exact hp⟩⟩, fun _ g => (by cases g), fun _ => Nat.succ_pos _⟩
  rw [hq0]
  exact h3 j (by omega)

/-- It has neither. -/
theorem Jst.none_ (h : Jst n S k l seq most false true) {q : Int} (hq : q = if k = 0 then (parseE (S 0)).seq else seq)
    (hp : ¬ PageAt n q k (S k) ⟨(parseE (S k)).no, (parseE (S k)).data⟩) (hl : ¬ LastAt q k (S k)) :
    Jst n S (k + 1) l q (if isE (S k) = true then max most (parseE (S k)).seq else most) false false := by
  obtain ⟨_, h2, h3⟩ := h.iop rfl
  have hq0 : q = (parseE (S 0)).seq := by
    rw [hq]
    split
    · rfl
    · exact h.iseq (by omega)
  refine ⟨by rw [most_next, h.imost], fun _ => hq0, fun g => (by cases g), fun g => (by cases g), fun _ _ J m hw => ?_, fun _ => Nat.succ_pos _⟩
  obtain ⟨a1, a2, a3⟩ := hw.seq0
  rw [← hq0] at a2 a3
  rcases Nat.lt_trichotomy m.length k with g | g | g
  · have x := (h3 _ g).2.2.2.1
    rw [a3.2.2.2.1] at x
    cases x
  · rw [g] at a3
    exact hl a3
  · have x := a2 k g
    have y := x.2.2.2.2.2
    rw [y] at x
    exact hp x

/-- One sector more, while a transaction may still be. -/
theorem Jst.step (h : Jst n S k l seq most whole true) {y : En} (hy : parseE (S k) = y) {ok : Bool} (hok : isE (S k) = ok) {q : Int} (hq : q = if k = 0 then y.seq else seq) :
    (ok = true ∧ y.seq = q ∧ y.index = k ∧ y.last = false ∧ y.no < n → Jst n S (k + 1) (l ++ [⟨y.no, y.data⟩]) q (if ok = true then max most y.seq else most) false true) ∧
    (ok = true ∧ y.seq = q ∧ y.index = k ∧ y.last = true ∧ y.no = l.length → Jst n S (k + 1) l q (if ok = true then max most y.seq else most) true false) ∧
    (¬ (ok = true ∧ y.seq = q ∧ y.index = k ∧ y.last = false ∧ y.no < n) → ¬ (ok = true ∧ y.seq = q ∧ y.index = k ∧ y.last = true ∧ y.no = l.length) → Jst n S (k + 1) l q (if ok = true then max most y.seq else most) false false) := by
  obtain ⟨rfl, h2, _⟩ := h.iop rfl
  have hq' : q = if k = 0 then (parseE (S 0)).seq else seq := by
    rw [hq]
    by_cases e : k = 0
    · subst e
      rw [if_pos rfl, if_pos rfl, hy]
    · rw [if_neg e, if_neg e]
  subst hy hok
  refine ⟨fun ⟨a, b, c, d, e⟩ => h.page hq' ⟨a, b, c, d, e, rfl⟩, fun ⟨a, b, c, d, e⟩ => h.last hq' ⟨a, b, c, d, by rw [e, h2]⟩, fun a b => h.none_ hq' (fun ⟨c, d, e, f, g, _⟩ => a ⟨c, d, e, f, g⟩) (fun ⟨c, d, e, f, g⟩ => b ⟨c, d, e, f, by rw [g, h2]⟩)⟩

/-- What is known in the end. -/
theorem Jst.done (h : Jst n S k l seq most whole op) : most = mostF S k ∧ (if whole = true then l else []) = jl n k S := by
  refine ⟨h.imost, ?_⟩
  cases hw : whole with
  | true =>
    rw [if_pos rfl]
    exact (jl_is ((h.iyes hw).2 k (Nat.le_refl _))).symm
  | false =>
    rw [if_neg (by simp)]
    symm
    refine jl_none fun m hm => ?_
    cases ho : op with
    | false => exact h.ino ho hw k m hm
    | true =>
      obtain ⟨_, h2, h3⟩ := h.iop ho
      obtain ⟨a1, a2, a3⟩ := hm.seq0
      have x := (h3 _ a1).2.2.2.1
      rw [a3.2.2.2.1] at x
      cases x
end

end Go.Proofs.YtnbbijpmkhdgpaaGreat.Vlt

/- PWhole -/
namespace Go.Proofs.YtnbbijpmkhdgpaaGreat.Vlt
open Go.RowKit Go.Sort
open Dsk
open Ent (isE parseE)

theorem most_step (S : Nat → List UInt8) (k : Nat) : max (mostF S k) (parseE (S k)).seq = mostF S (k + 1) := by
  rw [most_next]
  cases h : isE (S k) with
  | true => rw [if_pos rfl]
  | false =>
    rw [if_neg (by simp)]
    have e : parseE (S k) = Ent.zeroE := by unfold parseE; rw [h, if_neg (by simp)]
    rw [e]
    have := most_nn S k
    unfold Ent.zeroE
    dsimp only
    omega

set_option maxRecDepth 100000 in
set_option maxHeartbeats 4000000 in
theorem greatest_calls (g J : Nat) (d : DK) (w : World) (hr : EnRow w g J (logF d J)) (hJ : J ≤ 256) :
    Calls Tryz.prog 53 #[.slice (some ⟨g, 0, none⟩) J J] w fun e w' => e = .returned (.int .i64 (mostF (secK d) J)) ∧ Below w.heap.size w w' := by
  have HR := Lib.hid hr
  clear hr
  go_enter Tryz.func53, Tryz.ntmps53
  go_wp2_with fail
  go_loopw [3, 8] (fun s3 s8 wr => ∃ i : Nat, i ≤ J ∧ s8 = .int .i64 i ∧ s3 = .int .i64 (mostF (secK d) i) ∧ Below w.heap.size w wr) (fun _ u _ => J - (intOf u).toNat)
  case atStart => exact ⟨0, Nat.zero_le _, rfl, rfl, Below.refl _ _⟩
  case round =>
    obtain ⟨i, hi, rfl, rfl, hb⟩ := hrel
    have HB := Lib.hid hb
    clear hb
    obtain ⟨m, hm⟩ : ∃ m, m = mostF (secK d) i := ⟨_, rfl⟩
    by_cases hlt : i < J
    · have hi1 : (0 : Int) ≤ (i : Int) := by omega
      have hi2 : (i : Int) < (J : Int) := by omega
      obtain ⟨x0, x1, x2, x3, x4⟩ := (HR.out.below HB.out).at_ hlt
      have hf : logF d J i = parseE (secK d i) := by unfold logF; rw [if_pos hlt]
      rw [hf] at x0 x1 x2 x3 x4
      have hs := most_step (secK d) i
      obtain ⟨y, hy⟩ : ∃ y, y = parseE (secK d i) := ⟨_, rfl⟩
      rw [← hy] at x0 x1 x2 x3 x4 hs
      rw [← hm] at hs ⊢
      obtain ⟨ys, yi, yl, yn, yd⟩ := y
      dsimp only at x0 x1 x2 x3 x4 hs
      have HS := Lib.hid hs
      clear hm hf hy hs
      go_wp2_with fail
      exact ⟨⟨i + 1, by omega, by go_num, by rw [← HS.out], Dsk.below_trans' HB.out (below_one _ _)⟩, by simp [intOf]; omega⟩
    · have hnl : decide ((i : Int) < (J : Int)) = false := by simp; omega
      obtain rfl : i = J := by omega
      go_wp2_with fail
      go_ret
      exact ⟨rfl, HB.out⟩

theorem below_dn (W : World) (q : Nat) : Below W.heap.size W (W.drewN q) := ⟨rfl, rfl, rfl, Nat.le_refl _, fun _ _ => rfl⟩
theorem Jst.start' (n : Int) (S : Nat → List UInt8) : Jst n S 0 [] (parseE (S 0)).seq 0 false true := { Jst.start n S with iseq := fun _ => rfl }

set_option maxRecDepth 100000 in
set_option maxHeartbeats 16000000 in
theorem whole_calls (g J : Nat) (d : DK) (x : Sh) (w : World) (hr : EnRow w g J (logF d J)) (hJ : J ≤ 256) :
    Calls Tryz.prog 54 #[.slice (some ⟨g, 0, none⟩) J J, shV x] w fun e w' => ∃ v', e = .returned v' ∧ IsLfs w' v' (jl x.pages J (secK d)) ∧ Below w.heap.size w w' := by
  obtain ⟨i1', hi0, hz0, hz1, hz2⟩ := info_parts info48
  have HR := Lib.hid hr
  obtain ⟨S, hS⟩ : ∃ S, S = secK d := ⟨_, rfl⟩
  rw [← hS]
  obtain ⟨Y, hY, hsb, hB⟩ : ∃ Y, Y = w.alloc (.cells #[.int .i64 x.pages, .int .i64 x.journal] 30) ∧ SBox Y w.heap.size x ∧ Below w.heap.size w Y := ⟨_, rfl, SBox.new _ _, below_one _ _⟩
  obtain ⟨B, hBB⟩ : ∃ B, B = w.heap.size + 1 := ⟨_, rfl⟩
  have hys : Y.heap.size = B := by rw [hY, hBB]; simp
  have HY := Lib.hid hY
  have HSB := Lib.hid hsb
  have HBY := Lib.hid hB
  have HYS := Lib.hid hys
  have HS := Lib.hid hS
  have HHAS := Lib.hid (fun no W => has_calls x no W)
  unfold shV at HHAS
  obtain ⟨s0, hs0⟩ : ∃ s, s = (parseE (S 0)).seq := ⟨_, rfl⟩
  have HS0 := Lib.hid hs0
  clear hr hY hsb hB hys hS hs0 hBB
  unfold shV
  go_enter Tryz.func54, Tryz.ntmps54
  go_wp2_with fail
  rw [← HY.out]
  clear HY
  go_loopw [5, 11] (fun s5 s11 wr => ∃ (i : Nat) (l : List Lf) (m : Int) (Z : Option Addr) (z : Nat), i ≤ J ∧ s11 = .int .i64 i ∧ s5 = .slice Z l.length z ∧ Jst x.pages S i l s0 m false true ∧ OwnL B wr (.slice Z l.length z) l ∧ Below Y.heap.size Y wr) (fun _ u _ => J - (intOf u).toNat)
  case atStart => exact ⟨0, [], 0, none, 0, Nat.zero_le _, rfl, rfl, by rw [HS0.out]; exact Jst.start' _ _, OwnL.nil _ _, Below.refl _ _⟩
  case round =>
    obtain ⟨i, l, m, Z, z, hi, rfl, rfl, hj, how, hb⟩ := hrel
    have HJ := Lib.hid hj
    have HOW := Lib.hid how
    have HB := Lib.hid hb
    clear hj how hb
    by_cases hlt : i < J
    rotate_left
    · have hnl : decide ((i : Int) < (J : Int)) = false := by simp; omega
      obtain rfl : i = J := by omega
      have hfin := HJ.out.done.2
      rw [if_neg (by simp)] at hfin
      have HF := Lib.hid hfin
      clear hfin
      go_wp2_with fail
      go_ret
      exact ⟨_, rfl, by rw [← HF.out]; exact IsLfs.nil _, Dsk.below_trans' HBY.out HB.out⟩
    have hi1 : (0 : Int) ≤ (i : Int) := by omega
    have hi2 : (i : Int) < (J : Int) := by omega
    have hll : l.length ≤ 256 := by have := (HJ.out.iop rfl).2.1; omega
    have hBw : B ≤ wr.heap.size := by rw [← HYS.out]; exact HB.out.size
    have hrow := HR.out.below (Dsk.below_trans' HBY.out HB.out)
    obtain ⟨x0, x1, x2, x3, x4⟩ := hrow.at_ hlt
    have hf : logF d J i = parseE (S i) := by unfold logF; rw [if_pos hlt, ← HS.out]
    have hf0 : logF d J 0 = parseE (S 0) := by unfold logF; rw [if_pos (by omega), ← HS.out]
    have c0 : ∀ W, Below wr.heap.size wr W → W.cell? ⟨g, 0, none⟩ = some (.int .i64 s0) := fun W hW => by
      have := ((hrow.below hW).at_ (i := 0) (by omega)).1
      rw [hf0, ← HS0.out, show 0 * 5 = 0 from rfl] at this
      exact this
    rw [hf] at x0 x1 x2 x3 x4
    obtain ⟨y, hy⟩ : ∃ y, y = parseE (S i) := ⟨_, rfl⟩
    obtain ⟨ok, hok⟩ : ∃ b, b = isE (S i) := ⟨_, rfl⟩
    have JS := HJ.out.step hy.symm hok.symm (q := s0) (by
      by_cases e : i = 0
      · rw [if_pos e, HS0.out, hy, e]
      · rw [if_neg e])
    have hrt : ok = true → 1 ≤ y.seq ∧ 0 ≤ y.no := fun e => by
      have := Ent.right_iff.1 (is_right (s := S i) (by rw [← hok, e]))
      rw [← hy] at this
      omega
    have hzz : ok = false → y.seq = 0 := fun e => by rw [hy]; unfold parseE; rw [← hok, e, if_neg (by simp)]; rfl
    have hnone : ∀ l' m', Jst x.pages S (i + 1) l' s0 m' false false → jl x.pages J S = [] := fun l' m' h => jl_none fun k => h.ino rfl rfl J k
    have hyes : ∀ m', Jst x.pages S (i + 1) l s0 m' true false → jl x.pages J S = l := fun m' h => jl_is ((h.iyes rfl).2 J (by omega))
    rw [← hy] at x0 x1 x2 x3 x4
    obtain ⟨Y2, hY2⟩ : ∃ Y2, Y2 = wr.alloc (.cells #[.int .i64 y.seq, .int .i64 y.index, .bool y.last, .int .i64 y.no, .string (strB y.data)] 55) := ⟨_, rfl⟩
    have hbb : Below wr.heap.size wr Y2 := by rw [hY2]; exact below_one _ _
    have heb : Ent.EBox Y2 wr.heap.size y := by rw [hY2]; exact Ent.EBox.new wr y
    have hc0 := c0 Y2 hbb
    obtain ⟨y0, y1, y2, y3, y4⟩ := heb.at_
    have HEB := Lib.hid heb
    have HOW2 := Lib.hid (HOW.out.below hbb)
    have HB2 := Lib.hid (Dsk.below_trans' HB.out hbb)
    have hsz : Y2.heap.size = wr.heap.size + 1 := by rw [hY2]; simp
    have hBw2 : B ≤ Y2.heap.size := by omega
    have sb := HSB.out.below HB2.out
    have t0 := sb.c0
    have t1 := sb.c1
    have HY2 := Lib.hid hY2
    obtain ⟨G, hG⟩ : ∃ G, G = wr.heap.size := ⟨_, rfl⟩
    rw [← hG] at y0 y1 y2 y3 y4
    have HG := Lib.hid hG.symm
    have HN := Lib.hid hnone
    have HYE := Lib.hid hyes
    have HFB := Lib.hid (Dsk.below_trans' HBY.out HB2.out)
    obtain ⟨ys, yi, yl, yn, yd⟩ := y
    dsimp only at x0 x1 x2 x3 x4 JS hrt hzz y0 y1 y2 y3 y4
    dsimp only at HY2
    clear hrow hf hf0 c0 hy hok hbb heb hsz sb hY2 hG hnone hyes HOW HB
    cases ok with
    | false =>
      have hys := hzz rfl
      subst hys
      have HF := Lib.hid (HN.out _ _ (JS.2.2 (fun h => by cases h.1) (fun h => by cases h.1)))
      clear JS hrt hzz
      go_upto_region 5 with (fail)
      rw [← HY2.out]
      rw [HG.out]
      clear x0 x1 x2 x3 x4 HY2
      go_wp2_with fail
      go_quiet (fail)
      go_wp2_with fail
      go_ret
      exact ⟨_, rfl, by rw [HF.out]; exact IsLfs.nil _, Dsk.below_trans' HFB.out (below_dn _ _)⟩
    | true =>
      obtain ⟨hge, hno0⟩ := hrt rfl
      have hnn : ¬ ys < 1 := by omega
      clear hrt hzz
      by_cases hsq : ys = s0
      rotate_left
      · have hsb : (ys != s0) = true := by simpa using hsq
        have HF := Lib.hid (HN.out _ _ (JS.2.2 (fun h => hsq h.2.1) (fun h => hsq h.2.1)))
        clear JS
        go_upto_region 5 with (fail)
        rw [← HY2.out]
        rw [HG.out]
        clear x0 x1 x2 x3 x4 HY2
        go_wp2_with fail
        go_quiet (fail)
        go_wp2_with fail
        go_ret
        exact ⟨_, rfl, by rw [HF.out]; exact IsLfs.nil _, Dsk.below_trans' HFB.out (below_dn _ _)⟩
      have hsb : (ys != s0) = false := by simpa using hsq
      by_cases hix : yi = (i : Int)
      rotate_left
      · have hib : (yi != (i : Int)) = true := by simpa using hix
        have HF := Lib.hid (HN.out _ _ (JS.2.2 (fun h => hix h.2.2.1) (fun h => hix h.2.2.1)))
        clear JS hsq
        go_upto_region 5 with (fail)
        rw [← HY2.out]
        rw [HG.out]
        clear x0 x1 x2 x3 x4 HY2
        go_wp2_with fail
        go_quiet (fail)
        go_wp2_with fail
        go_ret
        exact ⟨_, rfl, by rw [HF.out]; exact IsLfs.nil _, Dsk.below_trans' HFB.out (below_dn _ _)⟩
      have hib : (yi != (i : Int)) = false := by simpa using hix
      have HLEN := Lib.hid (HJ.out.iop rfl).2.1
      cases yl with
      | true =>
        by_cases hno : yn = (i : Int)
        · have hnb : (yn == (i : Int)) = true := by simpa using hno
          have HF := Lib.hid (HYE.out _ (JS.2.1 ⟨rfl, hsq, hix, rfl, by rw [hno, HLEN.out]⟩))
          clear JS hsq hix hno
          go_upto_region 5 with (fail)
          rw [← HY2.out]
          rw [HG.out]
          clear x0 x1 x2 x3 x4 HY2
          go_wp2_with fail
          go_quiet (fail)
          go_wp2_with fail
          go_ret
          exact ⟨_, rfl, by rw [HF.out]; exact HOW2.out.isLfs.below (below_dn _ _), Dsk.below_trans' HFB.out (below_dn _ _)⟩
        · have hnb : (yn == (i : Int)) = false := by simpa using hno
          have HF := Lib.hid (HN.out _ _ (JS.2.2 (fun h => by cases h.2.2.2.1) (fun h => hno (by rw [h.2.2.2.2, HLEN.out]))))
          clear JS hsq hix hno
          go_upto_region 5 with (fail)
          rw [← HY2.out]
          rw [HG.out]
          clear x0 x1 x2 x3 x4 HY2
          go_wp2_with fail
          go_quiet (fail)
          go_wp2_with fail
          go_ret
          exact ⟨_, rfl, by rw [HF.out]; exact IsLfs.nil _, Dsk.below_trans' HFB.out (below_dn _ _)⟩
      | false =>
        by_cases hpg : yn < x.pages
        rotate_left
        · have hhb : (decide (0 ≤ yn) && decide (yn < x.pages)) = false := by simp [hpg]
          have HF := Lib.hid (HN.out _ _ (JS.2.2 (fun h => hpg h.2.2.2.2) (fun h => by cases h.2.2.2.1)))
          have HH := Lib.hid (HHAS.out yn)
          rw [hhb] at HH
          clear JS hsq hix hpg hhb
          go_upto_region 5 with (fail)
          rw [← HY2.out]
          rw [HG.out]
          clear x0 x1 x2 x3 x4 HY2
          go_wp2_with fail
          go_quiet (fail)
          go_wp2_with fail
          (with_reducible refine (HH.out _).mono ?_)
          rintro e w1 ⟨rfl, hB1⟩
          go_wp2_with fail
          go_ret
          exact ⟨_, rfl, by rw [HF.out]; exact IsLfs.nil _, Dsk.below_trans' (Dsk.below_trans' HFB.out (below_dn _ _)) hB1⟩
        · have hhb : (decide (0 ≤ yn) && decide (yn < x.pages)) = true := by simp [hpg, hno0]
          have HNX := Lib.hid (JS.1 ⟨rfl, hsq, hix, rfl, hpg⟩)
          have HH := Lib.hid (HHAS.out yn)
          rw [hhb] at HH
          clear JS hsq hix hpg hhb
          go_upto_region 5 with (fail)
          rw [← HY2.out]
          rw [HG.out]
          clear x0 x1 x2 x3 x4 HY2
          go_wp2_with fail
          go_quiet (fail)
          go_wp2_with fail
          (with_reducible refine (HH.out _).mono ?_)
          rintro e w1 ⟨rfl, hB1⟩
          have hbd := Dsk.below_trans' (below_dn Y2 _) hB1
          have HB3 := Lib.hid (Dsk.below_trans' HB2.out hbd)
          have HO3 := Lib.hid (HOW2.out.below hbd)
          have z3 := (HEB.out.below hbd).at_.c3
          have z4 := (HEB.out.below hbd).at_.c4
          rw [HG.out] at z3 z4
          have hB3w : B ≤ w1.heap.size := Nat.le_trans hBw2 hbd.size
          dsimp only at z3 z4
          clear hbd hB1
          go_wp2_with (at_builtin; refine wpList_append_own_at _ (by rfl) (.tmp 53) (.tmp 59) 31 (by rfl) B 52 i1' _ 2 24 Tryz.underlying31 hi0 hz0 hz1 hz2 (by rfl) (by omega) _ l.length (lfCells l) (by rfl) (by exact World.ownsRow.alloc HO3.out _) ⟨w1.heap.size, 0, none⟩ 1 1 [.int .i64 yn, .string (strB yd)] (by rfl) (by rfl) (by exact newsL ⟨yn, yd⟩ (by simp)) (oneL ⟨yn, yd⟩) (Nat.le_trans (show l.length + 1 ≤ 1000000 by omega) (by decide)) (by omega) (by simp; omega) ?_; intro v' w' hown' hgrow' hnil' hat')
          obtain ⟨A', c', hA⟩ := (ownL_snoc (l := l) (x := ⟨yn, yd⟩) hown').form
          have HO5 : Hid (OwnL B w' v' (l ++ [⟨yn, yd⟩])) := Lib.hid (ownL_snoc (l := l) (x := ⟨yn, yd⟩) hown')
          have HB5 : Hid (Below Y.heap.size Y w') := Lib.hid (below_grown (Dsk.below_trans' HB3.out (below_one _ _)) hgrow' (fun q hq => by have := HO3.out.ge q hq; rw [HYS.out]; exact this) (by have := HB3.out.size; simp; omega))
          clear hown' hgrow' hnil' hat'
          subst hA
          go_wp2_with fail
          exact ⟨⟨i + 1, l ++ [⟨yn, yd⟩], _, A', c', by omega, by go_num, by simp, HNX.out, HO5.out, HB5.out⟩, by simp [intOf]; omega⟩

end Go.Proofs.YtnbbijpmkhdgpaaGreat.Vlt

/- PWith -/
namespace Go.Proofs.YtnbbijpmkhdgpaaGreat.Vlt
open Go.RowKit Go.Sort
open Dsk

theorem lfCells_take (l : List Lf) (k : Nat) : lfCells (l.take k) = (lfCells l).take (k * 2) := by
  induction l generalizing k with
  | nil => simp [lfCells]
  | cons a l ih =>
    cases k with
    | zero => simp [lfCells]
    | succ k =>
      have e : lfCells (a :: l) = .int .i64 a.no :: .string (strB a.data) :: lfCells l := by simp [lfCells]
      have e2 : lfCells (a :: l.take k) = .int .i64 a.no :: .string (strB a.data) :: lfCells (l.take k) := by simp [lfCells]
      rw [List.take_succ_cons, e, e2, ih, show (k + 1) * 2 = k * 2 + 1 + 1 by omega, List.take_succ_cons, List.take_succ_cons]
theorem lfCells_drop (l : List Lf) (k : Nat) : lfCells (l.drop k) = (lfCells l).drop (k * 2) := by
  induction l generalizing k with
  | nil => simp [lfCells]
  | cons a l ih =>
    cases k with
    | zero => simp
    | succ k =>
      have e : lfCells (a :: l) = .int .i64 a.no :: .string (strB a.data) :: lfCells l := by simp [lfCells]
      rw [List.drop_succ_cons, e, ih, show (k + 1) * 2 = k * 2 + 1 + 1 by omega, List.drop_succ_cons, List.drop_succ_cons]
theorem isLfs_none (w : World) (A : Option Addr) (c : Nat) : IsLfs w (.slice A 0 c) [] := ⟨A, c, rfl, Nat.zero_le _, rfl, fun h => absurd h (by simp)⟩

theorem slice_to {w : World} {A : Option Addr} {n c : Nat} {l : List Lf} (h : IsLfs w (.slice A n c) l) (hn : n = l.length) {k : Nat} (hk : k ≤ n) :
    ∃ A1 c1, (∀ W, (Instr.slice 31 (.slice A n c) none (some (.int .i64 (k : Nat))) none).run Tryz.prog W = .ok (.slice A1 k c1) W) ∧ IsLfs w (.slice A1 k c1) (l.take k) := by
  obtain ⟨A', c', e, hc, hr⟩ := h
  injection e with e1 e2 e3
  subst e1 e3
  refine ⟨if c = 0 then A else A.map (·.add (0 * 2)), c, fun W => ?_, ?_⟩
  · obtain ⟨i1, hi0, hz0, hz1, hz2⟩ := info_parts info48
    have he : Tryz.prog.elem 31 = 52 := by simp [Program.elem, Tryz.underlying31]
    have ht : Tryz.prog.underlying 31 = some (.slice (Tryz.prog.elem 31)) := by rw [he]; exact Tryz.underlying31
    have hz : (Go.sizeOf 52).run Tryz.prog W = .ok 2 W := by simp [Go.sizeOf, typeInfo, hi0, hz1]
    rw [run_slice_h (P := Tryz.prog) W 31 A n c ht .i64 k (by omega) (by omega), he, hz]
    simp [sliced, Result.andThen]
  · by_cases h0 : k = 0
    · subst h0
      exact isLfs_none _ _ _
    · rw [if_neg (by omega)]
      obtain ⟨b, off, cur, fr, rfl, hb, hcl⟩ := hr.2 (by omega)
      refine ⟨some ⟨b, off + 0 * 2, none⟩, c, ?_, ?_, ?_, fun _ => ⟨b, off + 0 * 2, cur, fr, rfl, hb, fun j u hj => ?_⟩⟩
      · rw [List.length_take, Nat.min_eq_left (by omega), Option.map_some, Addr.add_lit]
      · rw [List.length_take]; omega
      · rw [lfCells_length]
      · rw [lfCells_take, List.getElem?_take] at hj
        split at hj
        · exact hcl j u hj
        · cases hj

theorem slice_from {w : World} {A : Option Addr} {n c : Nat} {l : List Lf} (h : IsLfs w (.slice A n c) l) (hn : n = l.length) {k : Nat} (hk : k ≤ n) :
    ∃ A1 c1, (∀ W, (Instr.slice 31 (.slice A n c) (some (.int .i64 (k : Nat))) none none).run Tryz.prog W = .ok (.slice A1 (n - k) c1) W) ∧ IsLfs w (.slice A1 (n - k) c1) (l.drop k) := by
  obtain ⟨A', c', e, hc, hr⟩ := h
  injection e with e1 e2 e3
  subst e1 e3
  refine ⟨if c = k then A else A.map (·.add (k * 2)), c - k, fun W => ?_, ?_⟩
  · obtain ⟨i1, hi0, hz0, hz1, hz2⟩ := info_parts info48
    have he : Tryz.prog.elem 31 = 52 := by simp [Program.elem, Tryz.underlying31]
    have ht : Tryz.prog.underlying 31 = some (.slice (Tryz.prog.elem 31)) := by rw [he]; exact Tryz.underlying31
    have hz : (Go.sizeOf 52).run Tryz.prog W = .ok 2 W := by simp [Go.sizeOf, typeInfo, hi0, hz1]
    rw [run_slice_l (P := Tryz.prog) W 31 A n c ht .i64 k (by omega) (by omega), he, hz]
    simp [sliced, Result.andThen]
  · by_cases h0 : k = n
    · have : l.drop k = [] := List.drop_of_length_le (by omega)
      rw [this, show n - k = 0 by omega]
      exact isLfs_none _ _ _
    · rw [if_neg (by omega)]
      obtain ⟨b, off, cur, fr, rfl, hb, hcl⟩ := hr.2 (by omega)
      refine ⟨some ⟨b, off + k * 2, none⟩, c - k, ?_, ?_, ?_, fun _ => ⟨b, off + k * 2, cur, fr, rfl, hb, fun j u hj => ?_⟩⟩
      · rw [List.length_drop, hn, Option.map_some, Addr.add_lit]
      · rw [List.length_drop]; omega
      · rw [lfCells_length]
      · rw [lfCells_drop, List.getElem?_drop] at hj
        have := hcl (k * 2 + j) u hj
        rw [← this]
        congr 1
        omega

/-- insL by places. -/
theorem ins_pos {p : Lf} {l : List Lf} (hR : RiseL l) : posL l p.no ≤ l.length ∧ (isL l p.no = true → posL l p.no < l.length) ∧
    insL p l = l.take (posL l p.no) ++ ([p] ++ (if isL l p.no = true then l.drop (posL l p.no + 1) else l.drop (posL l p.no))) := by
  obtain ⟨k, hk⟩ : ∃ k, k = posL l p.no := ⟨_, rfl⟩
  have hle : k ≤ l.length := by rw [hk]; unfold posL; exact List.IsPrefix.length_le (List.takeWhile_prefix _)
  have e1 : l.takeWhile (fun q => decide (q.no < p.no)) = l.take k := by
    have := List.takeWhile_prefix (fun q => decide (q.no < p.no)) (l := l)
    rw [List.prefix_iff_eq_take] at this
    rw [hk]; exact this
  have e2 : l.dropWhile (fun q => decide (q.no < p.no)) = l.drop k := by
    have h1 := List.takeWhile_append_dropWhile (p := fun q => decide (q.no < p.no)) (l := l)
    have h2 := List.take_append_drop k l
    rw [e1] at h1
    exact List.append_cancel_left (h1.trans h2.symm)
  rw [← hk]
  have hge := drop_ge (p := p) hR
  rw [e2] at hge
  have hcase : ∀ o, l[k]? = some o → l.drop k = o :: l.drop (k + 1) := fun o ho => by
    obtain ⟨h, e⟩ := List.getElem?_eq_some_iff.1 ho
    rw [List.drop_eq_getElem_cons h, e]
  have hrest : ∀ o, l[k]? = some o → ∀ q ∈ l.drop (k + 1), p.no < q.no := by
    intro o ho q hq
    have h1 : p.no ≤ o.no := hge o (by rw [hcase o ho]; simp)
    obtain ⟨j, hj, e⟩ := List.getElem_of_mem hq
    rw [List.getElem_drop] at e
    rw [List.length_drop] at hj
    have := rise_at hR (show k < k + 1 + j by omega) ho (by rw [List.getElem?_eq_getElem (by omega), e])
    omega
  have hfil : ∀ o, l[k]? = some o → (l.drop (k + 1)).filter (fun q => decide (q.no ≠ p.no)) = l.drop (k + 1) := fun o ho => by
    rw [List.filter_eq_self]
    intro q hq
    have := hrest o ho q hq
    simp
    omega
  refine ⟨hle, ?_, ?_⟩
  · unfold isL
    rw [← hk]
    intro h
    cases ho : l[k]? with
    | none => rw [ho] at h; cases h
    | some o => exact (List.getElem?_eq_some_iff.1 ho).1
  · unfold insL
    rw [e1, e2]
    unfold isL
    rw [← hk]
    cases ho : l[k]? with
    | none =>
      have : l.drop k = [] := List.drop_of_length_le (by rw [List.getElem?_eq_none_iff] at ho; omega)
      simp [this]
    | some o =>
      dsimp only
      have h1 : p.no ≤ o.no := hge o (by rw [hcase o ho]; simp)
      by_cases he : o.no = p.no
      · rw [hcase o ho, List.filter_cons_of_neg (by simp [he]), hfil o ho, if_pos (by simp [he])]
        simp
      · rw [hcase o ho, List.filter_cons_of_pos (by simp [he]), hfil o ho, if_neg (by simp [he])]
        simp

theorem concat3 (X : World) (va vb : Value) (la lb : List Lf) (no : Int) (D : List UInt8) (ha : IsLfs X va la) (hb : IsLfs X vb lb) (hl : la.length + lb.length ≤ 9000) :
    Calls Tryz.prog 91 #[.slice (some ⟨X.heap.size + 1, 0, none⟩) 3 3] ((X.alloc (.cells #[.int .i64 no, .string (strB D)] 52)).alloc (.cells #[va, .slice (some ⟨X.heap.size, 0, none⟩) 1 1, vb] 31)) fun e w' => ∃ v', e = .returned v' ∧ IsLfs w' v' (la ++ ([⟨no, D⟩] ++ lb)) ∧ Below X.heap.size X w' := by
  obtain ⟨W1, hW1⟩ : ∃ W1, W1 = X.alloc (.cells #[.int .i64 no, .string (strB D)] 52) := ⟨_, rfl⟩
  obtain ⟨W2, hW2⟩ : ∃ W2, W2 = W1.alloc (.cells #[va, .slice (some ⟨X.heap.size, 0, none⟩) 1 1, vb] 31) := ⟨_, rfl⟩
  have hs1 : W1.heap.size = X.heap.size + 1 := by rw [hW1]; simp
  have b1 : Below X.heap.size X W1 := by rw [hW1]; exact below_one _ _
  have b2 : Below W1.heap.size W1 W2 := by rw [hW2]; exact below_one _ _
  have hbox : W1.heap[X.heap.size]? = some (.cells #[.int .i64 no, .string (strB D)] 52 (0, 0)) := by rw [hW1]; exact heap_alloc_new X _
  have hrow : W2.heap[X.heap.size + 1]? = some (.cells #[va, .slice (some ⟨X.heap.size, 0, none⟩) 1 1, vb] 31 (0, 0)) := by
    have := heap_alloc_new W1 (.cells #[va, .slice (some ⟨X.heap.size, 0, none⟩) 1 1, vb] 31)
    rw [← hW2, hs1] at this
    exact this
  rw [← hW1, ← hW2]
  have hbox2 := box_kept _ hbox b2
  have h2 : IsLfs W2 (.slice (some ⟨X.heap.size, 0, none⟩) 1 1) [⟨no, D⟩] := by
    refine ⟨some ⟨X.heap.size, 0, none⟩, 1, rfl, Nat.le_refl _, rfl, fun _ => ⟨X.heap.size, 0, _, _, rfl, hbox2, fun j u hj => ?_⟩⟩
    rw [lfCells_one] at hj
    rw [Nat.zero_add]
    simpa using hj
  refine (concat_calls (X.heap.size + 1) [va, .slice (some ⟨X.heap.size, 0, none⟩) 1 1, vb] [la, [⟨no, D⟩], lb] 3 3 W2 (Array.getElem?_eq_some_iff.1 hrow).1 rfl rfl (by omega) (fun i v hi => ?_) (fun i v l hi hl => ?_) (by simp; omega) (by simp; omega)).mono ?_
  · rw [cell_of_row _ _ _ _ _ _ hrow]
    simpa using hi
  · match i, hi, hl with
    | 0, hi, hl => simp at hi hl; subst hi hl; exact (ha.below b1).below b2
    | 1, hi, hl => simp at hi hl; subst hi hl; exact h2
    | 2, hi, hl => simp at hi hl; subst hi hl; exact (hb.below b1).below b2
    | k + 3, hi, hl => simp at hi
  · rintro e w' ⟨v', rfl, ho, hB⟩
    exact ⟨v', rfl, by simpa using ho.isLfs, Dsk.below_trans' (Dsk.below_trans' b1 b2) hB⟩

theorem concat3d (X : World) (va vb : Value) (la lb : List Lf) (no : Int) (D : List UInt8) (ha : IsLfs X va la) (hb : IsLfs X vb lb) (hl : la.length + lb.length ≤ 9000) :
    Calls Tryz.prog 91 #[.slice (some ⟨X.heap.size + 1, 0, none⟩) 3 3] ((X.alloc (.cells #[.int .i64 no, .string (strB D)] 52)).alloc (.cells #[va, .slice (some ⟨X.heap.size, 0, none⟩) 1 1, vb] 31)).drew fun e w' => ∃ v', e = .returned v' ∧ IsLfs w' v' (la ++ ([⟨no, D⟩] ++ lb)) ∧ Below X.heap.size X w' := by
  obtain ⟨W1, hW1⟩ : ∃ W1, W1 = X.alloc (.cells #[.int .i64 no, .string (strB D)] 52) := ⟨_, rfl⟩
  obtain ⟨W2, hW2⟩ : ∃ W2, W2 = W1.alloc (.cells #[va, .slice (some ⟨X.heap.size, 0, none⟩) 1 1, vb] 31) := ⟨_, rfl⟩
  have hs1 : W1.heap.size = X.heap.size + 1 := by rw [hW1]; simp
  have b1 : Below X.heap.size X W1 := by rw [hW1]; exact below_one _ _
  have b2 : Below W1.heap.size W1 W2 := by rw [hW2]; exact below_one _ _
  have hbox : W1.heap[X.heap.size]? = some (.cells #[.int .i64 no, .string (strB D)] 52 (0, 0)) := by rw [hW1]; exact heap_alloc_new X _
  have hrow : W2.heap[X.heap.size + 1]? = some (.cells #[va, .slice (some ⟨X.heap.size, 0, none⟩) 1 1, vb] 31 (0, 0)) := by
    have := heap_alloc_new W1 (.cells #[va, .slice (some ⟨X.heap.size, 0, none⟩) 1 1, vb] 31)
    rw [← hW2, hs1] at this
    exact this
  rw [← hW1, ← hW2]
  have hbox2 := box_kept _ hbox b2
  have h2 : IsLfs W2 (.slice (some ⟨X.heap.size, 0, none⟩) 1 1) [⟨no, D⟩] := by
    refine ⟨some ⟨X.heap.size, 0, none⟩, 1, rfl, Nat.le_refl _, rfl, fun _ => ⟨X.heap.size, 0, _, _, rfl, hbox2, fun j u hj => ?_⟩⟩
    rw [lfCells_one] at hj
    rw [Nat.zero_add]
    simpa using hj
  refine (concat_calls (X.heap.size + 1) [va, .slice (some ⟨X.heap.size, 0, none⟩) 1 1, vb] [la, [⟨no, D⟩], lb] 3 3 W2.drew (Array.getElem?_eq_some_iff.1 hrow).1 rfl rfl (by omega) (fun i v hi => ?_) (fun i v l hi hl => ?_) (by simp; omega) (by simp; omega)).mono ?_
  · change W2.cell? _ = _
    rw [cell_of_row _ _ _ _ _ _ hrow]
    simpa using hi
  · match i, hi, hl with
    | 0, hi, hl => simp at hi hl; subst hi hl; exact ((ha.below b1).below b2).below (Below.refl _ _).drew
    | 1, hi, hl => simp at hi hl; subst hi hl; exact h2.below (Below.refl _ _).drew
    | 2, hi, hl => simp at hi hl; subst hi hl; exact ((hb.below b1).below b2).below (Below.refl _ _).drew
    | k + 3, hi, hl => simp at hi
  · rintro e w' ⟨v', rfl, ho, hB⟩
    exact ⟨v', rfl, by simpa using ho.isLfs, Dsk.below_trans' (Dsk.below_trans' (Dsk.below_trans' b1 b2) (Below.refl _ _).drew) hB⟩

theorem lcells {W : World} {g : Nat} {no : Int} {D : List UInt8} (h : Ent.LBox W g no D) : W.cell? ⟨g, 0, none⟩ = some (.int .i64 no) ∧ W.cell? ⟨g, 1, none⟩ = some (.string (strB D)) := ⟨h.c0, h.c1⟩

set_option maxRecDepth 100000 in
set_option maxHeartbeats 4000000 in
theorem with_calls (v : Value) (l : List Lf) (no : Int) (D : List UInt8) (w : World) (h : IsLfs w v l) (hR : RiseL l) (hn : l.length ≤ 1000) :
    Calls Tryz.prog 58 #[v, .agg #[.int .i64 no, .string (strB D)]] w fun e w' => ∃ v', e = .returned v' ∧ IsLfs w' v' (insL ⟨no, D⟩ l) ∧ Below w.heap.size w w' := by
  obtain ⟨A, n, c, rfl, hnl, _, hr⟩ := h.open_
  obtain ⟨hp1, hp2, hp3⟩ := ins_pos (p := ⟨no, D⟩) hR
  dsimp only at hp1 hp2 hp3
  have hfc := find_calls A n c l no
  obtain ⟨k, hk⟩ : ∃ k, k = posL l no := ⟨_, rfl⟩
  obtain ⟨is, his⟩ : ∃ b, b = isL l no := ⟨_, rfl⟩
  rw [← hk] at hp1 hp2 hp3 hfc
  rw [← his] at hp2 hp3 hfc
  obtain ⟨A1, c1, hs1, hi1⟩ := slice_to h hnl (k := k) (by omega)
  obtain ⟨A2, c2, hs2, hi2⟩ := slice_from h hnl (k := k) (by omega)
  obtain ⟨Y, hY⟩ : ∃ Y, Y = w.alloc (.cells #[.int .i64 no, .string (strB D)] 52) := ⟨_, rfl⟩
  have hB : Below w.heap.size w Y := by rw [hY]; exact below_one _ _
  have hlb : Ent.LBox Y w.heap.size no D := by rw [hY]; exact Ent.LBox.new _ _ _
  have HF := Lib.hid (hfc Y (by
    obtain ⟨_, _, e, _, hr'⟩ := h.below hB
    injection e with e1 e2 e3
    subst e1 e3
    rw [hnl]; exact hr') hnl hR (by omega))
  have HB := Lib.hid hB
  have HLB := Lib.hid hlb
  have HY := Lib.hid hY
  have HI1 := Lib.hid (hi1.below hB)
  have HI2 := Lib.hid (hi2.below hB)
  have HP := Lib.hid hp3
  have HK := Lib.hid hp1
  have HNL := Lib.hid hnl
  have y0 := hlb.c0
  -- what the last region does, whatever stands behind
  clear hk his hY hB hlb hi1 hi2 hfc hR hr hp3 hnl
  cases his : is with
  | true =>
    rw [his] at HF HP
    rw [if_pos rfl] at HP
    have hlt := hp2 his
    obtain ⟨A3, c3, hs3, hi3⟩ := slice_from HI2.out (by rw [List.length_drop, HNL.out]) (k := 1) (by have := HNL.out; omega)
    rw [List.drop_drop] at hi3
    rw [show ((1 : Nat) : Int) = 1 from rfl] at hs3
    have HI3 := Lib.hid hi3
    clear hp2 his hlt hi3
    go_enter Tryz.func58, Tryz.ntmps58
    go_upto_region 1 with (fail)
    rw [← HY.out]
    clear HY
    go_wp2_with fail
    (with_reducible refine HF.out.mono ?_)
    rintro e w1 ⟨rfl, hB1⟩
    have HB1 := Lib.hid hB1
    have z0 := (HLB.out.below hB1).c0
    have z1 := (HLB.out.below hB1).c1
    have CC := Lib.hid (concat3 w1.drew (.slice A1 k c1) (.slice A3 (n - k - 1) c3) (l.take k) (l.drop (k + 1)) no D (HI1.out.below hB1.drew) (HI3.out.below hB1.drew) (by simp; omega))
    have CD := Lib.hid (concat3d w1 (.slice A1 k c1) (.slice A3 (n - k - 1) c3) (l.take k) (l.drop (k + 1)) no D (HI1.out.below hB1) (HI3.out.below hB1) (by simp; omega))
    have HLW := Lib.hid (HLB.out.below HB1.out)
    have HLX := Lib.hid (HLB.out.below HB1.out.drew)
    have HB3 : Hid (Below w.heap.size w w1) := Lib.hid (Dsk.below_trans' HB.out HB1.out)
    have HB2 : Hid (Below w.heap.size w w1.drew) := Lib.hid (Dsk.below_trans' HB.out hB1.drew)
    clear y0 hB1
    go_wp2_with fail
    go_region_held3 (fun W => W.cell? ⟨w.heap.size, 0, none⟩ = some (.int .i64 no) ∧ W.cell? ⟨w.heap.size, 1, none⟩ = some (.string (strB D))) (first | exact lcells HLW.out | exact lcells HLX.out | exact lcells (HLX.out.below (below_one _ _)) | exact lcells ((HLX.out.below (below_one _ _)).below (below_one _ _)) | exact lcells (HLW.out.below (below_one _ _)) | exact lcells ((HLW.out.below (below_one _ _)).below (below_one _ _)) | exact lcells HL2.out) (first | (go_at_call 91; (with_reducible refine CC.out.mono ?_); rintro e w2 ⟨v', rfl, hv', hB3⟩; have HL2 := Lib.hid (HLX.out.below hB3); have HB4 := Lib.hid (Dsk.below_trans' HB2.out hB3)) | (go_at_call 91; (with_reducible refine CD.out.mono ?_); rintro e w2 ⟨v', rfl, hv', hB3⟩; have HL2 := Lib.hid (HLW.out.below hB3); have HB4 := Lib.hid (Dsk.below_trans' HB3.out hB3)))
    all_goals
      (rename_i hheld; clear hheld)
      go_wp2_with fail
      go_ret
      exact ⟨_, rfl, by rw [HP.out]; exact hv', HB4.out⟩
  | false =>
    rw [his] at HF HP
    rw [if_neg (by simp)] at HP
    clear hp2 his
    go_enter Tryz.func58, Tryz.ntmps58
    go_upto_region 1 with (fail)
    rw [← HY.out]
    clear HY
    go_wp2_with fail
    (with_reducible refine HF.out.mono ?_)
    rintro e w1 ⟨rfl, hB1⟩
    have HB1 := Lib.hid hB1
    have z0 := (HLB.out.below hB1).c0
    have z1 := (HLB.out.below hB1).c1
    have CC := Lib.hid (concat3 w1.drew (.slice A1 k c1) (.slice A2 (n - k) c2) (l.take k) (l.drop k) no D (HI1.out.below hB1.drew) (HI2.out.below hB1.drew) (by simp; omega))
    have CD := Lib.hid (concat3d w1 (.slice A1 k c1) (.slice A2 (n - k) c2) (l.take k) (l.drop k) no D (HI1.out.below hB1) (HI2.out.below hB1) (by simp; omega))
    have HLW := Lib.hid (HLB.out.below HB1.out)
    have HLX := Lib.hid (HLB.out.below HB1.out.drew)
    have HB3 : Hid (Below w.heap.size w w1) := Lib.hid (Dsk.below_trans' HB.out HB1.out)
    have HB2 : Hid (Below w.heap.size w w1.drew) := Lib.hid (Dsk.below_trans' HB.out hB1.drew)
    clear y0 hB1
    go_wp2_with fail
    go_region_held3 (fun W => W.cell? ⟨w.heap.size, 0, none⟩ = some (.int .i64 no) ∧ W.cell? ⟨w.heap.size, 1, none⟩ = some (.string (strB D))) (first | exact lcells HLW.out | exact lcells HLX.out | exact lcells (HLX.out.below (below_one _ _)) | exact lcells ((HLX.out.below (below_one _ _)).below (below_one _ _)) | exact lcells (HLW.out.below (below_one _ _)) | exact lcells ((HLW.out.below (below_one _ _)).below (below_one _ _)) | exact lcells HL2.out) (first | (go_at_call 91; (with_reducible refine CC.out.mono ?_); rintro e w2 ⟨v', rfl, hv', hB3⟩; have HL2 := Lib.hid (HLX.out.below hB3); have HB4 := Lib.hid (Dsk.below_trans' HB2.out hB3)) | (go_at_call 91; (with_reducible refine CD.out.mono ?_); rintro e w2 ⟨v', rfl, hv', hB3⟩; have HL2 := Lib.hid (HLW.out.below hB3); have HB4 := Lib.hid (Dsk.below_trans' HB3.out hB3)))
    all_goals
      (rename_i hheld; clear hheld)
      go_wp2_with fail
      go_ret
      exact ⟨_, rfl, by rw [HP.out]; exact hv', HB4.out⟩

end Go.Proofs.YtnbbijpmkhdgpaaGreat.Vlt

/- EHome -/
namespace Go.Proofs.YtnbbijpmkhdgpaaGreat.Ent
open Go.RowKit Go.Sort
open Wire (TK TP But twoL fourL numV numS markS)
open Crc (sealB Only)

theorem noughts256 (w : World) : Calls Tryz.prog 81 #[.int .i64 256] w fun e w' => e = .returned (.string (strB (zer 256))) ∧ Below w.heap.size w w' := noughts_calls 256 w (by omega)
theorem noughts208 (w : World) : Calls Tryz.prog 81 #[.int .i64 208] w fun e w' => e = .returned (.string (strB (zer 208))) ∧ Below w.heap.size w w' := noughts_calls 208 w (by omega)
theorem first208 (l : List UInt8) (w : World) : Calls Tryz.prog 84 #[.string (strB l), .int .i64 208] w fun e w' => e = .returned (.string (strB (l.take 208))) ∧ w' = w := first_calls l 208 w (by omega)
theorem mark_leaf (b : Nat) (t : TK) (w : World) (ht : TP 114 w b t) :
    Calls Tryz.prog 82 #[.pointer (some ⟨b, 0, none⟩), .string ⟨#[76, 69, 65, 70]⟩] w fun e w' => e = .returned (.tuple #[]) ∧ TP 114 w' b (markS leafK t) ∧ But b w w' := Wire.mark_calls b leafK t w ht
theorem eqs_spell (a b : List UInt8) : ((strB a).toList == (strB b).toList) = (a == b) := by rw [strB_toList, strB_toList]
theorem home_end {s : List UInt8} {no : Int} {b : Bool} {d : List UInt8} (hd : d = homeV s no) (hb : b = homeB s no) : Ending.returned (.tuple #[.string (strB d), .bool b]) = .returned (.tuple #[.string (strB (homeV s no)), .bool (homeB s no)]) := by rw [hd, hb]

set_option maxRecDepth 100000 in
set_option maxHeartbeats 8000000 in
theorem home_calls (s : List UInt8) (no : Int) (w : World) :
    Calls Tryz.prog 46 #[.string (strB s), .int .i64 no] w fun e w' => e = .returned (.tuple #[.string (strB (homeV s no)), .bool (homeB s no)]) ∧ Below w.heap.size w w' := by
  have HE := Lib.hid (eqs_spell s (zer 256))
  go_enter Tryz.func46, Tryz.ntmps46
  go_wp2_with fail
  (with_reducible refine (noughts256 _).mono ?_)
  rintro e w1 ⟨rfl, hB1⟩
  cases hz : s == zer 256 with
  | true =>
    have hz' := HE.out.trans hz
    have e1 : true = homeB s no := by unfold homeB; rw [hz]; rfl
    have e2 : zer 208 = homeV s no := by unfold homeV; rw [hz]; rfl
    have E := Lib.hid (home_end e2 e1)
    clear e1 e2 hz
    go_wp2_with fail
    (with_reducible refine (noughts208 _).mono ?_)
    rintro e w2 ⟨rfl, hB2⟩
    go_wp2_with fail
    go_ret2
    exact ⟨E.out, below_trans' hB1 hB2⟩
  | false =>
    have hz' := HE.out.trans hz
    have HZ := Lib.hid hz
    have HT : Hid (TP 114 (w1.alloc (.cells #[.string (strB s), .bool false] 114)) w1.heap.size ⟨s, false⟩) := Lib.hid (TP.new 114 w1 s false)
    have HB : Hid (Below w.heap.size w (w1.alloc (.cells #[.string (strB s), .bool false] 114))) := Lib.hid (below_trans' hB1 (below_one _ _))
    have hw1 : w.heap.size ≤ w1.heap.size := hB1.size
    have HW := Lib.hid hw1
    clear hB1 hz hw1
    go_wp2_with fail
    (with_reducible refine (mark_leaf w1.heap.size ⟨s, false⟩ _ HT.out).mono ?_)
    rintro e w2 ⟨rfl, hT2, hB2⟩
    replace HT := Lib.hid hT2
    replace HB := Lib.hid (HB.out.trans (hB2.below HW.out HB.out.size))
    clear hT2 hB2 hz' HE
    go_wp2_with fail
    (with_reducible refine (Wire.ttwo_calls w1.heap.size no no (markS leafK ⟨s, false⟩) _ HT.out).mono ?_)
    rintro e w3 ⟨rfl, hT3, hB3⟩
    replace HT : Hid (TP 114 w3 w1.heap.size (tapeH s no)) := Lib.hid hT3
    replace HB := Lib.hid (HB.out.trans (hB3.below HW.out HB.out.size))
    clear hT3 hB3
    have t0 := HT.out.rest
    have t1 := HT.out.bad
    go_wp2_with fail
    (with_reducible refine (first208 _ _).mono ?_)
    rintro e w4 ⟨rfl, rfl⟩
    obtain ⟨D, hD⟩ : ∃ D, D = dataH s no := ⟨_, rfl⟩
    rw [show (tapeH s no).rest.take 208 = D from hD.symm]
    have HD := Lib.hid hD
    have CL := Lib.hid (fun W => leaf_calls no D W (by rw [hD]; unfold dataH; rw [List.length_take]; omega))
    unfold lfV at CL
    clear hD
    cases hb : (tapeH s no).bad with
    | true =>
      rw [hb] at t1
      have e1 : false = homeB s no := by unfold homeB; rw [HZ.out, hb]; rfl
      have e2 : [] = homeV s no := by unfold homeV; rw [HZ.out, hb]; rfl
      have E := Lib.hid (home_end e2 e1)
      clear e1 e2 hb
      go_wp2_with fail
      go_ret2
      exact ⟨E.out, HB.out⟩
    | false =>
      rw [hb] at t1
      have HBB := Lib.hid hb
      clear hb
      go_wp2_with fail
      (with_reducible refine (CL.out _).mono ?_)
      rintro e w5 ⟨rfl, hB5⟩
      have HE2 := Lib.hid (eqs_spell (leafL no D) s)
      clear CL
      cases hp : leafL no D == s with
      | true =>
        have hp' := HE2.out.trans hp
        have e1 : true = homeB s no := by unfold homeB; rw [HZ.out, HBB.out, ← HD.out, hp]; rfl
        have e2 : D = homeV s no := by unfold homeV; rw [HZ.out, HBB.out, ← HD.out, hp]; rfl
        have E := Lib.hid (home_end e2 e1)
        clear e1 e2 hp
        go_wp2_with fail
        go_ret2
        exact ⟨E.out, below_trans' HB.out hB5⟩
      | false =>
        have hp' := HE2.out.trans hp
        have e1 : false = homeB s no := by unfold homeB; rw [HZ.out, HBB.out, ← HD.out, hp]; rfl
        have e2 : [] = homeV s no := by unfold homeV; rw [HZ.out, HBB.out, ← HD.out, hp]; rfl
        have E := Lib.hid (home_end e2 e1)
        clear e1 e2 hp
        go_wp2_with fail
        go_ret2
        exact ⟨E.out, below_trans' HB.out hB5⟩

end Go.Proofs.YtnbbijpmkhdgpaaGreat.Ent

/- PRead -/
namespace Go.Proofs.YtnbbijpmkhdgpaaGreat.Vlt
open Go.RowKit Go.Sort
open Dsk
open Ent (homeB homeV)

theorem pos_low {no : Int} : ∀ {l : List Lf} {q : Nat} {x : Lf}, q < posL l no → l[q]? = some x → x.no < no
  | [], q, x, _, hx => by cases hx
  | y :: l, q, x, hq, hx => by
    unfold posL at hq
    by_cases h : y.no < no
    · rw [List.takeWhile_cons_of_pos (by simpa using h)] at hq
      cases q with
      | zero => simp at hx; rw [← hx]; exact h
      | succ q => exact pos_low (l := l) (q := q) (by unfold posL; simpa using hq) (by simpa using hx)
    · rw [List.takeWhile_cons_of_neg (by simpa using h)] at hq
      exact absurd hq (by simp)

theorem is_hit {l : List Lf} {no : Int} (h : isL l no = true) : ∃ o, l[posL l no]? = some o ∧ findL l no = some o ∧ posL l no < l.length := by
  unfold isL at h
  cases ho : l[posL l no]? with
  | none => rw [ho] at h; cases h
  | some o =>
    rw [ho] at h
    have hno : o.no = no := by simpa using h
    refine ⟨o, rfl, find_hitL (i := posL l no) (fun q x hq hx => ?_) ho hno, (List.getElem?_eq_some_iff.1 ho).1⟩
    have := pos_low hq hx
    omega
theorem is_miss {l : List Lf} {no : Int} (hR : RiseL l) (h : isL l no = false) : findL l no = none := by
  refine find_missL fun q x hx => ?_
  obtain ⟨h1, _, _⟩ := ins_pos (p := ⟨no, []⟩) hR
  dsimp only at h1
  by_cases hq : q < posL l no
  · have := pos_low hq hx
    omega
  · unfold isL at h
    cases ho : l[posL l no]? with
    | none =>
      have := (List.getElem?_eq_some_iff.1 hx).1
      rw [List.getElem?_eq_none_iff] at ho
      omega
    | some o =>
      rw [ho] at h
      have hne : o.no ≠ no := by simpa using h
      have hge : no ≤ o.no := by
        have := drop_ge (p := ⟨no, []⟩) hR o (by
          have e1 : l.dropWhile (fun q => decide (q.no < no)) = l.drop (posL l no) := by
            have a := List.takeWhile_append_dropWhile (p := fun q : Lf => decide (q.no < no)) (l := l)
            have b := List.take_append_drop (posL l no) l
            have hp := List.takeWhile_prefix (fun p : Lf => decide (p.no < no)) (l := l)
            rw [List.prefix_iff_eq_take] at hp
            rw [hp] at a
            exact List.append_cancel_left (a.trans b.symm)
          rw [e1]
          exact List.mem_of_getElem? (i := 0) (by rw [List.getElem?_drop]; exact ho))
        simpa using this
      by_cases he : q = posL l no
      · subst he
        rw [ho] at hx
        injection hx with hx
        rw [← hx]; exact hne
      · have := rise_at hR (show posL l no < q by omega) ho hx
        omega

set_option maxRecDepth 100000 in
set_option maxHeartbeats 16000000 in
theorem read_calls (v : Value) (k : VK) (no : Int) (w : World) (hv : IsVault w v k) (hg : VGood k) (hR : RiseL k.dirty) :
    Calls Tryz.prog 17 #[v, .int .i64 no] w fun e w' => e = .returned (.tuple #[.string (strB (readV k no).1), .int .i64 (readV k no).2]) ∧ Below w.heap.size w w' := by
  obtain ⟨vs, vw, vd, rfl, h1, h2⟩ := hv
  obtain ⟨A, n, c, rfl, hn, _, hr⟩ := h2.open_
  obtain ⟨hok, hri, hin⟩ := hg.ok
  have hdl := hg.dirty
  obtain ⟨Y, hY, b1, hB⟩ : ∃ Y, Y = w.alloc (.cells #[vs, vw, .bool k.disk.dead, .int .i64 k.disk.left, .int .i64 k.shape.pages, .int .i64 k.shape.journal, .int .i64 k.seq, .slice A n c] 33) ∧ VBox Y w.heap.size vs vw (.slice A n c) k ∧ Below w.heap.size w Y := ⟨_, rfl, VBox.new _ _ _ _ _, below_one _ _⟩
  have hre : ∀ W, Below w.heap.size w W → Reads W 52 2 A n (lfCells k.dirty) := fun W hb => by
    obtain ⟨_, _, e, _, hr'⟩ := h2.below hb
    injection e with e1 e2 e3
    subst e1 e3
    rw [hn]; exact hr'
  have HFC := Lib.hid (fun W (hb : Below w.heap.size w W) => find_calls A n c k.dirty no W (hre W hb) hn hR (by omega))
  have HHAS := Lib.hid (fun W => has_calls k.shape no W)
  unfold shV at HHAS
  have HY := Lib.hid hY
  have B1 := Lib.hid b1
  have HB := Lib.hid hB
  have H1 := Lib.hid h1
  have HOK := Lib.hid (And.intro hok hri)
  have HR := Lib.hid hr
  have HN := Lib.hid hn
  have HRI := Lib.hid hR
  obtain ⟨i0, i1, i2, i3, i4, i5, i6, i7⟩ := b1.at_
  clear hY b1 hB h1 h2 hok hri hin hr hn hre hR hdl
  by_cases hH : hasP k no
  rotate_left
  · have E : Hid (readV k no = ([], 1)) := Lib.hid (by unfold readV; rw [if_pos hH])
    have hb : (decide (0 ≤ no) && decide (no < k.shape.pages)) = false := by
      unfold hasP at hH
      simp only [Bool.and_eq_false_iff, decide_eq_false_iff_not]
      omega
    rw [hb] at HHAS
    clear hH hb
    go_enter Tryz.func17, Tryz.ntmps17
    go_upto_region 1 with (fail)
    rw [← HY.out]
    clear HY
    go_wp2_with fail
    (with_reducible refine (HHAS.out _).mono ?_)
    rintro e w1 ⟨rfl, hB1⟩
    go_wp2_with fail
    exact bodyPost_ret (v := .tuple #[.string ⟨#[]⟩, .int .i64 1]) (by simp [results, Tryz.results17, go_sem]) rfl ⟨read_end E.out, Dsk.below_trans' HB.out hB1⟩
  have hb : (decide (0 ≤ no) && decide (no < k.shape.pages)) = true := by
    obtain ⟨a, b⟩ := hH
    simp [a, b]
  rw [hb] at HHAS
  rcases Bool.eq_false_or_eq_true k.disk.dead with hd | hd
  · have E : Hid (readV k no = ([], 12)) := Lib.hid (by unfold readV; rw [if_neg (by simp [hH]), if_pos hd])
    rw [hd] at HY
    have HD := Lib.hid hd
    clear hH hb hd i0 i1 i2 i3 i4 i5 i6 i7
    obtain ⟨i0, i1, i2, i3, i4, i5, i6, i7⟩ := B1.out.at_
    rw [HD.out] at i2 ⊢
    go_enter Tryz.func17, Tryz.ntmps17
    go_upto_region 1 with (fail)
    rw [← HY.out]
    clear HY
    go_wp2_with fail
    (with_reducible refine (HHAS.out _).mono ?_)
    rintro e w1 ⟨rfl, hB1⟩
    have q1 := (B1.out.below hB1).at_.c2
    rw [HD.out] at q1
    go_wp2_with fail
    exact bodyPost_ret (v := .tuple #[.string ⟨#[]⟩, .int .i64 12]) (by simp [results, Tryz.results17, go_sem]) rfl ⟨read_end E.out, Dsk.below_trans' HB.out hB1⟩
  have HHit : Hid (∀ o, findL k.dirty no = some o → readV k no = (o.data, 0)) := Lib.hid (fun o ho => by unfold readV; rw [if_neg (by simp [hH]), if_neg (by simp [hd]), ho])
  have HMiss : Hid (findL k.dirty no = none → readV k no = if rdE k.disk (placeN k.shape no) ≠ 0 then ([], rdE k.disk (placeN k.shape no)) else
      if homeB (rdS k.disk (placeN k.shape no)).data.toList no = true then (homeV (rdS k.disk (placeN k.shape no)).data.toList no, 0) else ([], 2)) := Lib.hid (fun ho => by unfold readV; rw [if_neg (by simp [hH]), if_neg (by simp [hd]), ho])
  have HD := Lib.hid hd
  clear hH hd hg hb i0 i1 i2 i3 i4 i5 i6 i7
  obtain ⟨i0, i1, i2, i3, i4, i5, i6, i7⟩ := B1.out.at_
  rw [HD.out] at i2 HY ⊢
  obtain ⟨pos, hpos⟩ : ∃ p, p = posL k.dirty no := ⟨_, rfl⟩
  obtain ⟨is, his⟩ : ∃ b, b = isL k.dirty no := ⟨_, rfl⟩
  rw [← hpos, ← his] at HFC
  have HPOS := Lib.hid hpos
  have HIS := Lib.hid his
  clear hpos his
  cases hib : is with
  | true =>
    rw [hib] at HFC HIS
    obtain ⟨o, ho, hfo, hlt⟩ := is_hit HIS.out.symm
    rw [← HPOS.out] at ho hlt
    have E := Lib.hid (HHit.out o hfo)
    have hi1 : (0 : Int) ≤ (pos : Int) := by omega
    have hi2 : (pos : Int) < (n : Int) := by have := HN.out; omega
    have HO := Lib.hid ho
    have HN0 : Hid (0 < n) := Lib.hid (by omega)
    clear hib hfo ho hlt HMiss HHit
    go_enter Tryz.func17, Tryz.ntmps17
    go_upto_region 1 with (fail)
    rw [← HY.out]
    clear HY
    go_wp2_with fail
    (with_reducible refine (HHAS.out _).mono ?_)
    rintro e w1 ⟨rfl, hB1⟩
    have q2 := (B1.out.below hB1).at_.c2
    have q7 := (B1.out.below hB1).at_.c7
    rw [HD.out] at q2
    have HB1 := Lib.hid hB1
    clear hB1 i0 i1 i2 i3 i4 i5 i6 i7
    go_wp2_with fail
    (with_reducible refine (HFC.out _ (Dsk.below_trans' HB.out HB1.out)).mono ?_)
    rintro e w2 ⟨rfl, hB2⟩
    have HB2 := Lib.hid (Dsk.below_trans' HB1.out hB2)
    clear hB2 q2 q7
    have q7 := (B1.out.below HB2.out).at_.c7
    obtain ⟨b, off, rfl, x0, x1⟩ := lf_at HR.out (Dsk.below_trans' HB.out HB2.out) HO.out HN0.out
    go_wp2_with fail
    exact bodyPost_ret (v := .tuple #[.string (strB o.data), .int .i64 0]) (by simp [results, Tryz.results17, go_sem]) rfl ⟨read_end E.out, Dsk.below_trans' HB.out HB2.out⟩
  | false =>
    rw [hib] at HFC HIS
    have E := Lib.hid (HMiss.out (is_miss HRI.out HIS.out.symm))
    clear hib HMiss HHit
    go_enter Tryz.func17, Tryz.ntmps17
    go_upto_region 1 with (fail)
    rw [← HY.out]
    clear HY
    go_wp2_with fail
    (with_reducible refine (HHAS.out _).mono ?_)
    rintro e w1 ⟨rfl, hB1⟩
    have q2 := (B1.out.below hB1).at_.c2
    have q7 := (B1.out.below hB1).at_.c7
    rw [HD.out] at q2
    have HB1 := Lib.hid hB1
    clear hB1 i0 i1 i2 i3 i4 i5 i6 i7
    go_wp2_with fail
    (with_reducible refine (HFC.out _ (Dsk.below_trans' HB.out HB1.out)).mono ?_)
    rintro e wr ⟨rfl, hB2⟩
    have HBR := Lib.hid (Dsk.below_trans' HB1.out hB2)
    clear hB2 q2 q7
    have q := fun d os => Dsk.below_trans' HBR.out (below_regrown wr d os)
    have i0 := fun d os => ((B1.out.below (q d os)).at_).c0
    have i1 := fun d os => ((B1.out.below (q d os)).at_).c1
    have i2 := fun d os => ((B1.out.below (q d os)).at_).c2
    have i3 := fun d os => ((B1.out.below (q d os)).at_).c3
    have i4 := fun d os => ((B1.out.below (q d os)).at_).c4
    have i5 := fun d os => ((B1.out.below (q d os)).at_).c5
    rw [HD.out] at i2
    obtain ⟨PL, hPL⟩ : ∃ p, p = placeN k.shape no := ⟨_, rfl⟩
    have D1 := rg (place_calls k.shape no) wr
    unfold shV at D1
    rw [← hPL] at D1 E
    have D2 := fun d os => Calls.regrown_of (Dsk.read_calls _ k.disk PL (grow (redrawn wr d) os) (H1.out.below (Dsk.below_trans' HB.out (q d os))) HOK.out.1)
    rw [HD.out] at D2
    have D1 := Lib.hid D1
    have D2 := Lib.hid D2
    clear q hPL
    go_wp2_with fail
    refine wp_region_quiet_below (by kernel_rfl) (by kernel_rfl) ?_
    (try simp only [List.append_eq, List.cons_append, List.nil_append])
    repeat (first | go_big_quiet_step (first | (with_reducible exact D1.out _ _) | (with_reducible exact D2.out _ _)))
    refine wpQuiet_nil ?_
    intro _ hw'
    obtain ⟨⟨dq, osq⟩, hw''⟩ := hw'
    subst hw''
    have HB2 := Lib.hid (Dsk.below_trans' (Dsk.below_trans' HB.out HBR.out) (below_regrown wr dq osq))
    generalize grow (redrawn wr dq) osq = W1 at *
    clear i0 i1 i2 i3 i4 i5 D1 D2
    by_cases he : rdE k.disk PL = 0
    · rw [if_neg (by omega)] at E
      rw [he]
      obtain ⟨S, hS⟩ : ∃ S, S = (rdS k.disk PL).data.toList := ⟨_, rfl⟩
      have hS2 : rdS k.disk PL = strB S := by rw [hS, strB_of]
      rw [← hS] at E
      rw [hS2]
      clear hS hS2
      go_wp2_with fail
      (with_reducible refine (Ent.home_calls S no _).mono ?_)
      rintro e w3 ⟨rfl, hB3⟩
      rcases Bool.eq_false_or_eq_true (homeB S no) with hb | hb
      · rw [hb, if_pos rfl] at E
        rw [hb]
        go_wp2_with fail
        exact bodyPost_ret (v := .tuple #[.string (strB (homeV S no)), .int .i64 0]) (by simp [results, Tryz.results17, go_sem]) rfl ⟨read_end E.out, Dsk.below_trans' HB2.out hB3⟩
      · rw [hb, if_neg (by simp)] at E
        rw [hb]
        go_wp2_with fail
        exact bodyPost_ret (v := .tuple #[.string ⟨#[]⟩, .int .i64 2]) (by simp [results, Tryz.results17, go_sem]) rfl ⟨read_end E.out, Dsk.below_trans' HB2.out hB3⟩
    · rw [if_pos he] at E
      obtain ⟨R, hR⟩ : ∃ R, R = rdE k.disk PL := ⟨_, rfl⟩
      rw [← hR] at E he
      rw [← hR]
      have he2 : (R == 0) = false := by simpa using he
      clear hR
      go_wp2_with fail
      exact bodyPost_ret (v := .tuple #[.string ⟨#[]⟩, .int .i64 R]) (by simp [results, Tryz.results17, go_sem]) rfl ⟨read_end E.out, HB2.out⟩

end Go.Proofs.YtnbbijpmkhdgpaaGreat.Vlt
