/- Contracts and plain mathematics that the statement's proof wants: no statement is proved here, nothing is assumed. -/
import Derived.Shelf.Bits.Mul64
import Derived.Shelf.Strings.Repeat
import Derived.Ground.Names2Prog
import Derived.Shelf.Slices.Clone
import Derived.Test.YtnbbijpmkhdgpaaGreatProg
import Derived.Test.YtnbbijpmkhdgpaaGreatRows
import Derived.WalkKit
import Derived.Laws.BitsAllLaws
import Derived.Lib.Hide
import Derived.Laws.BytesArg
import Derived.Laws.IdiomStrings
import Derived.BigQuiet
import Derived.StillTailTactics
import Derived.Test.YtnbbijpmkhdgpaaGreatMg00
import Derived.Test.YtnbbijpmkhdgpaaGreatMg01
import Derived.Test.YtnbbijpmkhdgpaaGreatMg02
/- VDisk -/
namespace Go.Proofs.YtnbbijpmkhdgpaaGreat.Vlt
open Go.RowKit
open Dsk

/-- What sector j is to be; what it surely is. -/
def nowB (d : DK) (j : Nat) : ByteArray := readF d.wet d.sure j
def sureB (d : DK) (j : Nat) : ByteArray := d.sure.getD j ByteArray.empty

theorem read_none {wet : List Wt} {zs : List ByteArray} {j : Nat} (h : ∀ o ∈ wet, o.1 ≠ (j : Int)) : readF wet zs j = zs.getD j ByteArray.empty := by
  unfold readF
  rw [List.find?_eq_none.2 (fun o ho => by have := h o (by simpa using ho); simpa using this)]
  rfl
theorem now_dry {d : DK} (h : d.wet = []) (j : Nat) : nowB d j = sureB d j := by
  unfold nowB sureB
  rw [h]
  exact read_none (by simp)

theorem mem_with {p : Wt} {l : List Wt} (h : Rising l) : p ∈ withF p l := by rw [with_ins h]; simp
theorem keep_with {p x : Wt} {l : List Wt} (h : Rising l) (hx : x ∈ l) (hn : x.1 ≠ p.1) : x ∈ withF p l := by
  rw [with_ins h]
  have : x ∈ l.takeWhile (fun o => decide (o.1 < p.1)) ++ l.dropWhile (fun o => decide (o.1 < p.1)) := by rw [List.takeWhile_append_dropWhile]; exact hx
  rcases List.mem_append.1 this with k | k
  · simp [k]
  · simp only [List.mem_append, List.mem_filter]
    exact .inr ⟨k, by simpa using hn⟩

theorem now_with {wet : List Wt} {zs : List ByteArray} (h : Rising wet) (a : Nat) (data : ByteArray) (j : Nat) :
    readF (withF ((a : Int), data) wet) zs j = if j = a then data else readF wet zs j := by
  have hr := h.with_ ((a : Int), data)
  by_cases e : j = a
  · subst e
    rw [if_pos rfl, read_uniq hr.uniq zs j _ (mem_with h) rfl]
  · rw [if_neg e]
    by_cases k : ∃ o ∈ wet, o.1 = (j : Int)
    · obtain ⟨o, ho, hj⟩ := k
      have hn : o.1 ≠ ((a : Int), data).1 := by rw [hj]; show (j : Int) ≠ a; omega
      rw [read_uniq hr.uniq zs j o (keep_with h ho hn) hj, read_uniq h.uniq zs j o ho hj]
    · have k1 : ∀ o ∈ wet, o.1 ≠ (j : Int) := fun o ho hj => k ⟨o, ho, hj⟩
      have k2 : ∀ o ∈ withF ((a : Int), data) wet, o.1 ≠ (j : Int) := by
        intro o ho hj
        rcases with_mem _ _ _ ho with rfl | ⟨h1, _⟩
        · have : (a : Int) = j := hj
          omega
        · exact k1 o h1 hj
      rw [read_none k1, read_none k2]

theorem all_bit (k : Nat) : allBits.testBit (k % 64) = true := by
  have : k % 64 < 64 := Nat.mod_lt _ (by omega)
  generalize k % 64 = m at *
  revert m
  decide

theorem settleK_all {wet : List Wt} (hu : Uniq wet) (zs : List ByteArray) (hin : ∀ o ∈ wet, 0 ≤ o.1 ∧ o.1 < zs.length) (j : Nat) :
    ∀ k, k ≤ wet.length → (∀ i o, i < k → wet[i]? = some o → o.1 = (j : Int) → (settleK allBits wet zs k).getD j ByteArray.empty = o.2) ∧
      ((∀ i o, i < k → wet[i]? = some o → o.1 ≠ (j : Int)) → (settleK allBits wet zs k).getD j ByteArray.empty = zs.getD j ByteArray.empty)
  | 0, _ => ⟨fun i o h => absurd h (by omega), fun _ => rfl⟩
  | k + 1, hk => by
    obtain ⟨i1, i2⟩ := settleK_all hu zs hin j k (by omega)
    have hw : wet[k]? = some wet[k] := List.getElem?_eq_getElem (by omega)
    have hm : wet[k] ∈ wet := List.getElem_mem _
    obtain ⟨h0, h1⟩ := hin _ hm
    have hs : settleK allBits wet zs (k + 1) = (settleK allBits wet zs k).set wet[k].1.toNat wet[k].2 := by
      conv => lhs; unfold settleK
      rw [hw]
      dsimp only
      unfold setStep
      rw [if_pos ⟨all_bit k, h0, by rw [settleK_length]; exact h1⟩]
    have hg : (settleK allBits wet zs (k + 1)).getD j ByteArray.empty = if wet[k].1.toNat = j then wet[k].2 else (settleK allBits wet zs k).getD j ByteArray.empty := by
      rw [hs, List.getD_eq_getElem?_getD, List.getElem?_set]
      by_cases e : wet[k].1.toNat = j
      · rw [if_pos e, if_pos e, if_pos (by rw [settleK_length]; omega)]
        rfl
      · rw [if_neg e, if_neg e, ← List.getD_eq_getElem?_getD]
    constructor
    · intro i o hi ho hj
      rw [hg]
      by_cases e : wet[k].1.toNat = j
      · rw [if_pos e]
        have : wet[k] = o := hu _ hm _ (List.mem_of_getElem? ho) (by omega)
        rw [this]
      · rw [if_neg e]
        have hik : i < k := by
          rcases Nat.lt_or_eq_of_le (Nat.le_of_lt_succ hi) with h | h
          · exact h
          · subst h
            rw [hw] at ho
            have := Option.some.inj ho
            rw [this] at e
            omega
        exact i1 i o hik ho hj
    · intro hn
      rw [hg, if_neg (by have := hn k _ (by omega) hw; omega)]
      exact i2 fun i o hi ho => hn i o (by omega) ho

/-- What is flushed is sure. -/
theorem settle_all {wet : List Wt} (hu : Uniq wet) (zs : List ByteArray) (hin : ∀ o ∈ wet, 0 ≤ o.1 ∧ o.1 < zs.length) (j : Nat) : (settleF allBits wet zs).getD j ByteArray.empty = readF wet zs j := by
  obtain ⟨h1, h2⟩ := settleK_all hu zs hin j wet.length (Nat.le_refl _)
  by_cases k : ∃ o ∈ wet, o.1 = (j : Int)
  · obtain ⟨o, ho, hj⟩ := k
    obtain ⟨i, hi, e⟩ := List.getElem_of_mem ho
    rw [read_uniq hu zs j o ho hj]
    exact h1 i o hi (by rw [List.getElem?_eq_getElem hi, e]) hj
  · have k1 : ∀ o ∈ wet, o.1 ≠ (j : Int) := fun o ho hj => k ⟨o, ho, hj⟩
    rw [read_none k1]
    exact h2 fun i o _ ho => k1 o (List.mem_of_getElem? ho)

/-- What stays is what was sure, or was to be. -/
theorem settle_any {wet : List Wt} (hu : Uniq wet) (stay : Nat) (zs : List ByteArray) (j : Nat) : (settleF stay wet zs).getD j ByteArray.empty = zs.getD j ByteArray.empty ∨ (settleF stay wet zs).getD j ByteArray.empty = readF wet zs j := by
  rcases settle_at stay wet zs j wet.length with e | ⟨o, ho, hj, e⟩
  · exact .inl e
  · refine .inr ?_
    rw [read_uniq hu zs j o ho hj]
    exact e

section
variable {n i : Nat} {d : DK}

theorem deed_live (h : deedB d = true) : (deedD d).dead = false ∧ d.dead = false := by
  unfold deedB at h
  have h1 : d.dead = false ∧ d.left ≠ 0 := by simpa using h
  refine ⟨?_, h1.1⟩
  unfold deedD
  rw [if_neg (by simp [h1.1, h1.2])]
  split <;> exact h1.1
theorem deed_down (h : deedB d = false) : (deedD d).dead = true := by
  unfold deedB at h
  have h1 : d.dead = true ∨ d.left = 0 := by
    cases hd : d.dead with
    | true => exact .inl rfl
    | false => rw [hd] at h; exact .inr (by simpa using h)
  unfold deedD
  rw [if_pos h1]
theorem deed_any (h : d.dead = false) (hl : d.left = -1) : deedB d = true ∧ deedD d = d := by
  constructor
  · unfold deedB; rw [h, hl]; rfl
  · unfold deedD; rw [if_neg (by simp [h, hl]), if_neg (by omega)]

/-- A write: done, or the power is gone. -/
theorem write_is (hp : Pl n i d) (a : Nat) (data : ByteArray) (ha : a < n) (hs : data.size = 256) :
    (deedB d = true ∧ wrE d a data = 0 ∧ (wrD d a data).dead = false ∧ (∀ j, sureB (wrD d a data) j = sureB d j) ∧ ∀ j, nowB (wrD d a data) j = if j = a then data else nowB d j) ∨
    (deedB d = false ∧ wrE d a data = 12 ∧ (wrD d a data).dead = true ∧ (∀ j, sureB (wrD d a data) j = sureB d j) ∧ ∀ j, nowB (wrD d a data) j = nowB d j) := by
  have hok : wrOk d a data := ⟨by omega, by rw [hp.good.sure]; omega, by omega⟩
  have hpad : padB data = data := by
    unfold padB
    rw [hs]
    simp
  have e1 : wrE d a data = if deedB d = true then 0 else 12 := by unfold wrE; rw [if_pos hok]
  have e2 : wrD d a data = writeD d a data := by unfold wrD; rw [if_pos hok]
  rw [e1, e2]
  cases hb : deedB d with
  | true =>
    refine .inl ⟨rfl, by rw [if_pos rfl], ?_, ?_, ?_⟩
    · unfold writeD; rw [if_pos hb]; exact (deed_live hb).1
    · intro j; unfold writeD sureB; rw [if_pos hb]; show (deedD d).sure.getD j _ = _; rw [deedD_sure]
    · intro j
      unfold writeD nowB
      rw [if_pos hb]
      show readF (withF ((a : Int), padB data) d.wet) (deedD d).sure j = _
      rw [deedD_sure, hpad]
      exact now_with hp.rise a data j
  | false =>
    refine .inr ⟨rfl, by rw [if_neg (by simp)], ?_, ?_, ?_⟩
    · unfold writeD; rw [if_neg (by simp [hb])]; exact deed_down hb
    · intro j; unfold writeD sureB; rw [if_neg (by simp [hb]), deedD_sure]
    · intro j; unfold writeD nowB; rw [if_neg (by simp [hb]), deedD_sure, deedD_wet]

theorem flush_is (hp : Pl n i d) :
    (deedB d = true ∧ flE d = 0 ∧ (flD d).dead = false ∧ (flD d).wet = [] ∧ (∀ j, sureB (flD d) j = nowB d j) ∧ ∀ j, nowB (flD d) j = nowB d j) ∨
    (deedB d = false ∧ flE d = 12 ∧ (flD d).dead = true ∧ (flD d).wet = d.wet ∧ (∀ j, sureB (flD d) j = sureB d j) ∧ ∀ j, nowB (flD d) j = nowB d j) := by
  have hs : ∀ j, (settleF allBits d.wet d.sure).getD j ByteArray.empty = nowB d j := fun j => settle_all hp.rise.uniq d.sure hp.inn j
  cases hb : deedB d with
  | true =>
    refine .inl ⟨rfl, by unfold flE; rw [if_pos hb], ?_, ?_, ?_, ?_⟩
    · unfold flD; rw [if_pos hb]; exact (deed_live hb).1
    · unfold flD; rw [if_pos hb]
    · intro j; unfold flD sureB; rw [if_pos hb]; exact hs j
    · intro j
      unfold flD nowB
      rw [if_pos hb]
      show readF [] (settleF allBits d.wet d.sure) j = _
      rw [read_none (by simp)]
      exact hs j
  | false =>
    refine .inr ⟨rfl, by unfold flE; rw [if_neg (by simp [hb])], ?_, ?_, ?_, ?_⟩
    · unfold flD; rw [if_neg (by simp [hb])]; exact deed_down hb
    · unfold flD; rw [if_neg (by simp [hb]), deedD_wet]
    · intro j; unfold flD sureB; rw [if_neg (by simp [hb]), deedD_sure]
    · intro j; unfold flD nowB; rw [if_neg (by simp [hb]), deedD_sure, deedD_wet]

theorem start_is (hp : Pl n i d) (stay : Nat) :
    (stD d stay).dead = false ∧ (stD d stay).left = -1 ∧ (stD d stay).wet = [] ∧ (∀ j, nowB (stD d stay) j = sureB (stD d stay) j) ∧ ∀ j, sureB (stD d stay) j = sureB d j ∨ sureB (stD d stay) j = nowB d j := by
  refine ⟨rfl, rfl, rfl, fun j => now_dry rfl j, fun j => ?_⟩
  exact settle_any hp.rise.uniq stay d.sure j
theorem stD_pl (hp : Pl n i d) (stay : Nat) : Pl n 0 (stD d stay) := ⟨stD_good hp.good stay, rising_nil, wetIn_nil rfl⟩

theorem rd_is (hp : Pl n i d) (hd : d.dead = false) {a : Nat} (ha : a < n) : rdS d a = nowB d a ∧ rdE d a = 0 := by
  have hok : rdOk d a := ⟨by omega, by rw [hp.good.sure]; omega⟩
  constructor
  · unfold rdS; rw [if_pos ⟨hok, hd⟩]; rfl
  · unfold rdE; rw [if_pos hok, if_pos hd]
end

/-- Writes, one behind the other, till one goes wrong. -/
def wrsF (d : DK) : List (Int × ByteArray) → DK × Int
  | [] => (d, 0)
  | p :: l => if wrE d p.1 p.2 = 0 then wrsF (wrD d p.1 p.2) l else (wrD d p.1 p.2, wrE d p.1 p.2)
/-- Writes, and a flush. -/
def wfF (d : DK) (l : List (Int × ByteArray)) : DK × Int := if (wrsF d l).2 = 0 then (flD (wrsF d l).1, flE (wrsF d l).1) else wrsF d l

theorem wrs_snoc (d : DK) (l : List (Int × ByteArray)) (p : Int × ByteArray) :
    wrsF d (l ++ [p]) = if (wrsF d l).2 = 0 then (wrD (wrsF d l).1 p.1 p.2, wrE (wrsF d l).1 p.1 p.2) else wrsF d l := by
  induction l generalizing d with
  | nil =>
    simp only [List.nil_append, wrsF]
    by_cases h : wrE d p.1 p.2 = 0
    · rw [if_pos h, if_pos trivial, h]
    · rw [if_neg h, if_pos trivial]
  | cons q l ih =>
    rw [List.cons_append]
    conv => lhs; unfold wrsF
    conv => rhs; unfold wrsF
    by_cases h : wrE d q.1 q.2 = 0
    · rw [if_pos h, if_pos h, ih]
    · rw [if_neg h, if_neg h, if_neg h]

/-- Sectors behind writes. -/
def updW (l : List (Int × ByteArray)) (f : Nat → ByteArray) (j : Nat) : ByteArray := l.foldl (fun b p => if p.1 = (j : Int) then p.2 else b) (f j)
/-- Writes that a disk takes: of whole sectors that it has. -/
def WsOk (n : Nat) (l : List (Int × ByteArray)) : Prop := ∀ p ∈ l, 0 ≤ p.1 ∧ p.1 < n ∧ p.2.size = 256

theorem updW_cons (p : Int × ByteArray) (l : List (Int × ByteArray)) (f : Nat → ByteArray) (j : Nat) :
    updW (p :: l) f j = updW l (fun j => if p.1 = (j : Int) then p.2 else f j) j := rfl
theorem updW_out {l : List (Int × ByteArray)} {f : Nat → ByteArray} {j : Nat} (h : ∀ p ∈ l, p.1 ≠ (j : Int)) : updW l f j = f j := by
  unfold updW
  suffices ∀ b, l.foldl (fun b (p : Int × ByteArray) => if p.1 = (j : Int) then p.2 else b) b = b from this _
  induction l with
  | nil => intro b; rfl
  | cons x l ih =>
    intro b
    rw [List.foldl_cons, if_neg (h x (by simp))]
    exact ih (fun y hy => h y (by simp [hy])) b
theorem updW_ext {l : List (Int × ByteArray)} {f g : Nat → ByteArray} {j : Nat} (h : f j = g j) : updW l f j = updW l g j := by unfold updW; rw [h]

/-- What stands behind writes of which the power may have let but the first ones through. -/
theorem wrs_is {n : Nat} : ∀ (l : List (Int × ByteArray)) (i : Nat) (d : DK), Pl n i d → d.dead = false → WsOk n l →
    ∃ k, k ≤ l.length ∧ Pl n (i + k) (wrsF d l).1 ∧ (∀ j, sureB (wrsF d l).1 j = sureB d j) ∧ (∀ j, nowB (wrsF d l).1 j = updW (l.take k) (nowB d) j) ∧
      (((wrsF d l).2 = 0 ∧ k = l.length ∧ (wrsF d l).1.dead = false) ∨ ((wrsF d l).2 = 12 ∧ (wrsF d l).1.dead = true))
  | [], i, d, hp, hd, _ => ⟨0, Nat.le_refl _, hp, fun _ => rfl, fun _ => rfl, .inl ⟨rfl, rfl, hd⟩⟩
  | p :: l, i, d, hp, hd, hw => by
    obtain ⟨h0, h1, h2⟩ := hw p (by simp)
    obtain ⟨a, ha⟩ : ∃ a : Nat, p.1 = (a : Int) := ⟨p.1.toNat, by omega⟩
    have hpl := wrD_pl hp p.1 p.2
    rw [ha] at hpl
    unfold wrsF
    rw [ha]
    rcases write_is hp a p.2 (by omega) h2 with ⟨_, e, hd2, hs, hn⟩ | ⟨_, e, hd2, hs, hn⟩
    · rw [if_pos e]
      obtain ⟨k, g1, g2, g3, g4, g5⟩ := wrs_is l (i + 1) (wrD d a p.2) hpl hd2 (fun q hq => hw q (by simp [hq]))
      refine ⟨k + 1, by simp; exact g1, by rw [show i + (k + 1) = i + 1 + k by omega]; exact g2, fun j => (g3 j).trans (hs j), fun j => ?_, ?_⟩
      · rw [g4 j, List.take_succ_cons, updW_cons]
        refine updW_ext ?_
        rw [hn j, ha]
        by_cases e : j = a
        · rw [if_pos e, if_pos (by omega)]
        · rw [if_neg e, if_neg (by omega)]
      · rcases g5 with ⟨a1, a2, a3⟩ | g5
        · exact .inl ⟨a1, by simp; exact a2, a3⟩
        · exact .inr g5
    · rw [if_neg (by omega)]
      have hpl' : Pl n (i + 0) (wrD d a p.2) := ⟨⟨hpl.good.sure, by
        have e3 : (wrD d a p.2).wet = d.wet := by
          unfold wrD
          split
          · unfold writeD
            rw [if_neg (by simp [*]), deedD_wet]
          · rfl
        rw [e3]; exact hp.good.wet, hpl.good.lo, hpl.good.hi⟩, hpl.rise, hpl.inn⟩
      exact ⟨0, Nat.zero_le _, hpl', hs, fun j => hn j, .inr ⟨e, hd2⟩⟩

theorem flD_len {n i : Nat} {d : DK} (hp : Pl n i d) : Pl n i (flD d) := flD_pl hp

/-- Writes and a flush: all is sure; or the power is gone. -/
theorem wf_is {n i : Nat} {d : DK} {l : List (Int × ByteArray)} (hp : Pl n i d) (hd : d.dead = false) (hw : WsOk n l) :
    ((wfF d l).2 = 0 ∧ (wfF d l).1.dead = false ∧ (wfF d l).1.wet = [] ∧ Pl n 0 (wfF d l).1 ∧ (∀ j, sureB (wfF d l).1 j = updW l (nowB d) j) ∧ ∀ j, nowB (wfF d l).1 j = updW l (nowB d) j) ∨
    ((wfF d l).2 = 12 ∧ (wfF d l).1.dead = true ∧ ∃ k, k ≤ l.length ∧ Pl n (i + k) (wfF d l).1 ∧ (∀ j, sureB (wfF d l).1 j = sureB d j) ∧ ∀ j, nowB (wfF d l).1 j = updW (l.take k) (nowB d) j) := by
  obtain ⟨k, g1, g2, g3, g4, g5⟩ := wrs_is l i d hp hd hw
  unfold wfF
  rcases g5 with ⟨a1, a2, a3⟩ | ⟨a1, a2⟩
  · rw [if_pos a1]
    subst a2
    rw [List.take_length] at g4
    rcases flush_is g2 with ⟨_, b1, b2, b3, b4, b5⟩ | ⟨_, b1, b2, b3, b4, b5⟩
    · refine .inl ⟨b1, b2, b3, ?_, fun j => (b4 j).trans (g4 j), fun j => (b5 j).trans (g4 j)⟩
      have := flD_pl g2
      exact ⟨⟨this.good.sure, by rw [b3]; exact Nat.le_refl _, this.good.lo, this.good.hi⟩, this.rise, this.inn⟩
    · exact .inr ⟨b1, b2, l.length, Nat.le_refl _, flD_pl g2, fun j => (b4 j).trans (g3 j), fun j => by rw [List.take_length]; exact (b5 j).trans (g4 j)⟩
  · rw [if_neg (by omega)]
    exact .inr ⟨a1, a2, k, g1, g2, g3, g4⟩

/-- A disk that may do any number of deeds does them. -/
theorem wrs_left : ∀ (l : List (Int × ByteArray)) {n i : Nat} {d : DK}, Pl n i d → d.dead = false → d.left = -1 → WsOk n l → (wrsF d l).2 = 0 ∧ (wrsF d l).1.dead = false ∧ (wrsF d l).1.left = -1
  | [], _, _, _, _, hd, hl, _ => ⟨rfl, hd, hl⟩
  | p :: l, n, i, d, hp, hd, hl, hw => by
    obtain ⟨h0, h1, h2⟩ := hw p (by simp)
    obtain ⟨b1, b2⟩ := deed_any hd hl
    have hok : wrOk d p.1 p.2 := ⟨h0, by rw [hp.good.sure]; exact h1, by omega⟩
    have e1 : wrE d p.1 p.2 = 0 := by unfold wrE; rw [if_pos hok, if_pos b1]
    have e2 : (wrD d p.1 p.2).dead = false ∧ (wrD d p.1 p.2).left = -1 := by
      unfold wrD writeD
      rw [if_pos hok, if_pos b1, b2]
      exact ⟨hd, hl⟩
    unfold wrsF
    rw [if_pos e1]
    exact wrs_left l (wrD_pl hp p.1 p.2) e2.1 e2.2 (fun q hq => hw q (by simp [hq]))
theorem wf_left {n i : Nat} {d : DK} {l : List (Int × ByteArray)} (hp : Pl n i d) (hd : d.dead = false) (hl : d.left = -1) (hw : WsOk n l) : (wfF d l).2 = 0 ∧ (wfF d l).1.left = -1 := by
  obtain ⟨a1, a2, a3⟩ := wrs_left l hp hd hl hw
  obtain ⟨b1, b2⟩ := deed_any a2 a3
  unfold wfF
  rw [if_pos a1]
  unfold flE flD
  rw [if_pos b1, if_pos b1, b2]
  exact ⟨rfl, a3⟩

end Go.Proofs.YtnbbijpmkhdgpaaGreat.Vlt

/- APlain -/
namespace Go.Proofs.YtnbbijpmkhdgpaaGreat
open Go.RowKit
open Wire (TK twoL numL numV numS inside good markS)
open Crc (sealB opens bur oth bur_opens)

/-- A shape. -/
structure Sh where
  pages : Int
  journal : Int

theorem Sh.eq_iff (x y : Sh) : x = y ↔ x.pages = y.pages ∧ x.journal = y.journal := by
  cases x; cases y; simp

instance : DecidableEq Sh := fun x y => decidable_of_iff _ (Sh.eq_iff x y).symm

def zeroS : Sh := ⟨0, 0⟩
def archK : List UInt8 := [65, 82, 67, 72, 73, 86, 69, 49]
def rightS (x : Sh) : Bool := decide (16 ≤ x.pages) && (decide (x.pages ≤ 512) && (decide (8 ≤ x.journal) && decide (x.journal ≤ 256)))
theorem right_iff {x : Sh} : rightS x = true ↔ 16 ≤ x.pages ∧ x.pages ≤ 512 ∧ 8 ≤ x.journal ∧ x.journal ≤ 256 := by
  unfold rightS
  simp only [Bool.and_eq_true, decide_eq_true_eq]

def zer (k : Nat) : List UInt8 := List.replicate k 0
theorem zer_len (k : Nat) : (zer k).length = k := by simp [zer]
def restL (x : Sh) : List UInt8 := twoL x.pages ++ twoL x.journal
def headL (x : Sh) : List UInt8 := archK ++ restL x
def fillL (x : Sh) : List UInt8 := headL x ++ zer 240
def printL (x : Sh) : List UInt8 := sealB (fillL x)
theorem headL_len (x : Sh) : (headL x).length = 12 := by
  simp only [headL, restL, archK, List.length_append, Wire.twoL_len, List.length_cons, List.length_nil]
theorem fillL_len (x : Sh) : (fillL x).length = 252 := by unfold fillL; rw [List.length_append, headL_len, zer_len]
theorem print_len (x : Sh) : (printL x).length = 256 := by unfold printL; rw [Crc.sealB_len, fillL_len]
theorem print_is (x : Sh) : ∃ z, printL x = archK ++ (twoL x.pages ++ (twoL x.journal ++ z)) := by
  refine ⟨zer 240 ++ Crc.tailB (Crc.crcN (fillL x)), ?_⟩
  unfold printL sealB
  simp only [fillL, headL, restL, List.append_assoc]

/-- The tape behind each number. -/
def g0 (s : List UInt8) : TK := markS archK ⟨s, false⟩
def g1 (s : List UInt8) : TK := numS 2 16 512 (g0 s)
def guessS (s : List UInt8) : Sh := ⟨(numV 2 16 512 (g0 s) : Nat), (numV 2 8 256 (g1 s) : Nat)⟩
def isS (s : List UInt8) : Bool := rightS (guessS s) && (printL (guessS s) == s)
def parseS (s : List UInt8) : Sh := if isS s then guessS s else zeroS

theorem mark_app (m z : List UInt8) : markS m ⟨m ++ z, false⟩ = ⟨z, false⟩ := by
  unfold markS
  rw [Wire.good_app m z m.length rfl, if_pos rfl, Wire.take_app m z _ rfl, Wire.drop_app m z _ rfl]
  simp

theorem guess_print {x : Sh} (h : rightS x = true) : guessS (printL x) = x := by
  obtain ⟨h1, h2, h3, h4⟩ := right_iff.1 h
  obtain ⟨z, hz⟩ := print_is x
  have n1 : (numL (twoL x.pages) : Int) = x.pages := by rw [Wire.numL_twoL]; omega
  have n2 : (numL (twoL x.journal) : Int) = x.journal := by rw [Wire.numL_twoL]; omega
  have a1 := Wire.numS_app (twoL x.pages) (twoL x.journal ++ z) 2 16 512 rfl (by omega) (by omega)
  have b1 := Wire.numV_app (twoL x.pages) (twoL x.journal ++ z) 2 16 512 rfl (by omega) (by omega)
  have b2 := Wire.numV_app (twoL x.journal) z 2 8 256 rfl (by omega) (by omega)
  rw [Sh.eq_iff]
  unfold guessS g1 g0
  rw [hz, mark_app, a1, b1, b2]
  exact ⟨n1, n2⟩
theorem is_print {x : Sh} (h : rightS x = true) : isS (printL x) = true := by
  unfold isS
  rw [guess_print h, h]
  simp
theorem parse_print {x : Sh} (h : rightS x = true) : parseS (printL x) = x := by
  unfold parseS
  rw [is_print h, if_pos rfl, guess_print h]
theorem print_inj {x y : Sh} (hx : rightS x = true) (hy : rightS y = true) (h : printL x = printL y) : x = y := by
  rw [← parse_print hx, ← parse_print hy, h]
theorem is_right {s : List UInt8} (h : isS s = true) : rightS (parseS s) = true ∧ printL (parseS s) = s := by
  unfold parseS
  rw [h, if_pos rfl]
  unfold isS at h
  rw [Bool.and_eq_true, beq_iff_eq] at h
  exact h
theorem is_opens {s : List UInt8} (h : isS s = true) : opens s = true := by
  rw [← (is_right h).2]
  exact Crc.opens_seal _

/-- What the document's answer reads: any two numbers, behind a kind that stands there. -/
theorem is_of {s : List UInt8} {x : Sh} (h : rightS x = true) (hp : printL x = s) : isS s = true ∧ parseS s = x := by
  subst hp
  exact ⟨is_print h, parse_print h⟩

/-- One other byte is told. -/
theorem turned {x : Sh} {k : Nat} {d : UInt8} (hd : d ≠ 0) (h : k < 256) : isS (bur (printL x) k [d] 1) = false := by
  have hb := bur_opens (x := printL x) (k := k) (f := [d]) (i := 1) (Nat.le_refl _) (by omega) (by rw [print_len]; omega) (by rw [print_len]; omega) (Crc.opens_seal (fillL x))
  have ho : oth [d] 1 = true := by simpa [oth] using hd
  rw [ho] at hb
  cases hi : isS (bur (printL x) k [d] 1) with
  | false => rfl
  | true => rw [is_opens hi] at hb; cases hb

end Go.Proofs.YtnbbijpmkhdgpaaGreat

/- Shelf -/
namespace Go.Proofs
open Go.Shelf
def Tryz.lays212_ren : Go.Shelf.Ren := ⟨fun | 212 => 93 | 263 => 116 | 264 => 117 | n => n, fun | 46 => 116 | 51 => 117 | 146 => 150 | 53 => 40 | 148 => 152 | n => n, fun | n => n⟩
theorem Tryz.lays212 : Go.Proofs.Lays.n212 Tryz.prog Tryz.lays212_ren := {
  mixed := by kernel_rfl
  f212 := Tryz.func93.trans (congrArg some (by kernel_rfl))
  f263 := Tryz.func116.trans (congrArg some (by kernel_rfl))
  f264 := Tryz.func117.trans (congrArg some (by kernel_rfl))
  t46 := Tryz.underlying116
  a46 := Tryz.isAgg116
  z46 := Tryz.sizeOf116
  v46 := Tryz.zeroValue116
  t51 := Tryz.underlying117
  a51 := Tryz.isAgg117
  z51 := Tryz.sizeOf117
  v51 := Tryz.zeroValue117
  t53 := Tryz.underlying40
  a53 := Tryz.isAgg40
  z53 := Tryz.sizeOf40
  v53 := Tryz.zeroValue40
  t146 := Tryz.underlying150
  a146 := Tryz.isAgg150
  z146 := Tryz.sizeOf150
  v146 := Tryz.zeroValue150
  t148 := Tryz.underlying152
  a148 := Tryz.isAgg152
  z148 := Tryz.sizeOf152
  v148 := Tryz.zeroValue152 }
open Go.RowKit Go.Lib in
theorem Tryz.bits_Mul (x y : Nat) (hx : x < 18446744073709551616) (hy : y < 18446744073709551616) (w : World) :
    Calls Tryz.prog 93 #[.int .u64 x, .int .u64 y] w fun e w' => e = .returned (.tuple #[.int .u64 ((x * y / 18446744073709551616 : Nat) : Int), .int .u64 ((x * y % 18446744073709551616 : Nat) : Int)]) ∧ w' = w := Any.bits_Mul Tryz.lays212 x y hx hy w
def Tryz.lays105_ren : Go.Shelf.Ren := ⟨fun | 105 => 67 | 212 => 93 | 99 => 98 | 165 => 99 | 166 => 100 | 170 => 101 | 169 => 102 | 263 => 116 | 264 => 117 | 206 => 119 | 240 => 120 | 241 => 121 | 276 => 129 | 277 => 130 | n => n, fun | 9 => 9 | 3 => 3 | 4 => 4 | 20 => 20 | 0 => 0 | 46 => 116 | 109 => 124 | 5 => 5 | 72 => 130 | 76 => 134 | 51 => 117 | 146 => 150 | 53 => 40 | 148 => 152 | 70 => 128 | 37 => 76 | 75 => 133 | 127 => 154 | 164 => 172 | 80 => 137 | n => n, fun | n => n⟩
theorem Tryz.lays105 : Go.Proofs.Lays.n105 Tryz.prog Tryz.lays105_ren := {
  mixed := by kernel_rfl
  f99 := Tryz.func98.trans (congrArg some (by kernel_rfl))
  f105 := Tryz.func67.trans (congrArg some (by kernel_rfl))
  f165 := Tryz.func99.trans (congrArg some (by kernel_rfl))
  f166 := Tryz.func100.trans (congrArg some (by kernel_rfl))
  f169 := Tryz.func102.trans (congrArg some (by kernel_rfl))
  f170 := Tryz.func101.trans (congrArg some (by kernel_rfl))
  f206 := Tryz.func119.trans (congrArg some (by kernel_rfl))
  f212 := Tryz.func93.trans (congrArg some (by kernel_rfl))
  f240 := Tryz.func120.trans (congrArg some (by kernel_rfl))
  f241 := Tryz.func121.trans (congrArg some (by kernel_rfl))
  f263 := Tryz.func116.trans (congrArg some (by kernel_rfl))
  f264 := Tryz.func117.trans (congrArg some (by kernel_rfl))
  f276 := Tryz.func129.trans (congrArg some (by kernel_rfl))
  f277 := Tryz.func130.trans (congrArg some (by kernel_rfl))
  t0 := Tryz.underlying0
  a0 := Tryz.isAgg0
  z0 := Tryz.sizeOf0
  v0 := Tryz.zeroValue0
  t3 := Tryz.underlying3
  a3 := Tryz.isAgg3
  z3 := Tryz.sizeOf3
  v3 := Tryz.zeroValue3
  t4 := Tryz.underlying4
  a4 := Tryz.isAgg4
  z4 := Tryz.sizeOf4
  v4 := Tryz.zeroValue4
  t5 := Tryz.underlying5
  a5 := Tryz.isAgg5
  z5 := Tryz.sizeOf5
  v5 := Tryz.zeroValue5
  t9 := Tryz.underlying9
  a9 := Tryz.isAgg9
  z9 := Tryz.sizeOf9
  v9 := Tryz.zeroValue9
  t20 := Tryz.underlying20
  a20 := Tryz.isAgg20
  z20 := Tryz.sizeOf20
  v20 := Tryz.zeroValue20
  t37 := Tryz.underlying76
  a37 := Tryz.isAgg76
  z37 := Tryz.sizeOf76
  v37 := Tryz.zeroValue76
  t46 := Tryz.underlying116
  a46 := Tryz.isAgg116
  z46 := Tryz.sizeOf116
  v46 := Tryz.zeroValue116
  t51 := Tryz.underlying117
  a51 := Tryz.isAgg117
  z51 := Tryz.sizeOf117
  v51 := Tryz.zeroValue117
  t53 := Tryz.underlying40
  a53 := Tryz.isAgg40
  z53 := Tryz.sizeOf40
  v53 := Tryz.zeroValue40
  t70 := Tryz.underlying128
  a70 := Tryz.isAgg128
  z70 := Tryz.sizeOf128
  v70 := Tryz.zeroValue128
  t72 := Tryz.underlying130
  a72 := Tryz.isAgg130
  z72 := Tryz.sizeOf130
  v72 := Tryz.zeroValue130
  t75 := Tryz.underlying133
  a75 := Tryz.isAgg133
  z75 := Tryz.sizeOf133
  v75 := Tryz.zeroValue133
  t76 := Tryz.underlying134
  a76 := Tryz.isAgg134
  z76 := Tryz.sizeOf134
  v76 := Tryz.zeroValue134
  t109 := Tryz.underlying124
  a109 := Tryz.isAgg124
  z109 := Tryz.sizeOf124
  v109 := Tryz.zeroValue124
  t127 := Tryz.underlying154
  a127 := Tryz.isAgg154
  z127 := Tryz.sizeOf154
  v127 := Tryz.zeroValue154
  t146 := Tryz.underlying150
  a146 := Tryz.isAgg150
  z146 := Tryz.sizeOf150
  v146 := Tryz.zeroValue150
  t148 := Tryz.underlying152
  a148 := Tryz.isAgg152
  z148 := Tryz.sizeOf152
  v148 := Tryz.zeroValue152
  t164 := Tryz.underlying172
  a164 := Tryz.isAgg172
  z164 := Tryz.sizeOf172
  v164 := Tryz.zeroValue172 }
theorem Tryz.Builder_Extra_105 : Builder.Extra Tryz.prog Tryz.lays105_ren := {
  sizeBuilder := by kernel_rfl
  liesBuilder := by kernel_rfl
  t5 := Tryz.underlying5
  a5 := Tryz.isAgg5
  z5 := Tryz.sizeOf5
  v5 := Tryz.zeroValue5
  infoByte := by kernel_rfl
  cellsByte := by kernel_rfl
  sizeByte := by kernel_rfl
  neB5 := by decide }
open Go.RowKit Go.Lib in
theorem Tryz.strings_Repeat (s : ByteArray) (c : Nat) (w : World) (hc : c ≤ 9223372036854775807) (hlen : s.size * c ≤ 140737488355328) :
    Calls Tryz.prog 67 #[.string s, .int .i64 c] w fun e w' => e = .returned (.string ⟨(Lib.repeatL s.data.toList c).toArray⟩) ∧ Below w.heap.size w w' := Any.strings_Repeat Tryz.lays105 Tryz.Builder_Extra_105 s c w hc hlen
def Tryz.laysNm216_ren : Go.Shelf.Ren := ⟨fun | 16 => 89 | n => n, fun | 24 => 25 | 9 => 9 | 4 => 4 | n => n, fun | n => n⟩
theorem Tryz.laysNm216 : Go.Proofs.Lays2.n16 Tryz.prog Tryz.laysNm216_ren := {
  mixed := by kernel_rfl
  f16 := Tryz.func89.trans (congrArg some (by kernel_rfl))
  t4 := Tryz.underlying4
  a4 := Tryz.isAgg4
  z4 := Tryz.sizeOf4
  v4 := Tryz.zeroValue4
  t9 := Tryz.underlying9
  a9 := Tryz.isAgg9
  z9 := Tryz.sizeOf9
  v9 := Tryz.zeroValue9
  t24 := Tryz.underlying25
  a24 := Tryz.isAgg25
  z24 := Tryz.sizeOf25
  v24 := Tryz.zeroValue25
  i9 := by kernel_rfl }
open Go.RowKit Go.Lib in
theorem Tryz.slices_Clone_string (b off n c : Nat) (zs : List ByteArray) (w : World) (hz : n ≤ zs.length) (hbig : n * 16 ≤ 140737488355328) (hc : ∀ j, j < zs.length → w.cell? ⟨b, off + j, none⟩ = some (.string (zs.getD j ByteArray.empty))) :
    Calls Tryz.prog 89 #[.slice (some ⟨b, off, none⟩) n c] w fun e w' => ∃ v', e = .returned v' ∧ w'.ownsRow w.heap.size 9 1 v' n ((zs.take n).map (Value.string)) ∧ v' ≠ .slice none 0 0 ∧ Below w.heap.size w w' := Any.slices_Clone_string Tryz.laysNm216 b off n c zs w hz hbig hc
open Go.RowKit Go.Lib in
theorem Tryz.slices_Clone_string_nil (n c : Nat) (w : World) :
    Calls Tryz.prog 89 #[.slice none n c] w fun e w' => e = .returned (.slice none 0 0) ∧ w' = w := Any.slices_Clone_string_nil Tryz.laysNm216 n c w
open Go.RowKit Go.Lib in
theorem Tryz.slices_Clone_string_zero (a : Addr) (c : Nat) (w : World) :
    Calls Tryz.prog 89 #[.slice (some a) 0 c] w fun e w' => ∃ v', e = .returned v' ∧ w'.ownsRow w.heap.size 9 1 v' 0 [] ∧ v' ≠ .slice none 0 0 ∧ Below w.heap.size w w' := Any.slices_Clone_string_zero Tryz.laysNm216 a c w
end Go.Proofs

/- CRFour -/
namespace Go.Proofs.YtnbbijpmkhdgpaaGreat.Crc
open Go.RowKit

set_option maxRecDepth 100000 in
set_option maxHeartbeats 1000000 in
theorem ref_of (s : ByteArray) (w : World) (hs : s.size ≤ maxLen) :
    Calls Tryz.prog 86 #[.string s] w fun e w' => e = .returned (.int .u32 (crcN s.data.toList : Nat)) ∧ w = w' := by
  unfold maxLen at hs
  go_enter Tryz.func86, Tryz.ntmps86
  go_wp2
  go_loop [3, 4] (fun n i => ∃ k : Nat, k ≤ s.size ∧ i = .int .i64 k ∧ n = .int .u32 (reg 4294967295 (s.data.toList.take k) : Nat)) (fun _ i => s.size - (intOf i).toNat)
  case atStart => exact ⟨0, Nat.zero_le _, rfl, rfl⟩
  case round =>
    obtain ⟨k, hk, rfl, rfl⟩ := hrel
    have hlt := reg_lt (n := 4294967295) (s.data.toList.take k) (by omega)
    by_cases h : k < s.size
    · have HS := Lib.hid (reg_snoc 4294967295 s k h)
      have hx := xor_byte (reg 4294967295 (s.data.toList.take k)) s[k] hlt
      have hx2 : reg 4294967295 (s.data.toList.take k) ^^^ s[k].toNat < 4294967296 := Nat.xor_lt_two_pow (n := 32) hlt (by have := s[k].toNat_lt; omega)
      generalize reg 4294967295 (s.data.toList.take k) = x at *
      go_wp2
      go_loop [3, 5] (fun m i => ∃ j : Nat, j ≤ 8 ∧ i = .int .i64 j ∧ m = .int .u32 (dnK j (x ^^^ s[k].toNat) : Nat)) (fun _ i => 8 - (intOf i).toNat)
      case atStart => exact ⟨0, Nat.zero_le _, rfl, rfl⟩
      case round =>
        obtain ⟨j, hj, rfl, rfl⟩ := hrel
        have hl2 := dnK_lt j hx2
        clear hx
        by_cases h8 : j < 8
        · have HT : Hid (dnK (j + 1) (x ^^^ s[k].toNat) = dn (dnK j (x ^^^ s[k].toNat))) := dnK_succ j _
          go_wp2
          all_goals
            go_round
            case rel => exact ⟨j + 1, by omega, by go_num, by rw [HT.out]; first | rw [dn_odd hl2 (by assumption)] | rw [dn_even hl2 (by assumption)]⟩
            case measure => simp [intOf]; omega
        · obtain rfl : j = 8 := by omega
          go_wp2
          go_round
          case rel => exact ⟨k + 1, by omega, by go_num, by rw [HS.out]⟩
          case measure => simp [intOf]; omega
    · go_wp2
      go_ret
      exact ⟨ret_int (by rw [not_reg s k (by omega)]), rfl⟩
end Go.Proofs.YtnbbijpmkhdgpaaGreat.Crc

/- CRSeal -/
namespace Go.Proofs.YtnbbijpmkhdgpaaGreat.Crc
open Go.RowKit

set_option maxRecDepth 100000 in
set_option maxHeartbeats 1000000 in
theorem ref_seal (s : ByteArray) (w : World) (hs : s.size ≤ 9223372036854775000) :
    Calls Tryz.prog 48 #[.string s] w fun e w' => e = .returned (.string (strB (sealB s.data.toList))) ∧ Below w.heap.size w w' := by
  have hlt := crcN_lt s.data.toList
  have hcv := conv4 (crcN s.data.toList) hlt
  go_enter Tryz.func48, Tryz.ntmps48
  go_wp2_with fail
  (with_reducible refine (ref_of s _ (by unfold maxLen; omega)).mono ?_)
  rintro e w1 ⟨rfl, rfl⟩
  have hz : ¬ 9223372036854775807 < s.size + (strB (tailB (crcN s.data.toList))).size := by rw [strB_size, tailB_len]; omega
  go_wp2_with fail
  go_ret
  exact ⟨ret_str (str_seal s), (Below.refl _ _).alloc (Nat.le_refl _) _⟩

end Go.Proofs.YtnbbijpmkhdgpaaGreat.Crc

/- WRWr -/
namespace Go.Proofs.YtnbbijpmkhdgpaaGreat.Wire
open Go.RowKit

set_option maxRecDepth 100000 in
set_option maxHeartbeats 1000000 in
theorem rtwo_calls (n : Int) (w : World) :
    Calls Tryz.prog 47 #[.int .i64 n] w fun e w' => e = .returned (.string (strB (twoL n))) ∧ Below w.heap.size w w' := by
  have hcv := conv2 n
  go_enter Tryz.func47, Tryz.ntmps47
  go_wp2_with fail
  go_ret
  exact ⟨rfl, (Below.refl _ _).alloc (Nat.le_refl _) _⟩

set_option maxRecDepth 100000 in
set_option maxHeartbeats 1000000 in
theorem rfour_calls (n : Int) (w : World) :
    Calls Tryz.prog 49 #[.int .i64 n] w fun e w' => e = .returned (.string (strB (fourL n))) ∧ Below w.heap.size w w' := by
  have hz : ¬ 9223372036854775807 < (strB (twoL (n / 65536))).size + (strB (twoL n)).size := by rw [strB_size, strB_size, twoL_len, twoL_len]; omega
  go_enter Tryz.func49, Tryz.ntmps49
  go_wp2_with fail
  (with_reducible refine (rtwo_calls (n / 65536) _).mono ?_)
  rintro e w1 ⟨rfl, hB1⟩
  go_wp2_with fail
  (with_reducible refine (rtwo_calls n _).mono ?_)
  rintro e w2 ⟨rfl, hB2⟩
  go_wp2_with fail
  go_ret
  exact ⟨ret_str (two_two n), below_two hB1 hB2⟩

end Go.Proofs.YtnbbijpmkhdgpaaGreat.Wire

/- WRTape -/
namespace Go.Proofs.YtnbbijpmkhdgpaaGreat.Wire
open Go.RowKit

theorem info5 : (Tryz.prog.info? 5).map (fun i => (i.zero, i.size, i.bytes)) = some (some (.int .u8 0), 1, 1) := by kernel_rfl

/-- Noughts. -/
def zeros (k : Nat) : List UInt8 := List.replicate k 0

theorem make_zeros (k : Nat) (hk : k ≤ 100000) (W : World) : (Instr.makeSlice 76 (.int .i64 (k : Nat)) (.int .i64 (k : Nat))).run Tryz.prog W = .ok (.slice (some ⟨W.heap.size, 0, none⟩) k k) (W.alloc (.cells (madeCells (Value.cells (.int .u8 0)) k) 5)) := by
  obtain ⟨i0, hi, hz0, hz1, hz2⟩ := info_parts info5
  have := run_make (P := Tryz.prog) W 76 5 i0 (.int .u8 0) Tryz.underlying76 hi hz0 .i64 .i64 (k : Nat) (k : Nat) (by omega) (by omega) (by rw [hz2]; omega) (by omega)
  rw [this, hz1]
  simp

theorem conv_zeros (k : Nat) (W : World) : (convert 76 9 (.slice (some ⟨W.heap.size, 0, none⟩) k k)).run Tryz.prog (W.alloc (.cells (madeCells #[.int .u8 0] k) 5)) = .ok (.string (strB (zeros k))) (W.alloc (.cells (madeCells #[.int .u8 0] k) 5)) := by
  have h0 := run_convert_bytes_back (P := Tryz.prog) (W.alloc (.cells (madeCells #[.int .u8 0] k) 5)) 76 9 5 ⟨W.heap.size, 0, none⟩ k (List.replicate k 0) Tryz.underlying76 Tryz.underlying5 Tryz.underlying9 ?_
  · simpa [strB, zeros] using h0
  · intro j hj
    have hj' : j < k := by simpa using hj
    rw [Addr.add_lit, cell_of_row _ _ _ _ _ _ (heap_alloc_new W _)]
    simp [madeCells, hj', Nat.mod_one]

set_option maxRecDepth 100000 in
set_option maxHeartbeats 1000000 in
theorem rtake_bad (b k : Nat) (l : List UInt8) (w : World) (ht : TP 139 w b ⟨l, true⟩) (hk : k ≤ 100000) :
    Calls Tryz.prog 122 #[.pointer (some ⟨b, 0, none⟩), .int .i64 (k : Nat)] w fun e w' => e = .returned (.string (strB (zeros k))) ∧ TP 139 w' b ⟨l, true⟩ ∧ But b w w' := by
  have c1 := ht.bad
  have f1 := ht.free 1
  have hmk := make_zeros k hk
  have hcv := conv_zeros k (w.setCell ⟨b, 1, none⟩ (.bool true))
  rw [show (w.setCell ⟨b, 1, none⟩ (.bool true)).heap.size = w.heap.size by simp] at hcv
  have HT := Lib.hid (fun o => (ht.setBad true).alloc o)
  clear ht
  go_enter Tryz.func122, Tryz.ntmps122
  go_wp2_with fail
  go_ret
  exact ⟨rfl, HT.out _, ((But.refl _ _).setCell _ _).alloc _⟩

set_option maxRecDepth 100000 in
set_option maxHeartbeats 1000000 in
theorem rtake_short (b k : Nat) (l : List UInt8) (w : World) (ht : TP 139 w b ⟨l, false⟩) (hl : l.length < k) (hk : k ≤ 100000) :
    Calls Tryz.prog 122 #[.pointer (some ⟨b, 0, none⟩), .int .i64 (k : Nat)] w fun e w' => e = .returned (.string (strB (zeros k))) ∧ TP 139 w' b ⟨l, true⟩ ∧ But b w w' := by
  have c0 := ht.rest
  have c1 := ht.bad
  have f1 := ht.free 1
  have g : ((strB l).size : Int) < k := by rw [strB_size]; omega
  have hmk := make_zeros k hk
  have hcv := conv_zeros k (w.setCell ⟨b, 1, none⟩ (.bool true))
  rw [show (w.setCell ⟨b, 1, none⟩ (.bool true)).heap.size = w.heap.size by simp] at hcv
  have HT := Lib.hid (fun o => (ht.setBad true).alloc o)
  clear ht hl
  go_enter Tryz.func122, Tryz.ntmps122
  go_wp2_with fail
  go_ret
  exact ⟨rfl, HT.out _, ((But.refl _ _).setCell _ _).alloc _⟩

set_option maxRecDepth 100000 in
set_option maxHeartbeats 1000000 in
theorem rtake_good (b k : Nat) (l : List UInt8) (w : World) (ht : TP 139 w b ⟨l, false⟩) (hk : k ≤ l.length) :
    Calls Tryz.prog 122 #[.pointer (some ⟨b, 0, none⟩), .int .i64 (k : Nat)] w fun e w' => e = .returned (.string (strB (l.take k))) ∧ TP 139 w' b ⟨l.drop k, false⟩ ∧ But b w w' := by
  have c0 := ht.rest
  have c1 := ht.bad
  have f0 := ht.free 0
  have g : ¬ ((strB l).size : Int) < k := by rw [strB_size]; omega
  have g2 : k ≤ (strB l).size := by rw [strB_size]; omega
  have E1 := Lib.hid (take_ext l k)
  have E2 := Lib.hid (drop_ext l k)
  have HT := Lib.hid (ht.setRest (l.drop k))
  clear ht hk
  go_enter Tryz.func122, Tryz.ntmps122
  go_wp2_with fail
  go_ret
  exact ⟨ret_str E1.out, by rw [E2.out]; exact HT.out, (But.refl _ _).setCell _ _⟩

theorem rtake_no (b k : Nat) (t : TK) (w : World) (ht : TP 139 w b t) (hg : good k t = false) (hk : k ≤ 100000) :
    Calls Tryz.prog 122 #[.pointer (some ⟨b, 0, none⟩), .int .i64 (k : Nat)] w fun e w' => e = .returned (.string (strB (zeros k))) ∧ TP 139 w' b ⟨t.rest, true⟩ ∧ But b w w' := by
  obtain ⟨l, bad⟩ := t
  cases bad with
  | true => exact rtake_bad b k l w ht hk
  | false => exact rtake_short b k l w ht (by simpa [good] using hg) hk

section
variable (b : Nat) (w : World)
theorem rtake2_no (t : TK) (ht : TP 139 w b t) (hg : good 2 t = false) :
    Calls Tryz.prog 122 #[.pointer (some ⟨b, 0, none⟩), .int .i64 2] w fun e w' => e = .returned (.string ⟨#[0, 0]⟩) ∧ TP 139 w' b ⟨t.rest, true⟩ ∧ But b w w' := rtake_no b 2 t w ht hg (by omega)
theorem rtake4_no (t : TK) (ht : TP 139 w b t) (hg : good 4 t = false) :
    Calls Tryz.prog 122 #[.pointer (some ⟨b, 0, none⟩), .int .i64 4] w fun e w' => e = .returned (.string ⟨#[0, 0, 0, 0]⟩) ∧ TP 139 w' b ⟨t.rest, true⟩ ∧ But b w w' := rtake_no b 4 t w ht hg (by omega)
theorem rtake2_yes (x y : UInt8) (r : List UInt8) (ht : TP 139 w b ⟨x :: y :: r, false⟩) :
    Calls Tryz.prog 122 #[.pointer (some ⟨b, 0, none⟩), .int .i64 2] w fun e w' => e = .returned (.string ⟨#[x, y]⟩) ∧ TP 139 w' b ⟨r, false⟩ ∧ But b w w' := rtake_good b 2 _ w ht (by simp)
theorem rtake4_yes (x y z u : UInt8) (r : List UInt8) (ht : TP 139 w b ⟨x :: y :: z :: u :: r, false⟩) :
    Calls Tryz.prog 122 #[.pointer (some ⟨b, 0, none⟩), .int .i64 4] w fun e w' => e = .returned (.string ⟨#[x, y, z, u]⟩) ∧ TP 139 w' b ⟨r, false⟩ ∧ But b w w' := rtake_good b 4 _ w ht (by simp)
end

theorem TP.drewN {ty : TypeId} {w : World} {b : Nat} {t : TK} (h : TP ty w b t) (n : Nat) : TP ty (w.drewN n) b t := h
theorem But.drewN {b : Nat} {u v : World} (h : But b u v) (n : Nat) : But b u (v.drewN n) := ⟨h.os, h.tape, h.output, h.size, h.block⟩

theorem ret_i {x y : Int} (h : y = x) : Ending.returned (.int .i64 x) = .returned (.int .i64 y) := by rw [h]

set_option maxRecDepth 100000 in
set_option maxHeartbeats 1600000 in
theorem rrtwo_no (b : Nat) (low high : Int) (t : TK) (w : World) (ht : TP 139 w b t) (hg : good 2 t = false) :
    Calls Tryz.prog 103 #[.pointer (some ⟨b, 0, none⟩), .int .i64 low, .int .i64 high] w fun e w' => e = .returned (.int .i64 0) ∧ TP 139 w' b ⟨t.rest, true⟩ ∧ But b w w' := by
  go_enter Tryz.func103, Tryz.ntmps103
  go_wp2_with fail
  (with_reducible refine (rtake2_no b _ t ht hg).mono ?_)
  rintro e w1 ⟨rfl, T1, B1⟩
  have c1 := T1.bad
  have f1 := T1.free 1
  have HT := Lib.hid T1
  have HB := Lib.hid B1
  clear T1 B1
  go_wp2_with fail
  go_quiet (fail)
  go_wp2_with fail
  go_ret
  exact ⟨rfl, (TP.drewN HT.out _).setBad _, (But.drewN HB.out _).setCell _ _⟩

set_option maxRecDepth 100000 in
set_option maxHeartbeats 1600000 in
theorem rrfour_no (b : Nat) (low high : Int) (t : TK) (w : World) (ht : TP 139 w b t) (hg : good 4 t = false) :
    Calls Tryz.prog 123 #[.pointer (some ⟨b, 0, none⟩), .int .i64 low, .int .i64 high] w fun e w' => e = .returned (.int .i64 0) ∧ TP 139 w' b ⟨t.rest, true⟩ ∧ But b w w' := by
  go_enter Tryz.func123, Tryz.ntmps123
  go_wp2_with fail
  (with_reducible refine (rtake4_no b _ t ht hg).mono ?_)
  rintro e w1 ⟨rfl, T1, B1⟩
  have c1 := T1.bad
  have f1 := T1.free 1
  have HT := Lib.hid T1
  have HB := Lib.hid B1
  clear T1 B1
  go_wp2_with fail
  go_quiet (fail)
  go_wp2_with fail
  go_ret
  exact ⟨rfl, (TP.drewN HT.out _).setBad _, (But.drewN HB.out _).setCell _ _⟩

set_option maxRecDepth 100000 in
set_option maxHeartbeats 1600000 in
theorem rrtwo_yes (b : Nat) (low high : Int) (x y : UInt8) (r : List UInt8) (w : World) (ht : TP 139 w b ⟨x :: y :: r, false⟩) :
    Calls Tryz.prog 103 #[.pointer (some ⟨b, 0, none⟩), .int .i64 low, .int .i64 high] w fun e w' => e = .returned (.int .i64 (numV 2 low high ⟨x :: y :: r, false⟩ : Nat)) ∧ TP 139 w' b (numS 2 low high ⟨x :: y :: r, false⟩) ∧ But b w w' := by
  have hi : inside 2 low high ⟨x :: y :: r, false⟩ = (decide (low ≤ (numL [x, y] : Int)) && decide ((numL [x, y] : Int) ≤ high)) := by
    unfold inside
    rw [good_yes (by simp), Bool.true_and]
    rfl
  have HV : Hid (∀ p, p = inside 2 low high ⟨x :: y :: r, false⟩ → numS 2 low high ⟨x :: y :: r, false⟩ = ⟨r, !p⟩) := by
    intro p hp
    subst hp
    unfold numS
    rw [good_yes (by simp), if_pos rfl]
    rfl
  have HN : Hid (numV 2 low high ⟨x :: y :: r, false⟩ = if inside 2 low high ⟨x :: y :: r, false⟩ then numL [x, y] else 0) := rfl
  have hnum : (numL [x, y] : Int) = (x.toNat : Int) * 256 + (y.toNat : Int) := by rw [numL_two]; omega
  rw [hnum] at hi
  have HI := Lib.hid hi
  have HNUM := Lib.hid hnum
  have hx : x.toNat < 256 := x.toNat_lt
  have hy : y.toNat < 256 := y.toNat_lt
  have a0 : ∀ h', (⟨#[x, y]⟩ : ByteArray)[0]'h' = x := fun _ => rfl
  have a1 : ∀ h', (⟨#[x, y]⟩ : ByteArray)[1]'h' = y := fun _ => rfl
  clear hnum hi
  go_enter Tryz.func103, Tryz.ntmps103
  go_wp2_with fail
  (with_reducible refine (rtake2_yes b _ x y r ht).mono ?_)
  rintro e w1 ⟨rfl, T1, B1⟩
  have c1 := T1.bad
  have f1 := T1.free 1
  have HT := Lib.hid T1
  have HB := Lib.hid B1
  clear T1 B1 ht
  go_wp2_with fail
  go_quiet (fail)
  by_cases h1 : (x.toNat : Int) * 256 + (y.toNat : Int) < low
  · have HF := Lib.hid (HI.out.trans (by rw [decide_eq_false (by omega), Bool.false_and] : _ = false))
    go_wp2_with fail
    go_ret
    exact ⟨ret_i (by rw [HN.out, HF.out]; rfl), by rw [HV.out false HF.out.symm]; exact (TP.drewN HT.out _).setBad _, (But.drewN HB.out _).setCell _ _⟩
  · by_cases h2 : high < (x.toNat : Int) * 256 + (y.toNat : Int)
    · have HF := Lib.hid (HI.out.trans (by rw [decide_eq_false (p := (x.toNat : Int) * 256 + (y.toNat : Int) ≤ high) (by omega), Bool.and_false] : _ = false))
      go_wp2_with fail
      go_ret
      exact ⟨ret_i (by rw [HN.out, HF.out]; rfl), by rw [HV.out false HF.out.symm]; exact (TP.drewN HT.out _).setBad _, (But.drewN HB.out _).setCell _ _⟩
    · have HF := Lib.hid (HI.out.trans (by rw [decide_eq_true (by omega), decide_eq_true (by omega)]; rfl : _ = true))
      go_wp2_with fail
      go_ret
      exact ⟨ret_i (by rw [HN.out, HF.out, if_pos rfl, HNUM.out]), by rw [HV.out true HF.out.symm]; exact TP.drewN HT.out _, But.drewN HB.out _⟩

set_option maxRecDepth 100000 in
set_option maxHeartbeats 1600000 in
theorem rrfour_yes (b : Nat) (low high : Int) (x y z u : UInt8) (r : List UInt8) (w : World) (ht : TP 139 w b ⟨x :: y :: z :: u :: r, false⟩) :
    Calls Tryz.prog 123 #[.pointer (some ⟨b, 0, none⟩), .int .i64 low, .int .i64 high] w fun e w' => e = .returned (.int .i64 (numV 4 low high ⟨x :: y :: z :: u :: r, false⟩ : Nat)) ∧ TP 139 w' b (numS 4 low high ⟨x :: y :: z :: u :: r, false⟩) ∧ But b w w' := by
  have hi : inside 4 low high ⟨x :: y :: z :: u :: r, false⟩ = (decide (low ≤ (numL [x, y, z, u] : Int)) && decide ((numL [x, y, z, u] : Int) ≤ high)) := by
    unfold inside
    rw [good_yes (by simp), Bool.true_and]
    rfl
  have HV : Hid (∀ p, p = inside 4 low high ⟨x :: y :: z :: u :: r, false⟩ → numS 4 low high ⟨x :: y :: z :: u :: r, false⟩ = ⟨r, !p⟩) := by
    intro p hp
    subst hp
    unfold numS
    rw [good_yes (by simp), if_pos rfl]
    rfl
  have HN : Hid (numV 4 low high ⟨x :: y :: z :: u :: r, false⟩ = if inside 4 low high ⟨x :: y :: z :: u :: r, false⟩ then numL [x, y, z, u] else 0) := rfl
  have hnum : (numL [x, y, z, u] : Int) = (x.toNat : Int) * 16777216 + (y.toNat : Int) * 65536 + (z.toNat : Int) * 256 + (u.toNat : Int) := by rw [numL_four]; omega
  rw [hnum] at hi
  have HI := Lib.hid hi
  have HNUM := Lib.hid hnum
  have hx : x.toNat < 256 := x.toNat_lt
  have hy : y.toNat < 256 := y.toNat_lt
  have hz : z.toNat < 256 := z.toNat_lt
  have hu : u.toNat < 256 := u.toNat_lt
  have a0 : ∀ h', (⟨#[x, y, z, u]⟩ : ByteArray)[0]'h' = x := fun _ => rfl
  have a1 : ∀ h', (⟨#[x, y, z, u]⟩ : ByteArray)[1]'h' = y := fun _ => rfl
  have a2 : ∀ h', (⟨#[x, y, z, u]⟩ : ByteArray)[2]'h' = z := fun _ => rfl
  have a3 : ∀ h', (⟨#[x, y, z, u]⟩ : ByteArray)[3]'h' = u := fun _ => rfl
  clear hnum hi
  go_enter Tryz.func123, Tryz.ntmps123
  go_wp2_with fail
  (with_reducible refine (rtake4_yes b _ x y z u r ht).mono ?_)
  rintro e w1 ⟨rfl, T1, B1⟩
  have c1 := T1.bad
  have f1 := T1.free 1
  have HT := Lib.hid T1
  have HB := Lib.hid B1
  clear T1 B1 ht
  go_wp2_with fail
  go_quiet (fail)
  by_cases h1 : (x.toNat : Int) * 16777216 + (y.toNat : Int) * 65536 + (z.toNat : Int) * 256 + (u.toNat : Int) < low
  · have HF := Lib.hid (HI.out.trans (by rw [decide_eq_false (by omega), Bool.false_and] : _ = false))
    go_wp2_with fail
    go_ret
    exact ⟨ret_i (by rw [HN.out, HF.out]; rfl), by rw [HV.out false HF.out.symm]; exact (TP.drewN HT.out _).setBad _, (But.drewN HB.out _).setCell _ _⟩
  · by_cases h2 : high < (x.toNat : Int) * 16777216 + (y.toNat : Int) * 65536 + (z.toNat : Int) * 256 + (u.toNat : Int)
    · have HF := Lib.hid (HI.out.trans (by rw [decide_eq_false (p := (x.toNat : Int) * 16777216 + (y.toNat : Int) * 65536 + (z.toNat : Int) * 256 + (u.toNat : Int) ≤ high) (by omega), Bool.and_false] : _ = false))
      go_wp2_with fail
      go_ret
      exact ⟨ret_i (by rw [HN.out, HF.out]; rfl), by rw [HV.out false HF.out.symm]; exact (TP.drewN HT.out _).setBad _, (But.drewN HB.out _).setCell _ _⟩
    · have HF := Lib.hid (HI.out.trans (by rw [decide_eq_true (by omega), decide_eq_true (by omega)]; rfl : _ = true))
      go_wp2_with fail
      go_ret
      exact ⟨ret_i (by rw [HN.out, HF.out, if_pos rfl, HNUM.out]), by rw [HV.out true HF.out.symm]; exact TP.drewN HT.out _, But.drewN HB.out _⟩

theorem rrtwo_calls (b : Nat) (low high : Int) (t : TK) (w : World) (ht : TP 139 w b t) :
    Calls Tryz.prog 103 #[.pointer (some ⟨b, 0, none⟩), .int .i64 low, .int .i64 high] w fun e w' => e = .returned (.int .i64 (numV 2 low high t : Nat)) ∧ TP 139 w' b (numS 2 low high t) ∧ But b w w' := by
  cases hg : good 2 t with
  | false =>
    have hi : inside 2 low high t = false := by unfold inside; rw [hg]; rfl
    have e1 : numV 2 low high t = 0 := by unfold numV; rw [hi]; rfl
    have e2 : numS 2 low high t = ⟨t.rest, true⟩ := by unfold numS; rw [hg]; rfl
    rw [e1, e2]
    exact rrtwo_no b low high t w ht hg
  | true =>
    obtain ⟨l, bad⟩ := t
    cases bad with
    | true => cases hg
    | false =>
      match l, hg, ht with
      | x :: y :: r, _, ht => exact rrtwo_yes b low high x y r w ht

theorem rrfour_calls (b : Nat) (low high : Int) (t : TK) (w : World) (ht : TP 139 w b t) :
    Calls Tryz.prog 123 #[.pointer (some ⟨b, 0, none⟩), .int .i64 low, .int .i64 high] w fun e w' => e = .returned (.int .i64 (numV 4 low high t : Nat)) ∧ TP 139 w' b (numS 4 low high t) ∧ But b w w' := by
  cases hg : good 4 t with
  | false =>
    have hi : inside 4 low high t = false := by unfold inside; rw [hg]; rfl
    have e1 : numV 4 low high t = 0 := by unfold numV; rw [hi]; rfl
    have e2 : numS 4 low high t = ⟨t.rest, true⟩ := by unfold numS; rw [hg]; rfl
    rw [e1, e2]
    exact rrfour_no b low high t w ht hg
  | true =>
    obtain ⟨l, bad⟩ := t
    cases bad with
    | true => cases hg
    | false =>
      match l, hg, ht with
      | x :: y :: z :: u :: r, _, ht => exact rrfour_yes b low high x y z u r w ht

end Go.Proofs.YtnbbijpmkhdgpaaGreat.Wire

/- NStr -/
namespace Go.Proofs.YtnbbijpmkhdgpaaGreat.Nm
open Go.RowKit

theorem begins_of (l m : List UInt8) (h : ((strB m).size : Int) ≤ (strB l).size) : (((strB l).extract 0 (strB m).size).toList == (strB m).toList) = begins l m := by
  rw [strB_size, strB_size] at h
  rw [strB_size, strB_extract, strB_toList, strB_toList]
  unfold begins
  rw [decide_eq_true (by omega : m.length ≤ l.length), Bool.true_and]
  rfl
theorem begins_not (l m : List UInt8) (h : ¬ ((strB m).size : Int) ≤ (strB l).size) : begins l m = false := by
  rw [strB_size, strB_size] at h
  unfold begins
  rw [decide_eq_false (by omega : ¬ m.length ≤ l.length), Bool.false_and]

set_option maxRecDepth 100000 in
set_option maxHeartbeats 1000000 in
theorem slPrefix_calls (l m : List UInt8) (w : World) :
    Calls Tryz.prog 119 #[.string (strB l), .string (strB m)] w fun e w' => e = .returned (.bool (begins l m)) ∧ w' = w := by
  by_cases h : ((strB m).size : Int) ≤ (strB l).size
  · have hb := begins_of l m h
    go_enter Tryz.func119, Tryz.ntmps119
    go_wp2_with fail
    go_ret
    exact ⟨rfl, rfl⟩
  · rw [begins_not l m h]
    go_enter Tryz.func119, Tryz.ntmps119
    go_wp2_with fail
    go_ret
    exact ⟨rfl, rfl⟩

set_option maxRecDepth 100000 in
set_option maxHeartbeats 1000000 in
theorem prefix_calls (l m : List UInt8) (w : World) :
    Calls Tryz.prog 98 #[.string (strB l), .string (strB m)] w fun e w' => e = .returned (.bool (begins l m)) ∧ w' = w := by
  go_enter Tryz.func98, Tryz.ntmps98
  go_wp2_with fail
  (with_reducible refine (slPrefix_calls l m _).mono ?_)
  rintro e w1 ⟨rfl, rfl⟩
  go_wp2_with fail
  go_ret
  exact ⟨rfl, rfl⟩

end Go.Proofs.YtnbbijpmkhdgpaaGreat.Nm
