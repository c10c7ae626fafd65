/- Contracts and plain mathematics that the statement's proof wants: no statement is proved here, nothing is assumed. -/
import Derived.WalkKit
/- DPlain -/
namespace Go.Proofs.YtgeiemccjionpaaGreat.Dsk
open Go.RowKit

/-- What a disk says. -/
structure DK where
  sure : List ByteArray
  wet : List (Int × ByteArray)
  dead : Bool
  left : Int

def deedD (d : DK) : DK := if d.dead = true ∨ d.left = 0 then { d with dead := true } else if 0 < d.left then { d with left := d.left - 1 } else d

def deedB (d : DK) : Bool := !(d.dead || d.left == 0)

/-- A sector: these bytes, and noughts. -/
def padB (s : ByteArray) : ByteArray := ⟨(s.data.toList ++ List.replicate (256 - s.size) 0).toArray⟩

theorem padB_eq (s : ByteArray) (k : Nat) (hk : k = 256 - s.size) : s ++ (⟨(List.replicate k (0 : UInt8)).toArray⟩ : ByteArray) = padB s := by
  subst hk
  have : s = ⟨s.data.toList.toArray⟩ := by simp
  unfold padB
  conv => lhs; rw [this]
  rw [ByteArray.mk_append_mk]

/-- A new disk of n sectors. -/
def newD (n : Nat) : DK := ⟨List.replicate n (padB ⟨#[]⟩), [], false, -1⟩

abbrev Wt := Int × ByteArray

/-- One round: what is gathered, and whether the new one is placed. -/
def stepW (p : Wt) (st : List Wt × Bool) (o : Wt) : List Wt × Bool :=
  let st1 := if st.2 = false ∧ p.1 < o.1 then (st.1 ++ [p], true) else st
  if o.1 = p.1 then st1 else (st1.1 ++ [o], st1.2)

def withSt (p : Wt) (l : List Wt) : List Wt × Bool := l.foldl (stepW p) ([], false)

def withF (p : Wt) (l : List Wt) : List Wt := if (withSt p l).2 = true then (withSt p l).1 else (withSt p l).1 ++ [p]

theorem withSt_snoc (p : Wt) (l : List Wt) (o : Wt) : withSt p (l ++ [o]) = stepW p (withSt p l) o := by simp [withSt]

theorem stepW_two (p o : Wt) (acc : List Wt) (h : p.1 < o.1) : stepW p (acc, false) o = (acc ++ [p] ++ [o], true) := by
  have h2 : ¬ o.1 = p.1 := by omega
  simp [stepW, h, h2]

theorem stepW_one (p o : Wt) (acc : List Wt) (h : ¬ p.1 < o.1) (h2 : ¬ o.1 = p.1) : stepW p (acc, false) o = (acc ++ [o], false) := by
  simp [stepW, h, h2]

def slack : Bool → Nat | true => 0 | false => 1

theorem stepW_le (p o : Wt) (st : List Wt × Bool) : (stepW p st o).1.length + slack (stepW p st o).2 ≤ st.1.length + slack st.2 + 1 := by
  unfold stepW
  obtain ⟨l, b⟩ := st
  by_cases h1 : b = false ∧ p.1 < o.1
  · by_cases h2 : o.1 = p.1
    · omega
    · simp [h1.1, h1.2, h2, slack]
  · by_cases h2 : o.1 = p.1
    · simp [h2]
    · cases b with
      | true => simp [h2, slack]
      | false => simp at h1; simp [h2]; rw [if_neg (by omega)]; simp [slack]

theorem fold_le (p : Wt) : ∀ (l : List Wt) (st : List Wt × Bool), (l.foldl (stepW p) st).1.length + slack (l.foldl (stepW p) st).2 ≤ st.1.length + slack st.2 + l.length
  | [], st => by simp
  | o :: l, st => by
    have h1 := fold_le p l (stepW p st o)
    have h2 := stepW_le p o st
    simp only [List.foldl_cons, List.length_cons]
    omega

theorem withSt_le (p : Wt) (l : List Wt) : (withSt p l).1.length + slack (withSt p l).2 ≤ l.length + 1 := by
  have := fold_le p l ([], false)
  have e : slack false = 1 := rfl
  simp only [List.length_nil, e] at this
  unfold withSt
  omega

/-- Sector o.1 is o.2, if the bit says so, and there is that sector. -/
def setStep (stay k : Nat) (o : Wt) (s : List ByteArray) : List ByteArray := if stay.testBit (k % 64) = true ∧ 0 ≤ o.1 ∧ o.1 < s.length then s.set o.1.toNat o.2 else s

/-- The sectors behind the first k of those that are to be something. -/
def settleK (stay : Nat) (wet : List Wt) (sure : List ByteArray) : Nat → List ByteArray
  | 0 => sure
  | k + 1 => match wet[k]? with
    | some o => setStep stay k o (settleK stay wet sure k)
    | none => settleK stay wet sure k

def settleF (stay : Nat) (wet : List Wt) (sure : List ByteArray) : List ByteArray := settleK stay wet sure wet.length

theorem setStep_length (stay k : Nat) (o : Wt) (s : List ByteArray) : (setStep stay k o s).length = s.length := by
  unfold setStep; split <;> simp

theorem settleK_length (stay : Nat) (wet : List Wt) (sure : List ByteArray) : ∀ k, (settleK stay wet sure k).length = sure.length
  | 0 => rfl
  | k + 1 => by
    unfold settleK
    split
    · rw [setStep_length, settleK_length stay wet sure k]
    · exact settleK_length stay wet sure k

theorem bit_test (stay j : Nat) (h : stay < 18446744073709551616) : bits .and .u64 ((stay : Int) / 2 ^ j) 1 = if stay.testBit j = true then 1 else 0 := by
  have e : (stay : Int) / 2 ^ j = ((stay / 2 ^ j : Nat) : Int) := by
    rw [Int.natCast_ediv, Int.natCast_pow]; rfl
  have hlt : stay / 2 ^ j < 18446744073709551616 := Nat.lt_of_le_of_lt (Nat.div_le_self _ _) h
  have h1 := bits_and_u64_nat (stay / 2 ^ j) 1 hlt (by omega)
  rw [e, show (1 : Int) = ((1 : Nat) : Int) from rfl, h1, Nat.and_one_is_mod, Nat.testBit_eq_decide_div_mod_eq]
  by_cases hh : stay / 2 ^ j % 2 = 1
  · simp [hh]
  · have h2 : stay / 2 ^ j % 2 = 0 := by omega
    simp [h2]

def allBits : Nat := 18446744073709551615

/-- A disk may be handed on: few sectors, a left that is an int. -/
structure DK.ok (d : DK) : Prop where
  sure : d.sure.length ≤ 2000
  wet : d.wet.length ≤ 2000
  lo : -1 ≤ d.left
  hi : d.left ≤ 9223372036854775807

theorem deedD_ok {d : DK} (h : d.ok) : (deedD d).ok := by
  unfold deedD
  split
  · exact ⟨h.sure, h.wet, h.lo, h.hi⟩
  · split
    · exact ⟨h.sure, h.wet, by dsimp only; omega, by have := h.hi; dsimp only; omega⟩
    · exact h

/-- The disk behind a Write whose argument may be. -/
def writeD (d : DK) (at_ : Int) (data : ByteArray) : DK := if deedB d = true then { deedD d with wet := withF (at_, padB data) d.wet } else deedD d

/-- A sector, as it is to be: what stands last for it, or what it surely is. -/
def readF (wet : List Wt) (sure : List ByteArray) (a : Int) : ByteArray := match wet.reverse.find? (fun o => o.1 == a) with
  | some o => o.2
  | none => sure.getD a.toNat ByteArray.empty

/-- A deed. -/
structure AK where
  kind : Int
  place : Int
  data : ByteArray
  stay : Nat

/-- Write, whatever comes. -/
def wrOk (d : DK) (at_ : Int) (data : ByteArray) : Prop := 0 ≤ at_ ∧ at_ < d.sure.length ∧ data.size ≤ 256

instance (d : DK) (at_ : Int) (data : ByteArray) : Decidable (wrOk d at_ data) := by unfold wrOk; infer_instance

def wrD (d : DK) (at_ : Int) (data : ByteArray) : DK := if wrOk d at_ data then writeD d at_ data else d

def wrE (d : DK) (at_ : Int) (data : ByteArray) : Int := if wrOk d at_ data then (if deedB d = true then 0 else 12) else 1

/-- Read, whatever comes. -/
def rdOk (d : DK) (at_ : Int) : Prop := 0 ≤ at_ ∧ at_ < d.sure.length

instance (d : DK) (at_ : Int) : Decidable (rdOk d at_) := by unfold rdOk; infer_instance

def rdS (d : DK) (at_ : Int) : ByteArray := if rdOk d at_ ∧ d.dead = false then readF d.wet d.sure at_ else ⟨#[]⟩

def rdE (d : DK) (at_ : Int) : Int := if rdOk d at_ then (if d.dead = false then 0 else 12) else 1

def flD (d : DK) : DK := if deedB d = true then { deedD d with sure := settleF allBits d.wet d.sure, wet := [] } else deedD d

def flE (d : DK) : Int := if deedB d = true then 0 else 12

def stD (d : DK) (stay : Nat) : DK := ⟨settleF stay d.wet d.sure, [], false, -1⟩

/-- Behind a deed: the disk, what was read, the error. -/
def doesD (d : DK) (a : AK) : DK := if a.kind = 0 then wrD d a.place a.data else if a.kind = 2 then flD d else if a.kind = 3 then { d with left := max a.place (-1) } else if a.kind = 4 then stD d a.stay else d

def doesS (d : DK) (a : AK) : ByteArray := if a.kind = 1 then rdS d a.place else ⟨#[]⟩

def doesE (d : DK) (a : AK) : Int := if a.kind = 0 then wrE d a.place a.data else if a.kind = 1 then rdE d a.place else if a.kind = 2 then flE d else 0

theorem stepW_len (p : Wt) (st : List Wt × Bool) (o : Wt) : (stepW p st o).1.length + st.2.toNat ≤ st.1.length + 1 + (stepW p st o).2.toNat := by
  obtain ⟨l, b⟩ := st
  unfold stepW
  cases b <;> dsimp only <;> (repeat' split) <;> simp_all <;> omega

theorem foldW_len (p : Wt) (l : List Wt) : ∀ st : List Wt × Bool, (l.foldl (stepW p) st).1.length + st.2.toNat ≤ st.1.length + l.length + (l.foldl (stepW p) st).2.toNat := by
  induction l with
  | nil => intro st; exact Nat.le_refl _
  | cons o l ih =>
    intro st
    have h1 := stepW_len p st o
    have h2 := ih (stepW p st o)
    rw [List.foldl_cons, List.length_cons]
    omega

theorem withF_len (p : Wt) (l : List Wt) : (withF p l).length ≤ l.length + 1 := by
  have h := foldW_len p l ([], false)
  unfold withF withSt
  split
  · rename_i e
    rw [e] at h
    simp at h
    omega
  · rename_i e
    have e' : (List.foldl (stepW p) ([], false) l).2 = false := by simpa using e
    rw [e'] at h
    simp at h
    simp
    omega

/-- A disk of n sectors, at most i of which are to be something else. -/
structure Good (n i : Nat) (d : DK) : Prop where
  sure : d.sure.length = n
  wet : d.wet.length ≤ i
  lo : -1 ≤ d.left
  hi : d.left ≤ 9223372036854775807

theorem Good.ok {n i : Nat} {d : DK} (h : Good n i d) (hn : n ≤ 2000) (hi : i ≤ 2000) : d.ok := ⟨by rw [h.sure]; exact hn, Nat.le_trans h.wet hi, h.lo, h.hi⟩

theorem Good.more {n i j : Nat} {d : DK} (h : Good n i d) (hij : i ≤ j) : Good n j d := ⟨h.sure, Nat.le_trans h.wet hij, h.lo, h.hi⟩

theorem deedD_good {n i : Nat} {d : DK} (h : Good n i d) : Good n i (deedD d) := by
  unfold deedD
  split
  · exact ⟨h.sure, h.wet, h.lo, h.hi⟩
  · split
    · exact ⟨h.sure, h.wet, by dsimp only; omega, by have := h.hi; dsimp only; omega⟩
    · exact h

theorem wrD_good {n i : Nat} {d : DK} (h : Good n i d) (at_ : Int) (data : ByteArray) : Good n (i + 1) (wrD d at_ data) := by
  unfold wrD
  split
  · unfold writeD
    have g := deedD_good h
    split
    · exact ⟨g.sure, Nat.le_trans (withF_len _ _) (by have := h.wet; omega), g.lo, g.hi⟩
    · exact g.more (by omega)
  · exact h.more (by omega)

theorem flD_good {n i : Nat} {d : DK} (h : Good n i d) : Good n i (flD d) := by
  unfold flD
  have g := deedD_good h
  split
  · exact ⟨by dsimp only; rw [settleF, settleK_length]; exact h.sure, by simp, g.lo, g.hi⟩
  · exact g

theorem stD_good {n i : Nat} {d : DK} (h : Good n i d) (stay : Nat) : Good n 0 (stD d stay) :=
  ⟨by unfold stD; dsimp only; rw [settleF, settleK_length]; exact h.sure, by simp [stD], by simp [stD], by simp [stD]⟩

theorem doesD_good {n i : Nat} {d : DK} (h : Good n i d) (a : AK) (ha : a.place ≤ 9223372036854775807) : Good n (i + 1) (doesD d a) := by
  unfold doesD
  split
  · exact wrD_good h _ _
  split
  · exact (flD_good h).more (by omega)
  split
  · exact ⟨h.sure, by have := h.wet; dsimp only; omega, by dsimp only; omega, by dsimp only; omega⟩
  split
  · exact (stD_good h _).more (by omega)
  · exact h.more (by omega)

theorem newD_good (n : Nat) : Good n 0 (newD n) := ⟨by simp [newD], by simp [newD], by simp [newD], by simp [newD]⟩

/-- A disk that was started: its sectors alone. -/
def cleanD (zs : List ByteArray) : DK := ⟨zs, [], false, -1⟩

/-- And one of its sectors is to be P. -/
def oneD (zs : List ByteArray) (k : Nat) (P : ByteArray) : DK := ⟨zs, [((k : Int), P)], false, -1⟩

theorem wr_clean (zs : List ByteArray) (k : Nat) (data : ByteArray) (hk : k < zs.length) (hd : data.size ≤ 256) : wrD (cleanD zs) k data = oneD zs k (padB data) ∧ wrE (cleanD zs) k data = 0 := by
  have h : wrOk (cleanD zs) k data := ⟨by omega, by simp [cleanD]; omega, hd⟩
  unfold wrD wrE
  rw [if_pos h, if_pos h]
  simp [writeD, deedB, deedD, cleanD, oneD, withF, withSt]

theorem fl_one (zs : List ByteArray) (k : Nat) (P : ByteArray) (hk : k < zs.length) : flD (oneD zs k P) = cleanD (zs.set k P) ∧ flE (oneD zs k P) = 0 := by
  have e : settleF allBits [((k : Int), P)] zs = zs.set k P := by
    show setStep allBits 0 ((k : Int), P) zs = _
    unfold setStep
    rw [if_pos ⟨by decide, by simp, by dsimp only; omega⟩]
    simp
  simp [flD, flE, oneD, cleanD, deedB, deedD, e]

theorem rd_clean (zs : List ByteArray) (i : Nat) (hi : i < zs.length) : rdS (cleanD zs) i = zs.getD i ByteArray.empty ∧ rdE (cleanD zs) i = 0 := by
  have h : rdOk (cleanD zs) i := ⟨by omega, by simp [cleanD]; omega⟩
  unfold rdS rdE
  rw [if_pos ⟨h, rfl⟩, if_pos h]
  simp [cleanD, readF]

theorem rd_one (zs : List ByteArray) (k i : Nat) (P : ByteArray) (hi : i < zs.length) : rdS (oneD zs k P) i = (if i = k then P else zs.getD i ByteArray.empty) ∧ rdE (oneD zs k P) i = 0 := by
  have h : rdOk (oneD zs k P) i := ⟨by omega, by simp [oneD]; omega⟩
  unfold rdS rdE
  rw [if_pos ⟨h, rfl⟩, if_pos h]
  by_cases e : i = k
  · simp [oneD, readF, e]
  · have e' : ¬ (k : Int) = (i : Int) := by omega
    simp [oneD, readF, e, e']

theorem clean_ok {zs : List ByteArray} (h : zs.length = 5) : (cleanD zs).ok := ⟨by simp [cleanD]; omega, by simp [cleanD], by simp [cleanD], by simp [cleanD]⟩

theorem one_ok {zs : List ByteArray} (h : zs.length = 5) (k : Nat) (P : ByteArray) : (oneD zs k P).ok := ⟨by simp [oneD]; omega, by simp [oneD], by simp [oneD], by simp [oneD]⟩

theorem bytes_ne {a b : ByteArray} (h : ¬ a = b) : (a.toList == b.toList) = false := by
  rw [ByteArray.toList_eq, ByteArray.toList_eq, Bool.eq_false_iff]
  intro e
  have e1 := eq_of_beq e
  apply h
  cases a with | mk x => cases b with | mk y => simpa using e1

theorem step_mem (p : Wt) (st : List Wt × Bool) (o x : Wt) (h : x ∈ (stepW p st o).1) : x ∈ st.1 ∨ x = p ∨ (x = o ∧ o.1 ≠ p.1) := by
  obtain ⟨l, b⟩ := st
  unfold stepW at h
  by_cases h1 : b = false ∧ p.1 < o.1
  · by_cases h2 : o.1 = p.1
    · omega
    · simp [h1.1, h1.2, h2] at h
      rcases h with h | h | h
      · exact .inl h
      · exact .inr (.inl h)
      · exact .inr (.inr ⟨h, h2⟩)
  · dsimp only at h
    rw [if_neg h1] at h
    by_cases h2 : o.1 = p.1
    · rw [if_pos h2] at h
      exact .inl h
    · rw [if_neg h2] at h
      simp at h
      rcases h with h | h
      · exact .inl h
      · exact .inr (.inr ⟨h, h2⟩)

theorem fold_mem (p : Wt) (l : List Wt) : ∀ (st : List Wt × Bool) (x : Wt), x ∈ (l.foldl (stepW p) st).1 → x ∈ st.1 ∨ x = p ∨ (x ∈ l ∧ x.1 ≠ p.1) := by
  induction l with
  | nil => intro st x h; exact .inl h
  | cons o l ih =>
    intro st x h
    rw [List.foldl_cons] at h
    rcases ih _ x h with h | h | h
    · rcases step_mem p st o x h with h | h | ⟨rfl, h⟩
      · exact .inl h
      · exact .inr (.inl h)
      · exact .inr (.inr ⟨by simp, h⟩)
    · exact .inr (.inl h)
    · exact .inr (.inr ⟨by simp [h.1], h.2⟩)

theorem with_mem (p : Wt) (l : List Wt) (x : Wt) (h : x ∈ withF p l) : x = p ∨ (x ∈ l ∧ x.1 ≠ p.1) := by
  have hf := fold_mem p l ([], false) x
  unfold withF withSt at h
  split at h
  · rcases hf h with h | h | h
    · cases h
    · exact .inl h
    · exact .inr h
  · rcases List.mem_append.1 h with h | h
    · rcases hf h with h | h | h
      · cases h
      · exact .inl h
      · exact .inr h
    · exact .inl (by simpa using h)

/-- Of one place there is one. -/
def Uniq (l : List Wt) : Prop := ∀ o ∈ l, ∀ x ∈ l, o.1 = x.1 → o = x

theorem Uniq.with_ {l : List Wt} (h : Uniq l) (p : Wt) : Uniq (withF p l) := by
  intro o ho x hx e
  rcases with_mem p l o ho with rfl | ⟨h1, h2⟩
  · rcases with_mem o l x hx with rfl | ⟨_, h4⟩
    · rfl
    · exact absurd e.symm h4
  · rcases with_mem p l x hx with rfl | ⟨h3, _⟩
    · exact absurd e h2
    · exact h o h1 x h3 e

theorem settle_at (stay : Nat) (wet : List Wt) (zs : List ByteArray) (j : Nat) : ∀ k, (settleK stay wet zs k).getD j ByteArray.empty = zs.getD j ByteArray.empty ∨ ∃ o ∈ wet, o.1 = (j : Int) ∧ (settleK stay wet zs k).getD j ByteArray.empty = o.2
  | 0 => .inl rfl
  | k + 1 => by
    unfold settleK
    split
    · rename_i o ho
      unfold setStep
      split
      · rename_i hc
        by_cases e : o.1.toNat = j
        · refine .inr ⟨o, List.mem_of_getElem? ho, by omega, ?_⟩
          have hlen : j < (settleK stay wet zs k).length := by omega
          rw [e]
          simp [List.getD_eq_getElem?_getD, hlen]
        · rw [List.getD_eq_getElem?_getD, List.getElem?_set, if_neg e, ← List.getD_eq_getElem?_getD]
          exact settle_at stay wet zs j k
      · exact settle_at stay wet zs j k
    · exact settle_at stay wet zs j k

theorem read_uniq {wet : List Wt} (h : Uniq wet) (zs : List ByteArray) (j : Nat) (o : Wt) (ho : o ∈ wet) (hj : o.1 = (j : Int)) : readF wet zs j = o.2 := by
  unfold readF
  cases e : wet.reverse.find? (fun o => o.1 == (j : Int)) with
  | none =>
    have := List.find?_eq_none.1 e o (by simpa using ho)
    simp [hj] at this
  | some x =>
    have h1 := List.find?_some e
    have h2 := List.mem_of_find?_eq_some e
    have h3 : x = o := h x (by simpa using h2) o ho (by rw [hj]; simpa using h1)
    rw [h3]

/-- A disk that was sure, and what is to be in it. -/
structure SureD (zs : List ByteArray) (i : Nat) (D : DK) : Prop where
  sure : D.sure = zs
  wet : D.wet.length ≤ i
  dead : D.dead = false
  left : D.left = -1
  uniq : Uniq D.wet

theorem SureD.ok {zs : List ByteArray} {i : Nat} {D : DK} (h : SureD zs i D) (hz : zs.length = 5) (hi : i ≤ 60) : D.ok :=
  ⟨by rw [h.sure]; omega, by have := h.wet; omega, by have := h.left; omega, by have := h.left; omega⟩

theorem SureD.more {zs : List ByteArray} {i j : Nat} {D : DK} (h : SureD zs i D) (hij : i ≤ j) : SureD zs j D := ⟨h.sure, Nat.le_trans h.wet hij, h.dead, h.left, h.uniq⟩

theorem SureD.write {zs : List ByteArray} {i : Nat} {D : DK} (h : SureD zs i D) (at_ : Int) (data : ByteArray) : SureD zs (i + 1) (wrD D at_ data) := by
  unfold wrD
  split
  · have e1 : deedB D = true := by simp [deedB, h.dead, h.left]
    have e2 : deedD D = D := by simp [deedD, h.dead, h.left]
    unfold writeD
    rw [if_pos e1, e2]
    exact ⟨h.sure, Nat.le_trans (withF_len _ _) (by have := h.wet; omega), h.dead, h.left, h.uniq.with_ _⟩
  · exact h.more (by omega)

/-- What is there behind a start: what was sure, or what was to be. -/
theorem SureD.end_ {zs : List ByteArray} {i : Nat} {D : DK} (h : SureD zs i D) (stay j : Nat) : (settleF stay D.wet zs).getD j ByteArray.empty = zs.getD j ByteArray.empty ∨ (settleF stay D.wet zs).getD j ByteArray.empty = readF D.wet zs j := by
  rcases settle_at stay D.wet zs j D.wet.length with e | ⟨o, ho, hj, e⟩
  · exact .inl e
  · refine .inr ?_
    rw [read_uniq h.uniq zs j o ho hj]
    exact e

/-- The first one of a place. -/
def findF (wet : List Wt) (sure : List ByteArray) (a : Int) : ByteArray := match wet.find? (fun o => o.1 == a) with
  | some o => o.2
  | none => sure.getD a.toNat ByteArray.empty

theorem find_hit (wet : List Wt) (sure : List ByteArray) (a : Int) (k : Nat) (o : Wt) (h : ∀ j x, j < k → wet[j]? = some x → x.1 ≠ a) (hk : wet[k]? = some o) (ho : o.1 = a) : findF wet sure a = o.2 := by
  have e : wet.find? (fun o => o.1 == a) = some o := by
    induction wet generalizing k with
    | nil => simp at hk
    | cons y l ih =>
      cases k with
      | zero =>
        simp at hk
        subst hk
        simp [ho]
      | succ k =>
        have h0 := h 0 y (by omega) rfl
        have hf : (y.1 == a) = false := by simpa using h0
        rw [List.find?_cons, hf]
        exact ih k (fun j x hj hx => h (j + 1) x (by omega) (by simpa using hx)) (by simpa using hk)
  unfold findF
  rw [e]

theorem find_miss (wet : List Wt) (sure : List ByteArray) (a : Int) (h : ∀ (j : Nat) x, wet[j]? = some x → x.1 ≠ a) : findF wet sure a = sure.getD a.toNat ByteArray.empty := by
  have e : wet.find? (fun o => o.1 == a) = none := by
    rw [List.find?_eq_none]
    intro x hx
    obtain ⟨j, hj⟩ := List.getElem?_of_mem hx
    simpa using h j x hj
  unfold findF
  rw [e]

/-- Places rise. -/
def Rising (l : List Wt) : Prop := List.Pairwise (fun a b : Wt => a.1 < b.1) l

theorem fold_placed (p : Wt) (l : List Wt) : ∀ acc : List Wt, l.foldl (stepW p) (acc, true) = (acc ++ l.filter (fun o => decide (o.1 ≠ p.1)), true) := by
  induction l with
  | nil => intro acc; simp
  | cons o l ih =>
    intro acc
    rw [List.foldl_cons]
    by_cases h : o.1 = p.1
    · have e : stepW p (acc, true) o = (acc, true) := by simp [stepW, h]
      rw [e, ih]
      simp [h]
    · have e : stepW p (acc, true) o = (acc ++ [o], true) := by simp [stepW, h]
      rw [e, ih]
      simp [h]

theorem fold_low (p : Wt) (l : List Wt) : ∀ acc : List Wt, (∀ o ∈ l, o.1 < p.1) → l.foldl (stepW p) (acc, false) = (acc ++ l, false) := by
  induction l with
  | nil => intro acc _; simp
  | cons o l ih =>
    intro acc h
    have h0 := h o (by simp)
    rw [List.foldl_cons, stepW_one p o acc (by omega) (by omega), ih _ (fun x hx => h x (by simp [hx]))]
    simp

theorem fold_high (p : Wt) (r : List Wt) : ∀ acc : List Wt, (∀ o ∈ r, p.1 ≤ o.1) → (if (r.foldl (stepW p) (acc, false)).2 = true then (r.foldl (stepW p) (acc, false)).1 else (r.foldl (stepW p) (acc, false)).1 ++ [p]) = acc ++ [p] ++ r.filter (fun o => decide (o.1 ≠ p.1)) := by
  induction r with
  | nil => intro acc _; simp
  | cons o r ih =>
    intro acc h
    have h0 := h o (by simp)
    rw [List.foldl_cons]
    by_cases e : o.1 = p.1
    · have e1 : stepW p (acc, false) o = (acc, false) := by simp [stepW, e]
      rw [e1, ih acc (fun x hx => h x (by simp [hx]))]
      simp [e]
    · rw [stepW_two p o acc (by omega), fold_placed]
      simp [e]

theorem drop_high {p : Wt} {l : List Wt} (h : Rising l) : ∀ o ∈ l.dropWhile (fun o => decide (o.1 < p.1)), p.1 ≤ o.1 := by
  induction l with
  | nil => intro o ho; cases ho
  | cons x l ih =>
    intro o ho
    have hp := List.pairwise_cons.1 h
    by_cases e : x.1 < p.1
    · rw [List.dropWhile_cons_of_pos (by simpa using e)] at ho
      exact ih hp.2 o ho
    · rw [List.dropWhile_cons_of_neg (by simpa using e)] at ho
      rcases List.mem_cons.1 ho with rfl | ho
      · omega
      · have := hp.1 o ho
        omega

theorem take_low {p : Wt} {l : List Wt} : ∀ o ∈ l.takeWhile (fun o => decide (o.1 < p.1)), o.1 < p.1 := by
  intro o ho
  have := List.all_takeWhile (p := fun o : Wt => decide (o.1 < p.1)) (l := l)
  rw [List.all_eq_true] at this
  simpa using this o ho

/-- What Write comes to: those below, the new one, those above. -/
theorem with_ins {p : Wt} {l : List Wt} (h : Rising l) : withF p l = l.takeWhile (fun o => decide (o.1 < p.1)) ++ [p] ++ (l.dropWhile (fun o => decide (o.1 < p.1))).filter (fun o => decide (o.1 ≠ p.1)) := by
  have e : withSt p l = (l.dropWhile (fun o => decide (o.1 < p.1))).foldl (stepW p) (l.takeWhile (fun o => decide (o.1 < p.1)), false) := by
    unfold withSt
    conv => lhs; rw [← List.takeWhile_append_dropWhile (p := fun o : Wt => decide (o.1 < p.1)) (l := l)]
    rw [List.foldl_append, fold_low p _ [] take_low]
    simp
  unfold withF
  rw [e]
  exact fold_high p _ _ (drop_high h)

theorem Rising.with_ {l : List Wt} (h : Rising l) (p : Wt) : Rising (withF p l) := by
  rw [with_ins h]
  unfold Rising at *
  rw [List.pairwise_append, List.pairwise_append]
  have hs : List.Pairwise (fun a b : Wt => a.1 < b.1) (l.takeWhile (fun o => decide (o.1 < p.1)) ++ l.dropWhile (fun o => decide (o.1 < p.1))) := by rw [List.takeWhile_append_dropWhile]; exact h
  rw [List.pairwise_append] at hs
  have hd : ∀ o ∈ (l.dropWhile (fun o => decide (o.1 < p.1))).filter (fun o => decide (o.1 ≠ p.1)), p.1 < o.1 := by
    intro o ho
    obtain ⟨h1, h2⟩ := List.mem_filter.1 ho
    have h3 := drop_high (p := p) h o h1
    have h4 : o.1 ≠ p.1 := by simpa using h2
    omega
  refine ⟨⟨hs.1, by simp, fun a ha b hb => ?_⟩, hs.2.1.filter _, fun a ha b hb => ?_⟩
  · simp at hb
    subst hb
    exact take_low a ha
  · rcases List.mem_append.1 ha with ha | ha
    · have := take_low a ha
      have := hd b hb
      omega
    · simp at ha
      subst ha
      exact hd b hb

theorem Rising.uniq {l : List Wt} (h : Rising l) : Uniq l := by
  induction l with
  | nil => intro o ho; cases ho
  | cons x l ih =>
    have hp := List.pairwise_cons.1 h
    intro o ho y hy e
    rcases List.mem_cons.1 ho with h1 | h1
    · rcases List.mem_cons.1 hy with h2 | h2
      · rw [h1, h2]
      · have := hp.1 y h2
        rw [← h1] at this
        omega
    · rcases List.mem_cons.1 hy with h2 | h2
      · have := hp.1 o h1
        rw [← h2] at this
        omega
      · exact ih hp.2 o h1 y h2 e

/-- The first one of a place is the last one. -/
theorem find_read {wet : List Wt} (h : Uniq wet) (zs : List ByteArray) (j : Nat) : findF wet zs j = readF wet zs j := by
  unfold findF
  cases e : wet.find? (fun o => o.1 == (j : Int)) with
  | some o =>
    have h1 := List.find?_some e
    have h2 := List.mem_of_find?_eq_some e
    rw [read_uniq h zs j o h2 (by simpa using h1)]
  | none =>
    have hn := List.find?_eq_none.1 e
    have e2 : wet.reverse.find? (fun o => o.1 == (j : Int)) = none := by
      rw [List.find?_eq_none]
      intro x hx
      exact hn x (by simpa using hx)
    unfold readF
    rw [e2]

/-- What is to be somewhere lies in the disk. -/
def WetIn (d : DK) : Prop := ∀ o ∈ d.wet, 0 ≤ o.1 ∧ o.1 < d.sure.length

/-- A disk of n sectors behind i deeds. -/
structure Pl (n i : Nat) (D : DK) : Prop where
  good : Good n i D
  rise : Rising D.wet
  inn : WetIn D

theorem Pl.ok {n i : Nat} {D : DK} (h : Pl n i D) (hn : n ≤ 2000) (hi : i ≤ 2000) : D.ok := h.good.ok hn hi

theorem deedD_wet (d : DK) : (deedD d).wet = d.wet := by unfold deedD; split <;> (try split) <;> rfl

theorem deedD_sure (d : DK) : (deedD d).sure = d.sure := by unfold deedD; split <;> (try split) <;> rfl

theorem WetIn.deed {d : DK} (h : WetIn d) : WetIn (deedD d) := by
  unfold WetIn
  rw [deedD_wet, deedD_sure]; exact h

theorem wetIn_nil {d : DK} (h : d.wet = []) : WetIn d := by
  unfold WetIn
  rw [h]; intro o ho; cases ho

theorem rising_nil : Rising [] := List.Pairwise.nil

theorem wrD_pl {n i : Nat} {D : DK} (h : Pl n i D) (at_ : Int) (data : ByteArray) : Pl n (i + 1) (wrD D at_ data) := by
  refine ⟨wrD_good h.good at_ data, ?_, ?_⟩
  · unfold wrD
    split
    · unfold writeD
      split
      · exact h.rise.with_ _
      · rw [deedD_wet]; exact h.rise
    · exact h.rise
  · unfold wrD
    split
    · rename_i hok
      unfold writeD
      split
      · intro o ho
        show 0 ≤ o.1 ∧ o.1 < (deedD D).sure.length
        rw [deedD_sure]
        rcases with_mem _ _ _ ho with rfl | ⟨ho, _⟩
        · exact ⟨hok.1, hok.2.1⟩
        · exact h.inn o ho
      · exact h.inn.deed
    · exact h.inn

theorem flD_pl {n i : Nat} {D : DK} (h : Pl n i D) : Pl n i (flD D) := by
  refine ⟨flD_good h.good, ?_, ?_⟩
  · unfold flD
    split
    · exact rising_nil
    · rw [deedD_wet]; exact h.rise
  · unfold flD
    split
    · exact wetIn_nil rfl
    · exact h.inn.deed

theorem doesD_pl {n i : Nat} {D : DK} (h : Pl n i D) (a : AK) (ha : a.place ≤ 9223372036854775807) : Pl n (i + 1) (doesD D a) := by
  refine ⟨doesD_good h.good a ha, ?_, ?_⟩
  · unfold doesD
    split
    · exact (wrD_pl h _ _).rise
    · split
      · exact (flD_pl h).rise
      · split
        · exact h.rise
        · split
          · exact rising_nil
          · exact h.rise
  · unfold doesD
    split
    · exact (wrD_pl h _ _).inn
    · split
      · exact (flD_pl h).inn
      · split
        · exact h.inn
        · split
          · exact wetIn_nil rfl
          · exact h.inn

/-- The disk that is none. -/
def zeroD : DK := ⟨[], [], false, 0⟩

/-- What an armed disk is, behind so many deeds that were done. -/
structure DieD (zs : List ByteArray) (i done q : Nat) (D : DK) : Prop where
  sure : D.sure = zs
  wet : D.wet.length ≤ i
  left : D.left = (q : Int) - done
  dead : D.dead = true → done = q
  dq : done ≤ q

theorem DieD.ok {zs : List ByteArray} {i done q : Nat} {D : DK} (h : DieD zs i done q D) (hz : zs.length = 5) (hi : i ≤ 60) (hq : q < 20) : D.ok :=
  ⟨by rw [h.sure]; omega, by have := h.wet; omega, by have := h.left; have := h.dq; omega, by have := h.left; omega⟩

theorem DieD.deed {zs : List ByteArray} {i done q : Nat} {D : DK} (h : DieD zs i done q D) : deedB D = decide (done < q) := by
  unfold deedB
  have h1 := h.left
  have h2 := h.dq
  by_cases hd : done < q
  · have e1 : D.dead = false := by
      cases e : D.dead with
      | false => rfl
      | true => have := h.dead e; omega
    have e2 : (D.left == 0) = false := by simp; omega
    rw [e1, e2]
    simp [hd]
  · have e2 : (D.left == 0) = true := by simp; omega
    rw [e2]
    simp [hd]

theorem DieD.bad {zs : List ByteArray} {i done q : Nat} {D : DK} (h : DieD zs i done q D) (at_ : Int) (data : ByteArray) (hz : zs.length = 5) (hb : at_ < 0 ∨ 5 ≤ at_ ∨ 256 < data.size) : wrE D at_ data = 1 ∧ DieD zs (i + 1) done q (wrD D at_ data) := by
  have hn : ¬ wrOk D at_ data := by
    unfold wrOk
    rw [h.sure, hz]
    omega
  unfold wrE wrD
  rw [if_neg hn, if_neg hn]
  exact ⟨rfl, h.sure, by have := h.wet; omega, h.left, h.dead, h.dq⟩

theorem DieD.does {zs : List ByteArray} {i done q : Nat} {D : DK} (h : DieD zs i done q D) (at_ : Int) (data : ByteArray) (hz : zs.length = 5) (h0 : 0 ≤ at_) (h5 : at_ < 5) (h2 : data.size ≤ 256) (hd : done < q) : wrE D at_ data = 0 ∧ DieD zs (i + 1) (done + 1) q (wrD D at_ data) := by
  have hn : wrOk D at_ data := by
    unfold wrOk
    rw [h.sure, hz]
    omega
  have hdb := h.deed
  rw [decide_eq_true hd] at hdb
  unfold wrE wrD writeD
  rw [if_pos hn, if_pos hn, if_pos hdb, if_pos hdb]
  have e1 : ¬ (D.dead = true ∨ D.left = 0) := by
    simp [deedB] at hdb
    simp [hdb]
  have e2 : 0 < D.left := by have := h.left; omega
  have hl := withF_len (at_, padB data) D.wet
  have hw := h.wet
  have hlf := h.left
  refine ⟨rfl, ?_⟩
  unfold deedD
  rw [if_neg e1, if_pos e2]
  exact ⟨h.sure, by dsimp only; omega, by dsimp only; omega, fun e => by have := h.dead e; omega, by omega⟩

theorem DieD.down {zs : List ByteArray} {i done q : Nat} {D : DK} (h : DieD zs i done q D) (at_ : Int) (data : ByteArray) (hz : zs.length = 5) (h0 : 0 ≤ at_) (h5 : at_ < 5) (h2 : data.size ≤ 256) (hd : ¬ done < q) : wrE D at_ data = 12 ∧ DieD zs (i + 1) done q (wrD D at_ data) := by
  have hn : wrOk D at_ data := by
    unfold wrOk
    rw [h.sure, hz]
    omega
  have hdb := h.deed
  rw [decide_eq_false hd] at hdb
  have hdb' : ¬ deedB D = true := by rw [hdb]; simp
  unfold wrE wrD writeD
  rw [if_pos hn, if_pos hn, if_neg hdb', if_neg hdb']
  have hw := h.wet
  have hlf := h.left
  have hdq := h.dq
  refine ⟨rfl, ?_⟩
  unfold deedD
  rw [if_pos (.inr (by omega))]
  exact ⟨h.sure, by dsimp only; omega, hlf, fun _ => by omega, hdq⟩

/-- Where no bit stays, what is to be is gone. -/
theorem settle_zero (wet : List Wt) (sure : List ByteArray) : ∀ k, settleK 0 wet sure k = sure
  | 0 => rfl
  | k + 1 => by
    unfold settleK
    split
    · unfold setStep
      rw [settle_zero wet sure k, if_neg (by simp)]
    · exact settle_zero wet sure k

end Go.Proofs.YtgeiemccjionpaaGreat.Dsk

/- VDisk -/
namespace Go.Proofs.YtgeiemccjionpaaGreat.Vlt
open Go.RowKit
open Dsk

/-- What sector j is to be; what it surely is. -/
def nowB (d : DK) (j : Nat) : ByteArray := readF d.wet d.sure j
def sureB (d : DK) (j : Nat) : ByteArray := d.sure.getD j ByteArray.empty

theorem read_none {wet : List Wt} {zs : List ByteArray} {j : Nat} (h : ∀ o ∈ wet, o.1 ≠ (j : Int)) : readF wet zs j = zs.getD j ByteArray.empty := by
  unfold readF
  rw [List.find?_eq_none.2 (fun o ho => by have := h o (by simpa using ho); simpa using this)]
  rfl
theorem now_dry {d : DK} (h : d.wet = []) (j : Nat) : nowB d j = sureB d j := by
  unfold nowB sureB
  rw [h]
  exact read_none (by simp)

theorem mem_with {p : Wt} {l : List Wt} (h : Rising l) : p ∈ withF p l := by rw [with_ins h]; simp
theorem keep_with {p x : Wt} {l : List Wt} (h : Rising l) (hx : x ∈ l) (hn : x.1 ≠ p.1) : x ∈ withF p l := by
  rw [with_ins h]
  have : x ∈ l.takeWhile (fun o => decide (o.1 < p.1)) ++ l.dropWhile (fun o => decide (o.1 < p.1)) := by rw [List.takeWhile_append_dropWhile]; exact hx
  rcases List.mem_append.1 this with k | k
  · simp [k]
  · simp only [List.mem_append, List.mem_filter]
    exact .inr ⟨k, by simpa using hn⟩

theorem now_with {wet : List Wt} {zs : List ByteArray} (h : Rising wet) (a : Nat) (data : ByteArray) (j : Nat) :
    readF (withF ((a : Int), data) wet) zs j = if j = a then data else readF wet zs j := by
  have hr := h.with_ ((a : Int), data)
  by_cases e : j = a
  · subst e
    rw [if_pos rfl, read_uniq hr.uniq zs j _ (mem_with h) rfl]
  · rw [if_neg e]
    by_cases k : ∃ o ∈ wet, o.1 = (j : Int)
    · obtain ⟨o, ho, hj⟩ := k
      have hn : o.1 ≠ ((a : Int), data).1 := by rw [hj]; show (j : Int) ≠ a; omega
      rw [read_uniq hr.uniq zs j o (keep_with h ho hn) hj, read_uniq h.uniq zs j o ho hj]
    · have k1 : ∀ o ∈ wet, o.1 ≠ (j : Int) := fun o ho hj => k ⟨o, ho, hj⟩
      have k2 : ∀ o ∈ withF ((a : Int), data) wet, o.1 ≠ (j : Int) := by
        intro o ho hj
        rcases with_mem _ _ _ ho with rfl | ⟨h1, _⟩
        · have : (a : Int) = j := hj
          omega
        · exact k1 o h1 hj
      rw [read_none k1, read_none k2]

theorem all_bit (k : Nat) : allBits.testBit (k % 64) = true := by
  have : k % 64 < 64 := Nat.mod_lt _ (by omega)
  generalize k % 64 = m at *
  revert m
  decide

theorem settleK_all {wet : List Wt} (hu : Uniq wet) (zs : List ByteArray) (hin : ∀ o ∈ wet, 0 ≤ o.1 ∧ o.1 < zs.length) (j : Nat) :
    ∀ k, k ≤ wet.length → (∀ i o, i < k → wet[i]? = some o → o.1 = (j : Int) → (settleK allBits wet zs k).getD j ByteArray.empty = o.2) ∧
      ((∀ i o, i < k → wet[i]? = some o → o.1 ≠ (j : Int)) → (settleK allBits wet zs k).getD j ByteArray.empty = zs.getD j ByteArray.empty)
  | 0, _ => ⟨fun i o h => absurd h (by omega), fun _ => rfl⟩
  | k + 1, hk => by
    obtain ⟨i1, i2⟩ := settleK_all hu zs hin j k (by omega)
    have hw : wet[k]? = some wet[k] := List.getElem?_eq_getElem (by omega)
    have hm : wet[k] ∈ wet := List.getElem_mem _
    obtain ⟨h0, h1⟩ := hin _ hm
    have hs : settleK allBits wet zs (k + 1) = (settleK allBits wet zs k).set wet[k].1.toNat wet[k].2 := by
      conv => lhs; unfold settleK
      rw [hw]
      dsimp only
      unfold setStep
      rw [if_pos ⟨all_bit k, h0, by rw [settleK_length]; exact h1⟩]
    have hg : (settleK allBits wet zs (k + 1)).getD j ByteArray.empty = if wet[k].1.toNat = j then wet[k].2 else (settleK allBits wet zs k).getD j ByteArray.empty := by
      rw [hs, List.getD_eq_getElem?_getD, List.getElem?_set]
      by_cases e : wet[k].1.toNat = j
      · rw [if_pos e, if_pos e, if_pos (by rw [settleK_length]; omega)]
        rfl
      · rw [if_neg e, if_neg e, ← List.getD_eq_getElem?_getD]
    constructor
    · intro i o hi ho hj
      rw [hg]
      by_cases e : wet[k].1.toNat = j
      · rw [if_pos e]
        have : wet[k] = o := hu _ hm _ (List.mem_of_getElem? ho) (by omega)
        rw [this]
      · rw [if_neg e]
        have hik : i < k := by
          rcases Nat.lt_or_eq_of_le (Nat.le_of_lt_succ hi) with h | h
          · exact h
          · subst h
            rw [hw] at ho
            have := Option.some.inj ho
            rw [this] at e
            omega
        exact i1 i o hik ho hj
    · intro hn
      rw [hg, if_neg (by have := hn k _ (by omega) hw; omega)]
      exact i2 fun i o hi ho => hn i o (by omega) ho

/-- What is flushed is sure. -/
theorem settle_all {wet : List Wt} (hu : Uniq wet) (zs : List ByteArray) (hin : ∀ o ∈ wet, 0 ≤ o.1 ∧ o.1 < zs.length) (j : Nat) : (settleF allBits wet zs).getD j ByteArray.empty = readF wet zs j := by
  obtain ⟨h1, h2⟩ := settleK_all hu zs hin j wet.length (Nat.le_refl _)
  by_cases k : ∃ o ∈ wet, o.1 = (j : Int)
  · obtain ⟨o, ho, hj⟩ := k
    obtain ⟨i, hi, e⟩ := List.getElem_of_mem ho
    rw [read_uniq hu zs j o ho hj]
    exact h1 i o hi (by rw [List.getElem?_eq_getElem hi, e]) hj
  · have k1 : ∀ o ∈ wet, o.1 ≠ (j : Int) := fun o ho hj => k ⟨o, ho, hj⟩
    rw [read_none k1]
    exact h2 fun i o _ ho => k1 o (List.mem_of_getElem? ho)

/-- What stays is what was sure, or was to be. -/
theorem settle_any {wet : List Wt} (hu : Uniq wet) (stay : Nat) (zs : List ByteArray) (j : Nat) : (settleF stay wet zs).getD j ByteArray.empty = zs.getD j ByteArray.empty ∨ (settleF stay wet zs).getD j ByteArray.empty = readF wet zs j := by
  rcases settle_at stay wet zs j wet.length with e | ⟨o, ho, hj, e⟩
  · exact .inl e
  · refine .inr ?_
    rw [read_uniq hu zs j o ho hj]
    exact e

section
variable {n i : Nat} {d : DK}

theorem deed_live (h : deedB d = true) : (deedD d).dead = false ∧ d.dead = false := by
  unfold deedB at h
  have h1 : d.dead = false ∧ d.left ≠ 0 := by simpa using h
  refine ⟨?_, h1.1⟩
  unfold deedD
  rw [if_neg (by simp [h1.1, h1.2])]
  split <;> exact h1.1
theorem deed_down (h : deedB d = false) : (deedD d).dead = true := by
  unfold deedB at h
  have h1 : d.dead = true ∨ d.left = 0 := by
    cases hd : d.dead with
    | true => exact .inl rfl
    | false => rw [hd] at h; exact .inr (by simpa using h)
  unfold deedD
  rw [if_pos h1]
theorem deed_any (h : d.dead = false) (hl : d.left = -1) : deedB d = true ∧ deedD d = d := by
  constructor
  · unfold deedB; rw [h, hl]; rfl
  · unfold deedD; rw [if_neg (by simp [h, hl]), if_neg (by omega)]

/-- A write: done, or the power is gone. -/
theorem write_is (hp : Pl n i d) (a : Nat) (data : ByteArray) (ha : a < n) (hs : data.size = 256) :
    (deedB d = true ∧ wrE d a data = 0 ∧ (wrD d a data).dead = false ∧ (∀ j, sureB (wrD d a data) j = sureB d j) ∧ ∀ j, nowB (wrD d a data) j = if j = a then data else nowB d j) ∨
    (deedB d = false ∧ wrE d a data = 12 ∧ (wrD d a data).dead = true ∧ (∀ j, sureB (wrD d a data) j = sureB d j) ∧ ∀ j, nowB (wrD d a data) j = nowB d j) := by
  have hok : wrOk d a data := ⟨by omega, by rw [hp.good.sure]; omega, by omega⟩
  have hpad : padB data = data := by
    unfold padB
    rw [hs]
    simp
  have e1 : wrE d a data = if deedB d = true then 0 else 12 := by unfold wrE; rw [if_pos hok]
  have e2 : wrD d a data = writeD d a data := by unfold wrD; rw [if_pos hok]
  rw [e1, e2]
  cases hb : deedB d with
  | true =>
    refine .inl ⟨rfl, by rw [if_pos rfl], ?_, ?_, ?_⟩
    · unfold writeD; rw [if_pos hb]; exact (deed_live hb).1
    · intro j; unfold writeD sureB; rw [if_pos hb]; show (deedD d).sure.getD j _ = _; rw [deedD_sure]
    · intro j
      unfold writeD nowB
      rw [if_pos hb]
      show readF (withF ((a : Int), padB data) d.wet) (deedD d).sure j = _
      rw [deedD_sure, hpad]
      exact now_with hp.rise a data j
  | false =>
    refine .inr ⟨rfl, by rw [if_neg (by simp)], ?_, ?_, ?_⟩
    · unfold writeD; rw [if_neg (by simp [hb])]; exact deed_down hb
    · intro j; unfold writeD sureB; rw [if_neg (by simp [hb]), deedD_sure]
    · intro j; unfold writeD nowB; rw [if_neg (by simp [hb]), deedD_sure, deedD_wet]

theorem flush_is (hp : Pl n i d) :
    (deedB d = true ∧ flE d = 0 ∧ (flD d).dead = false ∧ (flD d).wet = [] ∧ (∀ j, sureB (flD d) j = nowB d j) ∧ ∀ j, nowB (flD d) j = nowB d j) ∨
    (deedB d = false ∧ flE d = 12 ∧ (flD d).dead = true ∧ (flD d).wet = d.wet ∧ (∀ j, sureB (flD d) j = sureB d j) ∧ ∀ j, nowB (flD d) j = nowB d j) := by
  have hs : ∀ j, (settleF allBits d.wet d.sure).getD j ByteArray.empty = nowB d j := fun j => settle_all hp.rise.uniq d.sure hp.inn j
  cases hb : deedB d with
  | true =>
    refine .inl ⟨rfl, by unfold flE; rw [if_pos hb], ?_, ?_, ?_, ?_⟩
    · unfold flD; rw [if_pos hb]; exact (deed_live hb).1
    · unfold flD; rw [if_pos hb]
    · intro j; unfold flD sureB; rw [if_pos hb]; exact hs j
    · intro j
      unfold flD nowB
      rw [if_pos hb]
      show readF [] (settleF allBits d.wet d.sure) j = _
      rw [read_none (by simp)]
      exact hs j
  | false =>
    refine .inr ⟨rfl, by unfold flE; rw [if_neg (by simp [hb])], ?_, ?_, ?_, ?_⟩
    · unfold flD; rw [if_neg (by simp [hb])]; exact deed_down hb
    · unfold flD; rw [if_neg (by simp [hb]), deedD_wet]
    · intro j; unfold flD sureB; rw [if_neg (by simp [hb]), deedD_sure]
    · intro j; unfold flD nowB; rw [if_neg (by simp [hb]), deedD_sure, deedD_wet]

theorem start_is (hp : Pl n i d) (stay : Nat) :
    (stD d stay).dead = false ∧ (stD d stay).left = -1 ∧ (stD d stay).wet = [] ∧ (∀ j, nowB (stD d stay) j = sureB (stD d stay) j) ∧ ∀ j, sureB (stD d stay) j = sureB d j ∨ sureB (stD d stay) j = nowB d j := by
  refine ⟨rfl, rfl, rfl, fun j => now_dry rfl j, fun j => ?_⟩
  exact settle_any hp.rise.uniq stay d.sure j
theorem stD_pl (hp : Pl n i d) (stay : Nat) : Pl n 0 (stD d stay) := ⟨stD_good hp.good stay, rising_nil, wetIn_nil rfl⟩

theorem rd_is (hp : Pl n i d) (hd : d.dead = false) {a : Nat} (ha : a < n) : rdS d a = nowB d a ∧ rdE d a = 0 := by
  have hok : rdOk d a := ⟨by omega, by rw [hp.good.sure]; omega⟩
  constructor
  · unfold rdS; rw [if_pos ⟨hok, hd⟩]; rfl
  · unfold rdE; rw [if_pos hok, if_pos hd]
end

/-- Writes, one behind the other, till one goes wrong. -/
def wrsF (d : DK) : List (Int × ByteArray) → DK × Int
  | [] => (d, 0)
  | p :: l => if wrE d p.1 p.2 = 0 then wrsF (wrD d p.1 p.2) l else (wrD d p.1 p.2, wrE d p.1 p.2)
/-- Writes, and a flush. -/
def wfF (d : DK) (l : List (Int × ByteArray)) : DK × Int := if (wrsF d l).2 = 0 then (flD (wrsF d l).1, flE (wrsF d l).1) else wrsF d l

theorem wrs_snoc (d : DK) (l : List (Int × ByteArray)) (p : Int × ByteArray) :
    wrsF d (l ++ [p]) = if (wrsF d l).2 = 0 then (wrD (wrsF d l).1 p.1 p.2, wrE (wrsF d l).1 p.1 p.2) else wrsF d l := by
  induction l generalizing d with
  | nil =>
    simp only [List.nil_append, wrsF]
    by_cases h : wrE d p.1 p.2 = 0
    · rw [if_pos h, if_pos trivial, h]
    · rw [if_neg h, if_pos trivial]
  | cons q l ih =>
    rw [List.cons_append]
    conv => lhs; unfold wrsF
    conv => rhs; unfold wrsF
    by_cases h : wrE d q.1 q.2 = 0
    · rw [if_pos h, if_pos h, ih]
    · rw [if_neg h, if_neg h, if_neg h]

/-- Sectors behind writes. -/
def updW (l : List (Int × ByteArray)) (f : Nat → ByteArray) (j : Nat) : ByteArray := l.foldl (fun b p => if p.1 = (j : Int) then p.2 else b) (f j)
/-- Writes that a disk takes: of whole sectors that it has. -/
def WsOk (n : Nat) (l : List (Int × ByteArray)) : Prop := ∀ p ∈ l, 0 ≤ p.1 ∧ p.1 < n ∧ p.2.size = 256

theorem updW_cons (p : Int × ByteArray) (l : List (Int × ByteArray)) (f : Nat → ByteArray) (j : Nat) :
    updW (p :: l) f j = updW l (fun j => if p.1 = (j : Int) then p.2 else f j) j := rfl
theorem updW_out {l : List (Int × ByteArray)} {f : Nat → ByteArray} {j : Nat} (h : ∀ p ∈ l, p.1 ≠ (j : Int)) : updW l f j = f j := by
  unfold updW
  suffices ∀ b, l.foldl (fun b (p : Int × ByteArray) => if p.1 = (j : Int) then p.2 else b) b = b from this _
  induction l with
  | nil => intro b; rfl
  | cons x l ih =>
    intro b
    rw [List.foldl_cons, if_neg (h x (by simp))]
    exact ih (fun y hy => h y (by simp [hy])) b
theorem updW_ext {l : List (Int × ByteArray)} {f g : Nat → ByteArray} {j : Nat} (h : f j = g j) : updW l f j = updW l g j := by unfold updW; rw [h]

/-- What stands behind writes of which the power may have let but the first ones through. -/
theorem wrs_is {n : Nat} : ∀ (l : List (Int × ByteArray)) (i : Nat) (d : DK), Pl n i d → d.dead = false → WsOk n l →
    ∃ k, k ≤ l.length ∧ Pl n (i + k) (wrsF d l).1 ∧ (∀ j, sureB (wrsF d l).1 j = sureB d j) ∧ (∀ j, nowB (wrsF d l).1 j = updW (l.take k) (nowB d) j) ∧
      (((wrsF d l).2 = 0 ∧ k = l.length ∧ (wrsF d l).1.dead = false) ∨ ((wrsF d l).2 = 12 ∧ (wrsF d l).1.dead = true))
  | [], i, d, hp, hd, _ => ⟨0, Nat.le_refl _, hp, fun _ => rfl, fun _ => rfl, .inl ⟨rfl, rfl, hd⟩⟩
  | p :: l, i, d, hp, hd, hw => by
    obtain ⟨h0, h1, h2⟩ := hw p (by simp)
    obtain ⟨a, ha⟩ : ∃ a : Nat, p.1 = (a : Int) := ⟨p.1.toNat, by omega⟩
    have hpl := wrD_pl hp p.1 p.2
    rw [ha] at hpl
    unfold wrsF
    rw [ha]
    rcases write_is hp a p.2 (by omega) h2 with ⟨_, e, hd2, hs, hn⟩ | ⟨_, e, hd2, hs, hn⟩
    · rw [if_pos e]
      obtain ⟨k, g1, g2, g3, g4, g5⟩ := wrs_is l (i + 1) (wrD d a p.2) hpl hd2 (fun q hq => hw q (by simp [hq]))
      refine ⟨k + 1, by simp; exact g1, by rw [show i + (k + 1) = i + 1 + k by omega]; exact g2, fun j => (g3 j).trans (hs j), fun j => ?_, ?_⟩
      · rw [g4 j, List.take_succ_cons, updW_cons]
        refine updW_ext ?_
        rw [hn j, ha]
        by_cases e : j = a
        · rw [if_pos e, if_pos (by omega)]
        · rw [if_neg e, if_neg (by omega)]
      · rcases g5 with ⟨a1, a2, a3⟩ | g5
        · exact .inl ⟨a1, by simp; exact a2, a3⟩
        · exact .inr g5
    · rw [if_neg (by omega)]
      have hpl' : Pl n (i + 0) (wrD d a p.2) := ⟨⟨hpl.good.sure, by
        have e3 : (wrD d a p.2).wet = d.wet := by
          unfold wrD
          split
          · unfold writeD
            rw [if_neg (by simp [*]), deedD_wet]
          · rfl
        rw [e3]; exact hp.good.wet, hpl.good.lo, hpl.good.hi⟩, hpl.rise, hpl.inn⟩
      exact ⟨0, Nat.zero_le _, hpl', hs, fun j => hn j, .inr ⟨e, hd2⟩⟩

theorem flD_len {n i : Nat} {d : DK} (hp : Pl n i d) : Pl n i (flD d) := flD_pl hp

/-- Writes and a flush: all is sure; or the power is gone. -/
theorem wf_is {n i : Nat} {d : DK} {l : List (Int × ByteArray)} (hp : Pl n i d) (hd : d.dead = false) (hw : WsOk n l) :
    ((wfF d l).2 = 0 ∧ (wfF d l).1.dead = false ∧ (wfF d l).1.wet = [] ∧ Pl n 0 (wfF d l).1 ∧ (∀ j, sureB (wfF d l).1 j = updW l (nowB d) j) ∧ ∀ j, nowB (wfF d l).1 j = updW l (nowB d) j) ∨
    ((wfF d l).2 = 12 ∧ (wfF d l).1.dead = true ∧ ∃ k, k ≤ l.length ∧ Pl n (i + k) (wfF d l).1 ∧ (∀ j, sureB (wfF d l).1 j = sureB d j) ∧ ∀ j, nowB (wfF d l).1 j = updW (l.take k) (nowB d) j) := by
  obtain ⟨k, g1, g2, g3, g4, g5⟩ := wrs_is l i d hp hd hw
  unfold wfF
  rcases g5 with ⟨a1, a2, a3⟩ | ⟨a1, a2⟩
  · rw [if_pos a1]
    subst a2
    rw [List.take_length] at g4
    rcases flush_is g2 with ⟨_, b1, b2, b3, b4, b5⟩ | ⟨_, b1, b2, b3, b4, b5⟩
    · refine .inl ⟨b1, b2, b3, ?_, fun j => (b4 j).trans (g4 j), fun j => (b5 j).trans (g4 j)⟩
      have := flD_pl g2
      exact ⟨⟨this.good.sure, by rw [b3]; exact Nat.le_refl _, this.good.lo, this.good.hi⟩, this.rise, this.inn⟩
    · exact .inr ⟨b1, b2, l.length, Nat.le_refl _, flD_pl g2, fun j => (b4 j).trans (g3 j), fun j => by rw [List.take_length]; exact (b5 j).trans (g4 j)⟩
  · rw [if_neg (by omega)]
    exact .inr ⟨a1, a2, k, g1, g2, g3, g4⟩

/-- A disk that may do any number of deeds does them. -/
theorem wrs_left : ∀ (l : List (Int × ByteArray)) {n i : Nat} {d : DK}, Pl n i d → d.dead = false → d.left = -1 → WsOk n l → (wrsF d l).2 = 0 ∧ (wrsF d l).1.dead = false ∧ (wrsF d l).1.left = -1
  | [], _, _, _, _, hd, hl, _ => ⟨rfl, hd, hl⟩
  | p :: l, n, i, d, hp, hd, hl, hw => by
    obtain ⟨h0, h1, h2⟩ := hw p (by simp)
    obtain ⟨b1, b2⟩ := deed_any hd hl
    have hok : wrOk d p.1 p.2 := ⟨h0, by rw [hp.good.sure]; exact h1, by omega⟩
    have e1 : wrE d p.1 p.2 = 0 := by unfold wrE; rw [if_pos hok, if_pos b1]
    have e2 : (wrD d p.1 p.2).dead = false ∧ (wrD d p.1 p.2).left = -1 := by
      unfold wrD writeD
      rw [if_pos hok, if_pos b1, b2]
      exact ⟨hd, hl⟩
    unfold wrsF
    rw [if_pos e1]
    exact wrs_left l (wrD_pl hp p.1 p.2) e2.1 e2.2 (fun q hq => hw q (by simp [hq]))
theorem wf_left {n i : Nat} {d : DK} {l : List (Int × ByteArray)} (hp : Pl n i d) (hd : d.dead = false) (hl : d.left = -1) (hw : WsOk n l) : (wfF d l).2 = 0 ∧ (wfF d l).1.left = -1 := by
  obtain ⟨a1, a2, a3⟩ := wrs_left l hp hd hl hw
  obtain ⟨b1, b2⟩ := deed_any a2 a3
  unfold wfF
  rw [if_pos a1]
  unfold flE flD
  rw [if_pos b1, if_pos b1, b2]
  exact ⟨rfl, a3⟩

end Go.Proofs.YtgeiemccjionpaaGreat.Vlt
