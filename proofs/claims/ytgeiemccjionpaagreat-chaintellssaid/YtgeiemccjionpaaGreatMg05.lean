/- Contracts and plain mathematics that the statement's proof wants: no statement is proved here, nothing is assumed. -/
import Derived.Test.YtgeiemccjionpaaGreatMg01
import Derived.Test.YtgeiemccjionpaaGreatMg03
import Derived.Test.YtgeiemccjionpaaGreatMg04
/- EPlain -/
namespace Go.Proofs.YtgeiemccjionpaaGreat.Ent
open Go.RowKit
open Wire (TK twoL fourL numL numV numS inside good markS)
open Crc (sealB opens bur oth bur_len bur_getD bur_opens getD_of ext_getD)
open Nm (begins)

/-- An entry of the journal. -/
structure En where
  seq : Int
  index : Int
  last : Bool
  no : Int
  data : List UInt8

theorem En.eq_iff (x y : En) : x = y ↔ x.seq = y.seq ∧ x.index = y.index ∧ x.last = y.last ∧ x.no = y.no ∧ x.data = y.data := by
  cases x; cases y; simp

instance : DecidableEq En := fun x y => decidable_of_iff _ (En.eq_iff x y).symm

def zeroE : En := ⟨0, 0, false, 0, []⟩
def dataN (last : Bool) : Nat := if last then 0 else 208
def pagK : List UInt8 := [74, 80, 65, 71]
def endK : List UInt8 := [74, 69, 78, 68]
def leafK : List UInt8 := [76, 69, 65, 70]
def kindL (last : Bool) : List UInt8 := if last then endK else pagK
theorem kindL_len (b : Bool) : (kindL b).length = 4 := by cases b <;> rfl

def rightE (x : En) : Bool := decide (1 ≤ x.seq) && (decide (x.seq ≤ 2147483647) && (decide (0 ≤ x.index) && (decide (x.index ≤ 255) && (decide (0 ≤ x.no) && (decide (x.no ≤ 511) && decide (x.data.length = dataN x.last))))))

theorem right_iff {x : En} : rightE x = true ↔ 1 ≤ x.seq ∧ x.seq ≤ 2147483647 ∧ 0 ≤ x.index ∧ x.index ≤ 255 ∧ 0 ≤ x.no ∧ x.no ≤ 511 ∧ x.data.length = dataN x.last := by
  unfold rightE
  simp only [Bool.and_eq_true, decide_eq_true_eq]

def zer (k : Nat) : List UInt8 := List.replicate k 0
theorem zer_len (k : Nat) : (zer k).length = k := by simp [zer]
theorem zer_take : (zer 256).take 4 = [0, 0, 0, 0] := by decide +kernel
theorem kind_zer (b : Bool) : kindL b ≠ [0, 0, 0, 0] := by cases b <;> decide
theorem kind_leaf (b : Bool) : kindL b ≠ leafK := by cases b <;> decide
def fillL (l : List UInt8) : List UInt8 := l ++ zer (252 - l.length)
def sectorL (l : List UInt8) : List UInt8 := sealB (fillL l)
def restL (x : En) : List UInt8 := fourL x.seq ++ (twoL x.index ++ (twoL x.no ++ x.data))
def headL (x : En) : List UInt8 := kindL x.last ++ restL x
def printL (x : En) : List UInt8 := sectorL (headL x)

/-- What is read behind the kind. -/
def g1 (t : TK) : TK := numS 4 1 2147483647 t
def g2 (t : TK) : TK := numS 2 0 255 (g1 t)
def g3 (t : TK) : TK := numS 2 0 511 (g2 t)
def readE (last : Bool) (t : TK) : En := ⟨(numV 4 1 2147483647 t : Nat), (numV 2 0 255 (g1 t) : Nat), last, (numV 2 0 511 (g2 t) : Nat), (g3 t).rest.take (dataN last)⟩
def lastB (s : List UInt8) : Bool := begins s endK
def tapeG (s : List UInt8) : TK := markS (kindL (lastB s)) ⟨s, false⟩
def guessE (s : List UInt8) : En := readE (lastB s) (tapeG s)
def isE (s : List UInt8) : Bool := rightE (guessE s) && (printL (guessE s) == s)
def parseE (s : List UInt8) : En := if isE s then guessE s else zeroE

def leafL (no : Int) (data : List UInt8) : List UInt8 := sectorL (leafK ++ (twoL no ++ data))
def tapeH (s : List UInt8) (no : Int) : TK := numS 2 no no (markS leafK ⟨s, false⟩)
def dataH (s : List UInt8) (no : Int) : List UInt8 := (tapeH s no).rest.take 208
def homeB (s : List UInt8) (no : Int) : Bool := s == zer 256 || (!(tapeH s no).bad && leafL no (dataH s no) == s)
def homeV (s : List UInt8) (no : Int) : List UInt8 := if s == zer 256 then zer 208 else if !(tapeH s no).bad && leafL no (dataH s no) == s then dataH s no else []

theorem fill_len {l : List UInt8} (h : l.length ≤ 252) : (fillL l).length = 252 := by
  unfold fillL; rw [List.length_append, zer_len]; omega
theorem sector_len {l : List UInt8} (h : l.length ≤ 252) : (sectorL l).length = 256 := by
  unfold sectorL; rw [Crc.sealB_len, fill_len h]
theorem restL_len (x : En) : (restL x).length = 8 + x.data.length := by
  simp only [restL, List.length_append, Wire.twoL_len, Wire.fourL_len]; omega
theorem headL_len (x : En) : (headL x).length = 12 + x.data.length := by
  unfold headL; rw [List.length_append, kindL_len, restL_len]; omega
theorem dataN_le (b : Bool) : dataN b ≤ 208 := by cases b <;> decide
theorem right_data {x : En} (h : rightE x = true) : x.data.length ≤ 208 := by
  have := (right_iff.1 h).2.2.2.2.2.2
  rw [this]; exact dataN_le _
theorem print_len {x : En} (h : rightE x = true) : (printL x).length = 256 := by
  refine sector_len ?_
  have := right_data h
  rw [headL_len]; omega
theorem leaf_len {no : Int} {d : List UInt8} (h : d.length ≤ 208) : (leafL no d).length = 256 := by
  refine sector_len ?_
  simp only [leafK, List.length_append, Wire.twoL_len, List.length_cons, List.length_nil]; omega

/-- A sector: what it begins with, and what stands behind. -/
theorem sector_is (l : List UInt8) : ∃ z, sectorL l = l ++ z := by
  unfold sectorL sealB fillL
  exact ⟨zer (252 - l.length) ++ Crc.tailB (Crc.crcN (l ++ zer (252 - l.length))), by rw [List.append_assoc]⟩
theorem print_is (x : En) : ∃ z, printL x = kindL x.last ++ (restL x ++ z) := by
  obtain ⟨z, hz⟩ := sector_is (headL x)
  exact ⟨z, by unfold printL; rw [hz]; unfold headL; rw [List.append_assoc]⟩
theorem leaf_is (no : Int) (d : List UInt8) : ∃ z, leafL no d = leafK ++ (twoL no ++ (d ++ z)) := by
  obtain ⟨z, hz⟩ := sector_is (leafK ++ (twoL no ++ d))
  exact ⟨z, by unfold leafL; rw [hz, List.append_assoc, List.append_assoc]⟩

theorem mark_app (m z : List UInt8) : markS m ⟨m ++ z, false⟩ = ⟨z, false⟩ := by
  unfold markS
  rw [Wire.good_app m z m.length rfl, if_pos rfl, Wire.take_app m z _ rfl, Wire.drop_app m z _ rfl]
  simp
theorem mark_bad {m : List UInt8} {s : List UInt8} (h : s.take m.length ≠ m) : (markS m ⟨s, false⟩).bad = true := by
  unfold markS
  split
  · simpa using h
  · rfl
theorem mark_good {m s : List UInt8} (h : m.length ≤ s.length) (he : s.take m.length = m) : markS m ⟨s, false⟩ = ⟨s.drop m.length, false⟩ := by
  unfold markS
  rw [Wire.good_yes h, if_pos rfl]
  simp [he]
theorem num_bad {k : Nat} {lo hi : Int} {t : TK} (h : t.bad = true) : (numS k lo hi t).bad = true := by
  unfold numS good
  rw [h]
  rfl

theorem begins_kind (b : Bool) (z : List UInt8) : begins (kindL b ++ z) endK = b := by
  unfold begins
  have h : endK.length ≤ (kindL b ++ z).length := by rw [List.length_append, kindL_len]; show 4 ≤ _; omega
  rw [decide_eq_true h, Bool.true_and, show endK.length = 4 from rfl, Wire.take_app (kindL b) z 4 (kindL_len b)]
  cases b <;> rfl

/-- An entry's bytes are read as it was. -/
theorem read_rest {x : En} (h : rightE x = true) (z : List UInt8) : readE x.last ⟨restL x ++ z, false⟩ = x ∧ (g3 ⟨restL x ++ z, false⟩).bad = false := by
  obtain ⟨h1, h2, h3, h4, h5, h6, h7⟩ := right_iff.1 h
  have q : restL x ++ z = fourL x.seq ++ (twoL x.index ++ (twoL x.no ++ (x.data ++ z))) := by simp only [restL, List.append_assoc]
  rw [q]
  have n1 : (numL (fourL x.seq) : Int) = x.seq := by rw [Wire.numL_fourL]; omega
  have n2 : (numL (twoL x.index) : Int) = x.index := by rw [Wire.numL_twoL]; omega
  have n3 : (numL (twoL x.no) : Int) = x.no := by rw [Wire.numL_twoL]; omega
  have a1 := Wire.numS_app (fourL x.seq) (twoL x.index ++ (twoL x.no ++ (x.data ++ z))) 4 1 2147483647 rfl (by omega) (by omega)
  have b1 := Wire.numV_app (fourL x.seq) (twoL x.index ++ (twoL x.no ++ (x.data ++ z))) 4 1 2147483647 rfl (by omega) (by omega)
  have a2 := Wire.numS_app (twoL x.index) (twoL x.no ++ (x.data ++ z)) 2 0 255 rfl (by omega) (by omega)
  have b2 := Wire.numV_app (twoL x.index) (twoL x.no ++ (x.data ++ z)) 2 0 255 rfl (by omega) (by omega)
  have a3 := Wire.numS_app (twoL x.no) (x.data ++ z) 2 0 511 rfl (by omega) (by omega)
  have b3 := Wire.numV_app (twoL x.no) (x.data ++ z) 2 0 511 rfl (by omega) (by omega)
  constructor
  · rw [En.eq_iff]
    simp only [readE, g3, g2, g1, a1, b1, a2, b2, a3, b3, n1, n2, n3, true_and]
    exact Wire.take_app _ _ _ h7
  · simp only [g3, g2, g1, a1, a2, a3]

theorem guess_print {x : En} (h : rightE x = true) : guessE (printL x) = x ∧ (g3 (tapeG (printL x))).bad = false := by
  obtain ⟨z, hz⟩ := print_is x
  have hl : lastB (printL x) = x.last := by unfold lastB; rw [hz]; exact begins_kind _ _
  have ht : tapeG (printL x) = ⟨restL x ++ z, false⟩ := by
    unfold tapeG
    rw [hl, hz]
    exact mark_app _ _
  unfold guessE
  rw [hl, ht]
  exact read_rest h z

theorem is_print {x : En} (h : rightE x = true) : isE (printL x) = true := by
  unfold isE
  rw [(guess_print h).1, h]
  simp
theorem parse_print {x : En} (h : rightE x = true) : parseE (printL x) = x := by
  unfold parseE
  rw [is_print h, if_pos rfl, (guess_print h).1]
theorem print_inj {x y : En} (hx : rightE x = true) (hy : rightE y = true) (h : printL x = printL y) : x = y := by
  rw [← parse_print hx, ← parse_print hy, h]
theorem is_opens {s : List UInt8} (h : isE s = true) : opens s = true := by
  unfold isE at h
  rw [Bool.and_eq_true, beq_iff_eq] at h
  rw [← h.2]
  exact Crc.opens_seal _
theorem is_ends {s : List UInt8} (h : isE s = true) : s.length = 256 ∧ s.take 4 = kindL (lastB s) ∧ (g3 (tapeG s)).bad = false := by
  unfold isE at h
  rw [Bool.and_eq_true, beq_iff_eq] at h
  obtain ⟨h1, h2⟩ := h
  have h3 := (guess_print h1).2
  obtain ⟨z, hz⟩ := print_is (guessE s)
  have h4 := print_len h1
  rw [h2] at h3 h4 hz
  refine ⟨h4, ?_, h3⟩
  have e : (guessE s).last = lastB s := rfl
  rw [e] at hz
  have := congrArg (List.take 4) hz
  rw [Wire.take_app _ _ 4 (kindL_len _)] at this
  exact this

theorem leaf_ne {no : Int} {d : List UInt8} : leafL no d ≠ zer 256 := by
  obtain ⟨z, hz⟩ := leaf_is no d
  rw [hz]
  intro h
  have := congrArg (fun l => l.take 4) h
  simp only [Wire.take_app _ _ 4 (show leafK.length = 4 from rfl), zer_take] at this
  exact absurd this (by decide)
theorem tape_leaf {no : Int} (d : List UInt8) (h0 : 0 ≤ no) (h1 : no ≤ 65535) : ∃ z, tapeH (leafL no d) no = ⟨d ++ z, false⟩ := by
  obtain ⟨z, hz⟩ := leaf_is no d
  refine ⟨z, ?_⟩
  have n3 : (numL (twoL no) : Int) = no := by rw [Wire.numL_twoL]; omega
  unfold tapeH
  rw [hz, mark_app]
  exact Wire.numS_app (twoL no) (d ++ z) 2 no no rfl (by omega) (by omega)
theorem data_leaf {no : Int} {d : List UInt8} (h0 : 0 ≤ no) (h1 : no ≤ 65535) (hd : d.length = 208) : dataH (leafL no d) no = d := by
  obtain ⟨z, hz⟩ := tape_leaf d h0 h1
  unfold dataH
  rw [hz]
  exact Wire.take_app _ _ _ hd
theorem home_leaf {no : Int} {d : List UInt8} (h0 : 0 ≤ no) (h1 : no ≤ 65535) (hd : d.length = 208) : homeB (leafL no d) no = true ∧ homeV (leafL no d) no = d := by
  obtain ⟨z, hz⟩ := tape_leaf d h0 h1
  have hd' := data_leaf h0 h1 hd
  have e : (leafL no d == zer 256) = false := by simpa using leaf_ne
  unfold homeB homeV
  rw [e, hd', hz]
  simp
theorem home_is {s : List UInt8} {no : Int} (h : homeB s no = true) : s = zer 256 ∨ (s.take 4 = leafK ∧ opens s = true ∧ s.length = 256) := by
  unfold homeB at h
  rw [Bool.or_eq_true, Bool.and_eq_true, beq_iff_eq, beq_iff_eq] at h
  rcases h with h | ⟨_, h⟩
  · exact .inl h
  · refine .inr ?_
    obtain ⟨z, hz⟩ := leaf_is no (dataH s no)
    have hl : (leafL no (dataH s no)).length = 256 := leaf_len (by unfold dataH; rw [List.length_take]; omega)
    rw [h] at hz hl
    refine ⟨?_, ?_, hl⟩
    · rw [hz]; exact Wire.take_app _ _ 4 rfl
    · rw [← h]; exact Crc.opens_seal _

/-- No entry is a page, and no page an entry. -/
theorem home_print {x : En} (no : Int) : homeB (printL x) no = false := by
  obtain ⟨z, hz⟩ := print_is x
  cases h : homeB (printL x) no with
  | false => rfl
  | true =>
    rcases home_is h with h | ⟨h, _⟩
    · rw [hz] at h
      have := congrArg (fun l => l.take 4) h
      simp only [Wire.take_app _ _ 4 (kindL_len _), zer_take] at this
      exact absurd this (kind_zer _)
    · rw [hz] at h
      rw [Wire.take_app _ _ 4 (kindL_len _)] at h
      exact absurd h (kind_leaf _)
theorem is_leaf (no : Int) (d : List UInt8) : isE (leafL no d) = false := by
  obtain ⟨z, hz⟩ := leaf_is no d
  cases h : isE (leafL no d) with
  | false => rfl
  | true =>
    have := (is_ends h).2.1
    rw [hz, Wire.take_app _ _ 4 rfl] at this
    exact absurd this.symm (kind_leaf _)
theorem is_zer (n : Nat) : isE (zer n) = false := by
  cases h : isE (zer n) with
  | false => rfl
  | true =>
    have h2 := (is_ends h).2.1
    have h1 := (is_ends h).1
    rw [zer_len] at h1
    subst h1
    rw [zer_take] at h2
    exact absurd h2.symm (kind_zer _)

/-- A page's sector is no other page's. -/
theorem home_other {no m : Int} {d : List UInt8} (h0 : 0 ≤ no) (h1 : no ≤ 65535) (hm : m ≠ no) : homeB (leafL no d) m = false := by
  obtain ⟨z, hz⟩ := leaf_is no d
  have n3 : (numL (twoL no) : Int) = no := by rw [Wire.numL_twoL]; omega
  have e : (leafL no d == zer 256) = false := by simpa using leaf_ne
  have hb : (tapeH (leafL no d) m).bad = true := by
    unfold tapeH
    rw [hz, mark_app]
    unfold numS
    rw [Wire.good_app (twoL no) _ 2 rfl, if_pos rfl, Wire.inside_app _ _ 2 m m rfl, n3]
    simp only [Bool.not_eq_true', Bool.and_eq_false_iff, decide_eq_false_iff_not]
    omega
  unfold homeB
  rw [e, hb]
  rfl

/-- Bytes that aren't other leave all as it was. -/
theorem bur_same {x f : List UInt8} {k i : Nat} (hf : i ≤ f.length) (h : k + i ≤ x.length) (ho : oth f i = false) : bur x k f i = x := by
  refine ext_getD (bur_len hf h) fun j => ?_
  rw [bur_getD hf h]
  by_cases g : k ≤ j ∧ j < k + i
  · rw [if_pos g]
    have hz : f.getD (j - k) 0 = 0 := by
      unfold oth at ho
      rw [List.any_eq_false] at ho
      have hj : j - k < f.length := by omega
      have hm : f[j - k] ∈ f.take i := by
        rw [List.mem_take_iff_getElem]
        exact ⟨j - k, by omega, rfl⟩
      have := ho _ hm
      rw [getD_of hj]
      simpa using this
    rw [hz]
    simp
  · rw [if_neg g]
    simp

/-- Up to four other bytes side by side in an entry's sector are told. -/
theorem turnedE {x : En} (hr : rightE x = true) {f : List UInt8} {k i : Nat} (hf : i ≤ f.length) (h4 : i ≤ 4) (h : k + i ≤ 256) : isE (bur (printL x) k f i) = !oth f i := by
  have hl := print_len hr
  cases ho : oth f i with
  | false =>
    rw [bur_same hf (by omega) ho]
    exact is_print hr
  | true =>
    have hb := bur_opens (x := printL x) (k := k) hf h4 (by omega) (by omega) (Crc.opens_seal (fillL (headL x)))
    rw [ho] at hb
    cases hi : isE (bur (printL x) k f i) with
    | false => rfl
    | true =>
      have := is_opens hi
      have hb : opens (bur (printL x) k f i) = false := hb
      rw [hb] at this
      cases this

theorem leaf_zero : opens (leafK ++ zer 252) = false := by decide +kernel

/-- No page's sector becomes noughts by four other bytes side by side. -/
theorem leaf_not {no : Int} {d f : List UInt8} {k i : Nat} (hd : d.length = 208) (hf : i ≤ f.length) (h4 : i ≤ 4) (h : k + i ≤ 256) : bur (leafL no d) k f i ≠ zer 256 := by
  intro hz
  have hl : (leafL no d).length = 256 := leaf_len (by omega)
  have hj : ∀ j, (leafL no d).getD j 0 ^^^ (if k ≤ j ∧ j < k + i then f.getD (j - k) 0 else 0) = 0 := by
    intro j
    rw [← bur_getD hf (by omega), hz]
    unfold zer
    rw [List.getD_eq_getElem?_getD, List.getElem?_replicate]
    split <;> rfl
  obtain ⟨z, hs⟩ := leaf_is no d
  have h0 : k = 0 := by
    have := hj 0
    by_cases hk : k ≤ 0
    · omega
    · rw [if_neg (by omega), hs] at this
      simp [leafK] at this
  subst h0
  have he : leafL no d = leafK ++ zer 252 := by
    refine ext_getD (by rw [hl, List.length_append, zer_len]; rfl) fun j => ?_
    by_cases hj4 : j < 4
    · rw [hs]
      rw [List.getD_eq_getElem?_getD, List.getD_eq_getElem?_getD, List.getElem?_append_left (by exact hj4), List.getElem?_append_left (by exact hj4)]
    · have := hj j
      rw [if_neg (by omega)] at this
      rw [UInt8.xor_zero] at this
      rw [this, List.getD_eq_getElem?_getD, List.getElem?_append_right (by show 4 ≤ j; omega)]
      unfold zer
      rw [List.getElem?_replicate]
      split <;> rfl
  have h1 := Crc.opens_seal (fillL (leafK ++ (twoL no ++ d)))
  have h2 : opens (leafL no d) = true := h1
  rw [he, leaf_zero] at h2
  cases h2

/-- The same of a page's sector. -/
theorem turnedH {no : Int} {d : List UInt8} (h0 : 0 ≤ no) (h1 : no ≤ 65535) (hd : d.length = 208) {f : List UInt8} {k i : Nat} (hf : i ≤ f.length) (h4 : i ≤ 4) (h : k + i ≤ 256) : homeB (bur (leafL no d) k f i) no = !oth f i := by
  have hl : (leafL no d).length = 256 := leaf_len (by omega)
  cases ho : oth f i with
  | false =>
    rw [bur_same hf (by omega) ho]
    exact (home_leaf h0 h1 hd).1
  | true =>
    have hb := bur_opens (x := leafL no d) (k := k) hf h4 (by omega) (by omega) (Crc.opens_seal (fillL (leafK ++ (twoL no ++ d))))
    rw [ho] at hb
    have hb : opens (bur (leafL no d) k f i) = false := hb
    cases hi : homeB (bur (leafL no d) k f i) no with
    | false => rfl
    | true =>
      rcases home_is hi with hz | ⟨_, hz, _⟩
      · exact absurd hz (leaf_not hd hf h4 h)
      · rw [hb] at hz
        cases hz

end Go.Proofs.YtgeiemccjionpaaGreat.Ent

/- VPlain -/
namespace Go.Proofs.YtgeiemccjionpaaGreat.Vlt
open Go.RowKit
open Ent (En rightE right_iff parseE isE printL leafL homeB homeV zer zer_len is_print parse_print is_ends home_leaf is_zer)

/-- A page. -/
structure Lf where
  no : Int
  data : List UInt8

theorem Lf.eq_iff (x y : Lf) : x = y ↔ x.no = y.no ∧ x.data = y.data := by
  cases x; cases y; simp
instance : DecidableEq Lf := fun x y => decidable_of_iff _ (Lf.eq_iff x y).symm

/-- The k-th entry of a commit of these pages. -/
def entK (s : Int) (l : List Lf) (k : Nat) : En :=
  if k < l.length then ⟨s, k, false, (l.getD k ⟨0, []⟩).no, (l.getD k ⟨0, []⟩).data⟩ else ⟨s, k, true, l.length, []⟩

/-- The journal's sector k has a page of a transaction q, as its k-th entry. -/
def PageAt (n : Int) (q : Int) (k : Nat) (s : List UInt8) (x : Lf) : Prop :=
  isE s = true ∧ (parseE s).seq = q ∧ (parseE s).index = k ∧ (parseE s).last = false ∧ (parseE s).no < n ∧ x = ⟨(parseE s).no, (parseE s).data⟩
/-- It has the last entry of a transaction q of k pages. -/
def LastAt (q : Int) (k : Nat) (s : List UInt8) : Prop :=
  isE s = true ∧ (parseE s).seq = q ∧ (parseE s).index = k ∧ (parseE s).last = true ∧ (parseE s).no = k

/-- The journal has a transaction of these pages whole. -/
def Whole (n : Int) (J : Nat) (S : Nat → List UInt8) (l : List Lf) : Prop :=
  ∃ q, l.length < J ∧ (∀ k, k < l.length → PageAt n q k (S k) (l.getD k ⟨0, []⟩)) ∧ LastAt q l.length (S l.length)

theorem Whole.seq0 {n : Int} {J : Nat} {S : Nat → List UInt8} {l : List Lf} (h : Whole n J S l) :
    l.length < J ∧ (∀ k, k < l.length → PageAt n (parseE (S 0)).seq k (S k) (l.getD k ⟨0, []⟩)) ∧ LastAt (parseE (S 0)).seq l.length (S l.length) := by
  obtain ⟨q, h1, h2, h3⟩ := h
  have e : q = (parseE (S 0)).seq := by
    by_cases h0 : 0 < l.length
    · exact (h2 0 h0).2.1.symm
    · have : l.length = 0 := by omega
      rw [this] at h3
      exact h3.2.1.symm
  subst e
  exact ⟨h1, h2, h3⟩

theorem Whole.same {n : Int} {J : Nat} {S : Nat → List UInt8} {l m : List Lf} (h : Whole n J S l) (h' : Whole n J S m) : l = m := by
  obtain ⟨a1, a2, a3⟩ := h.seq0
  obtain ⟨b1, b2, b3⟩ := h'.seq0
  have e : l.length = m.length := by
    rcases Nat.lt_trichotomy l.length m.length with h | h | h
    · have x := (b2 _ h).2.2.2.1
      rw [a3.2.2.2.1] at x; cases x
    · exact h
    · have x := (a2 _ h).2.2.2.1
      rw [b3.2.2.2.1] at x; cases x
  refine List.ext_getElem e fun k h1 h2 => ?_
  have x := (a2 k h1).2.2.2.2.2
  have y := (b2 k h2).2.2.2.2.2
  rw [← y] at x
  rw [List.getD_eq_getElem?_getD, List.getD_eq_getElem?_getD, List.getElem?_eq_getElem h1, List.getElem?_eq_getElem h2] at x
  exact x

open Classical in
/-- The pages of the transaction that the journal has whole. -/
noncomputable def jl (n : Int) (J : Nat) (S : Nat → List UInt8) : List Lf := if h : ∃ l, Whole n J S l then h.choose else []
theorem jl_is {n : Int} {J : Nat} {S : Nat → List UInt8} {l : List Lf} (h : Whole n J S l) : jl n J S = l := by
  have hex : ∃ l, Whole n J S l := ⟨l, h⟩
  unfold jl
  rw [dif_pos hex]
  exact hex.choose_spec.same h
theorem jl_none {n : Int} {J : Nat} {S : Nat → List UInt8} (h : ∀ l, ¬ Whole n J S l) : jl n J S = [] := by
  unfold jl
  rw [dif_neg (fun ⟨l, k⟩ => h l k)]

/-- The greatest number of any entry of the first k sectors. -/
def mostF (S : Nat → List UInt8) : Nat → Int
  | 0 => 0
  | k + 1 => if isE (S k) = true then max (mostF S k) (parseE (S k)).seq else mostF S k

theorem is_right {s : List UInt8} (h : isE s = true) : rightE (parseE s) = true := by
  have h' := h
  unfold isE at h'
  rw [Bool.and_eq_true] at h'
  unfold parseE
  rw [h, if_pos rfl]
  exact h'.1
theorem most_nn (S : Nat → List UInt8) : ∀ k, 0 ≤ mostF S k
  | 0 => Int.le_refl _
  | k + 1 => by
    have := most_nn S k
    unfold mostF
    split <;> omega
theorem most_le {S : Nat → List UInt8} {m : Int} (hm : 0 ≤ m) : ∀ k, (∀ j, j < k → isE (S j) = true → (parseE (S j)).seq ≤ m) → mostF S k ≤ m
  | 0, _ => hm
  | k + 1, h => by
    have h1 := most_le hm k fun j hj => h j (by omega)
    unfold mostF
    split
    · have := h k (by omega) (by assumption)
      omega
    · exact h1
theorem le_most {S : Nat → List UInt8} : ∀ k j, j < k → isE (S j) = true → (parseE (S j)).seq ≤ mostF S k
  | 0, _, h, _ => absurd h (by omega)
  | k + 1, j, h, hs => by
    unfold mostF
    by_cases e : j = k
    · subst e
      rw [if_pos hs]
      omega
    · have := le_most k j (by omega) hs
      split <;> omega
theorem most_ext {S T : Nat → List UInt8} : ∀ k, (∀ j, j < k → S j = T j) → mostF S k = mostF T k
  | 0, _ => rfl
  | k + 1, h => by
    unfold mostF
    rw [h k (by omega), most_ext k fun j hj => h j (by omega)]
theorem Whole.ext {n : Int} {J : Nat} {S T : Nat → List UInt8} {l : List Lf} (e : ∀ j, j < J → S j = T j) (h : Whole n J S l) : Whole n J T l := by
  obtain ⟨q, h1, h2, h3⟩ := h
  exact ⟨q, h1, fun k hk => by rw [← e k (by omega)]; exact h2 k hk, by rw [← e _ h1]; exact h3⟩
theorem jl_ext {n : Int} {J : Nat} {S T : Nat → List UInt8} (e : ∀ j, j < J → S j = T j) : jl n J S = jl n J T := by
  by_cases h : ∃ l, Whole n J S l
  · obtain ⟨l, h⟩ := h
    rw [jl_is h, jl_is (h.ext e)]
  · rw [jl_none fun l k => h ⟨l, k⟩, jl_none fun l k => h ⟨l, k.ext fun j hj => (e j hj).symm⟩]

/-- Pages that a commit may have. -/
structure LOk (n : Int) (l : List Lf) : Prop where
  lo : ∀ x ∈ l, 0 ≤ x.no
  hi : ∀ x ∈ l, x.no < n
  len : ∀ x ∈ l, x.data.length = 208

theorem getD_mem {l : List Lf} {k : Nat} (h : k < l.length) : l.getD k ⟨0, []⟩ ∈ l := by
  rw [List.getD_eq_getElem?_getD, List.getElem?_eq_getElem h]
  exact List.getElem_mem h

theorem ent_right {n s : Int} {J : Nat} {l : List Lf} (hl : LOk n l) (hn : n ≤ 512) (h1 : 1 ≤ s) (h2 : s ≤ 2147483647) (hJ : J ≤ 256) (hc : l.length < J) {k : Nat} (hk : k ≤ l.length) : rightE (entK s l k) = true := by
  unfold entK
  split
  · rename_i h
    have m := getD_mem h
    have a := hl.lo _ m
    have b := hl.hi _ m
    have c := hl.len _ m
    rw [right_iff]
    exact ⟨h1, h2, by dsimp only; omega, by dsimp only; omega, a, by dsimp only; omega, c⟩
  · rw [right_iff]
    exact ⟨h1, h2, by dsimp only; omega, by dsimp only; omega, by dsimp only; omega, by dsimp only; omega, rfl⟩

section
variable {n s : Int} {J : Nat} {l : List Lf} {S S' : Nat → List UInt8}

/-- Entries of a commit, some of them, over a journal of elder entries: it has whole what it had, or all of the commit, or nothing. -/
theorem mixA (hl : LOk n l) (hn : n ≤ 512) (h1 : 1 ≤ s) (h2 : s ≤ 2147483647) (hJ : J ≤ 256) (hc : l.length < J)
    (hold : ∀ k, k < J → isE (S k) = true → (parseE (S k)).seq < s)
    (hmix : ∀ k, k < J → S' k = S k ∨ (k ≤ l.length ∧ S' k = printL (entK s l k))) : jl n J S' = [] ∨ jl n J S' = jl n J S ∨ jl n J S' = l := by
  by_cases hw : ∃ m, Whole n J S' m
  · obtain ⟨m, hw⟩ := hw
    rw [jl_is hw]
    obtain ⟨q, w1, w2, w3⟩ := hw
    have hE : ∀ k, k ≤ m.length → isE (S' k) = true ∧ (parseE (S' k)).seq = q := by
      intro k hk
      by_cases e : k < m.length
      · exact ⟨(w2 k e).1, (w2 k e).2.1⟩
      · have : k = m.length := by omega
        subst this
        exact ⟨w3.1, w3.2.1⟩
    by_cases hq : q = s
    · subst hq
      refine .inr (.inr ?_)
      have hN : ∀ k, k ≤ m.length → k ≤ l.length ∧ S' k = printL (entK q l k) := by
        intro k hk
        rcases hmix k (by omega) with e | e
        · obtain ⟨a, b⟩ := hE k hk
          rw [e] at a b
          have := hold k (by omega) a
          omega
        · exact e
      have hP : ∀ k, k ≤ m.length → parseE (S' k) = entK q l k := by
        intro k hk
        obtain ⟨a, b⟩ := hN k hk
        rw [b]
        exact parse_print (ent_right hl hn h1 h2 hJ hc a)
      have hlen : m.length = l.length := by
        have a := w3.2.2.2.1
        rw [hP _ (Nat.le_refl _)] at a
        unfold entK at a
        split at a
        · cases a
        · have := (hN _ (Nat.le_refl m.length)).1
          omega
      refine List.ext_getElem hlen fun k g1 g2 => ?_
      have a := (w2 k g1).2.2.2.2.2
      rw [hP k (by omega)] at a
      unfold entK at a
      rw [if_pos g2, List.getD_eq_getElem?_getD, List.getD_eq_getElem?_getD, List.getElem?_eq_getElem g1, List.getElem?_eq_getElem g2] at a
      exact a
    · refine .inr (.inl ?_)
      have hO : ∀ k, k ≤ m.length → S' k = S k := by
        intro k hk
        rcases hmix k (by omega) with e | ⟨e1, e2⟩
        · exact e
        · obtain ⟨_, b⟩ := hE k hk
          rw [e2, parse_print (ent_right hl hn h1 h2 hJ hc e1)] at b
          exfalso
          apply hq
          rw [← b]
          unfold entK
          split <;> rfl
      symm
      refine jl_is ⟨q, w1, fun k hk => ?_, ?_⟩
      · rw [← hO k (by omega)]; exact w2 k hk
      · rw [← hO _ (Nat.le_refl _)]; exact w3
  · exact .inl (jl_none fun m k => hw ⟨m, k⟩)

/-- All of a commit's entries are there. -/
theorem allE (hl : LOk n l) (hn : n ≤ 512) (h1 : 1 ≤ s) (h2 : s ≤ 2147483647) (hJ : J ≤ 256) (hc : l.length < J)
    (hall : ∀ k, k ≤ l.length → S k = printL (entK s l k)) : jl n J S = l := by
  have hr : ∀ k, k ≤ l.length → rightE (entK s l k) = true := fun k hk => ent_right hl hn h1 h2 hJ hc hk
  refine jl_is ⟨s, hc, fun k hk => ?_, ?_⟩
  · have h := hr k (by omega)
    have e := parse_print h
    have m := hl.hi _ (getD_mem hk)
    unfold PageAt
    rw [hall k (by omega), e, is_print h]
    unfold entK
    rw [if_pos hk]
    exact ⟨rfl, rfl, rfl, rfl, m, rfl⟩
  · have h := hr _ (Nat.le_refl l.length)
    have e := parse_print h
    unfold LastAt
    rw [hall _ (Nat.le_refl _), e, is_print h]
    unfold entK
    rw [if_neg (by omega)]
    exact ⟨rfl, rfl, rfl, rfl, rfl⟩

/-- The numbers in a journal that was mixed so. -/
theorem mix_seq (hl : LOk n l) (hn : n ≤ 512) (h1 : 1 ≤ s) (h2 : s ≤ 2147483647) (hJ : J ≤ 256) (hc : l.length < J)
    (hold : ∀ k, k < J → isE (S k) = true → (parseE (S k)).seq < s)
    (hmix : ∀ k, k < J → S' k = S k ∨ (k ≤ l.length ∧ S' k = printL (entK s l k))) : ∀ k, k < J → isE (S' k) = true → (parseE (S' k)).seq ≤ s := by
  intro k hk h
  rcases hmix k hk with e | ⟨e1, e2⟩
  · rw [e] at h ⊢
    have := hold k hk h
    omega
  · rw [e2, parse_print (ent_right hl hn h1 h2 hJ hc e1)]
    unfold entK
    split <;> exact Int.le_refl _
theorem all_most (hl : LOk n l) (hn : n ≤ 512) (h1 : 1 ≤ s) (h2 : s ≤ 2147483647) (hJ : J ≤ 256) (hc : l.length < J)
    (hseq : ∀ k, k < J → isE (S k) = true → (parseE (S k)).seq ≤ s) (hall : S 0 = printL (entK s l 0)) : mostF S J = s := by
  have h := ent_right hl hn h1 h2 hJ hc (Nat.zero_le l.length)
  have a := most_le (S := S) (m := s) (by omega) J hseq
  have b := le_most (S := S) J 0 (by omega) (by rw [hall]; exact is_print h)
  rw [hall, parse_print h] at b
  have e : (entK s l 0).seq = s := by unfold entK; split <;> rfl
  rw [e] at b
  omega
end

/-- Pages' sectors hold these pages. -/
def Homes (n : Nat) (H : Nat → List UInt8) (P : Nat → List UInt8) : Prop := ∀ p, p < n → homeB (H p) p = true ∧ homeV (H p) p = P p
/-- Pages behind those of a list. -/
def ovr (l : List Lf) (P : Nat → List UInt8) (p : Nat) : List UInt8 := l.foldl (fun b x => if x.no = (p : Int) then x.data else b) (P p)
/-- What the journal and the pages' sectors come up as. -/
def Recs (n J : Nat) (S H : Nat → List UInt8) (P : Nat → List UInt8) : Prop := ∃ Q, Homes n H Q ∧ ∀ p, p < n → ovr (jl n J S) Q p = P p

theorem ovr_nil (P : Nat → List UInt8) (p : Nat) : ovr [] P p = P p := rfl
theorem ovr_app (l m : List Lf) (P : Nat → List UInt8) (p : Nat) : ovr (l ++ m) P p = ovr m (ovr l P) p := by unfold ovr; rw [List.foldl_append]
theorem ovr_out {l : List Lf} {p : Nat} (h : ∀ x ∈ l, x.no ≠ (p : Int)) (P : Nat → List UInt8) : ovr l P p = P p := by
  unfold ovr
  suffices ∀ b, l.foldl (fun b x => if x.no = (p : Int) then x.data else b) b = b from this _
  induction l with
  | nil => intro b; rfl
  | cons x l ih =>
    intro b
    rw [List.foldl_cons, if_neg (h x (by simp))]
    exact ih (fun y hy => h y (by simp [hy])) b
theorem ovr_in {l : List Lf} {p : Nat} (h : ∃ x ∈ l, x.no = (p : Int)) (P Q : Nat → List UInt8) : ovr l P p = ovr l Q p := by
  unfold ovr
  suffices ∀ b c, l.foldl (fun b x => if x.no = (p : Int) then x.data else b) b = l.foldl (fun b x => if x.no = (p : Int) then x.data else b) c from this _ _
  induction l with
  | nil => obtain ⟨_, h, _⟩ := h; cases h
  | cons x l ih =>
    intro b c
    rw [List.foldl_cons, List.foldl_cons]
    by_cases e : x.no = (p : Int)
    · rw [if_pos e, if_pos e]
    · rw [if_neg e, if_neg e]
      obtain ⟨y, hy, hp⟩ := h
      rcases List.mem_cons.1 hy with rfl | hy
      · exact absurd hp e
      · exact ih ⟨y, hy, hp⟩ b c
theorem ovr_again (l : List Lf) (P : Nat → List UInt8) (p : Nat) : ovr l (ovr l P) p = ovr l P p := by
  by_cases h : ∃ x ∈ l, x.no = (p : Int)
  · exact ovr_in h _ _
  · rw [ovr_out (fun x hx e => h ⟨x, hx, e⟩)]
theorem ovr_ext {l : List Lf} {P Q : Nat → List UInt8} {p : Nat} (h : P p = Q p) : ovr l P p = ovr l Q p := by unfold ovr; rw [h]
theorem ovr_len {l : List Lf} {P : Nat → List UInt8} {p : Nat} (h : ∀ x ∈ l, x.data.length = 208) (hp : (P p).length = 208) : (ovr l P p).length = 208 := by
  unfold ovr
  suffices ∀ b : List UInt8, b.length = 208 → (l.foldl (fun b (x : Lf) => if x.no = (p : Int) then x.data else b) b).length = 208 from this _ hp
  induction l with
  | nil => intro b hb; exact hb
  | cons x l ih =>
    intro b hb
    rw [List.foldl_cons]
    refine ih (fun y hy => h y (by simp [hy])) _ ?_
    split
    · exact h x (by simp)
    · exact hb

theorem Homes.same {n : Nat} {H P Q : Nat → List UInt8} (h : Homes n H P) (k : Homes n H Q) : ∀ p, p < n → P p = Q p := fun p hp => ((h p hp).2).symm.trans (k p hp).2
theorem Homes.ext {n : Nat} {H H' P : Nat → List UInt8} (h : Homes n H P) (e : ∀ p, p < n → H' p = H p) : Homes n H' P := fun p hp => by rw [e p hp]; exact h p hp
theorem homes_blank (n : Nat) : Homes n (fun _ => zer 256) (fun _ => zer 208) := by
  intro p _
  constructor
  · unfold homeB; simp only [beq_self_eq_true, Bool.true_or]
  · unfold homeV; simp only [beq_self_eq_true, if_true]

section
variable {n J : Nat} {s : Int} {l : List Lf} {S S' H H' P Q : Nat → List UInt8}

/-- A death while the journal is written. -/
theorem recs_A (hl : LOk n l) (hn : n ≤ 512) (h1 : 1 ≤ s) (h2 : s ≤ 2147483647) (hJ : J ≤ 256) (hc : l.length < J)
    (hold : ∀ k, k < J → isE (S k) = true → (parseE (S k)).seq < s)
    (hmix : ∀ k, k < J → S' k = S k ∨ (k ≤ l.length ∧ S' k = printL (entK s l k)))
    (hh : Homes n H P) (hr : Recs n J S H P) : Recs n J S' H P ∨ Recs n J S' H (ovr l P) := by
  rcases mixA hl (by omega) h1 h2 hJ hc hold hmix with e | e | e
  · exact .inl ⟨P, hh, fun p _ => by rw [e]; rfl⟩
  · obtain ⟨Q, q1, q2⟩ := hr
    exact .inl ⟨Q, q1, fun p hp => by rw [e]; exact q2 p hp⟩
  · exact .inr ⟨P, hh, fun p _ => by rw [e]⟩

/-- A death while pages come home: each page's sector is as it was, or that of a page in the list. -/
theorem recs_B (hj : jl n J S = l) (hn : n ≤ 512) (hd : ∀ x ∈ l, x.data.length = 208)
    (hh : Homes n H P) (hmix : ∀ p, p < n → H' p = H p ∨ ∃ x ∈ l, x.no = (p : Int) ∧ H' p = leafL p x.data) : Recs n J S H' (ovr l P) := by
  refine ⟨fun p => homeV (H' p) p, fun p hp => ⟨?_, rfl⟩, fun p hp => ?_⟩
  · rcases hmix p hp with e | ⟨x, hx, hp2, e⟩
    · rw [e]; exact (hh p hp).1
    · rw [e]; exact (home_leaf (by omega) (by omega) (hd x hx)).1
  · rw [hj]
    by_cases h : ∃ x ∈ l, x.no = (p : Int)
    · exact ovr_in h _ _
    · refine ovr_ext ?_
      rcases hmix p hp with e | ⟨x, hx, hp2, _⟩
      · rw [e]; exact (hh p hp).2
      · exact absurd ⟨x, hx, hp2⟩ h

/-- All pages of a list have come home. -/
theorem homes_C (hn : n ≤ 512) (hd : ∀ x ∈ l, x.data.length = 208) (hh : Homes n H P)
    (hall : ∀ p, p < n → (∀ x ∈ l, x.no ≠ (p : Int)) → H' p = H p) (hin : ∀ p, p < n → (∃ x ∈ l, x.no = (p : Int)) → H' p = leafL p (ovr l P p)) : Homes n H' (ovr l P) := by
  intro p hp
  by_cases h : ∃ x ∈ l, x.no = (p : Int)
  · rw [hin p hp h]
    have hl : (ovr l P p).length = 208 := by
      rw [ovr_in h P (fun _ => zer 208)]
      exact ovr_len hd (zer_len _)
    exact home_leaf (by omega) (by omega) hl
  · have h' : ∀ x ∈ l, x.no ≠ (p : Int) := fun x hx e => h ⟨x, hx, e⟩
    rw [hall p hp h', ovr_out h']
    exact hh p hp
end

end Go.Proofs.YtgeiemccjionpaaGreat.Vlt

/- APlain -/
namespace Go.Proofs.YtgeiemccjionpaaGreat
open Go.RowKit
open Wire (TK twoL numL numV numS inside good markS)
open Crc (sealB opens bur oth bur_opens)

/-- A shape. -/
structure Sh where
  pages : Int
  journal : Int

theorem Sh.eq_iff (x y : Sh) : x = y ↔ x.pages = y.pages ∧ x.journal = y.journal := by
  cases x; cases y; simp

instance : DecidableEq Sh := fun x y => decidable_of_iff _ (Sh.eq_iff x y).symm

def zeroS : Sh := ⟨0, 0⟩
def archK : List UInt8 := [65, 82, 67, 72, 73, 86, 69, 49]
def rightS (x : Sh) : Bool := decide (16 ≤ x.pages) && (decide (x.pages ≤ 512) && (decide (8 ≤ x.journal) && decide (x.journal ≤ 256)))
theorem right_iff {x : Sh} : rightS x = true ↔ 16 ≤ x.pages ∧ x.pages ≤ 512 ∧ 8 ≤ x.journal ∧ x.journal ≤ 256 := by
  unfold rightS
  simp only [Bool.and_eq_true, decide_eq_true_eq]

def zer (k : Nat) : List UInt8 := List.replicate k 0
theorem zer_len (k : Nat) : (zer k).length = k := by simp [zer]
def restL (x : Sh) : List UInt8 := twoL x.pages ++ twoL x.journal
def headL (x : Sh) : List UInt8 := archK ++ restL x
def fillL (x : Sh) : List UInt8 := headL x ++ zer 240
def printL (x : Sh) : List UInt8 := sealB (fillL x)
theorem headL_len (x : Sh) : (headL x).length = 12 := by
  simp only [headL, restL, archK, List.length_append, Wire.twoL_len, List.length_cons, List.length_nil]
theorem fillL_len (x : Sh) : (fillL x).length = 252 := by unfold fillL; rw [List.length_append, headL_len, zer_len]
theorem print_len (x : Sh) : (printL x).length = 256 := by unfold printL; rw [Crc.sealB_len, fillL_len]
theorem print_is (x : Sh) : ∃ z, printL x = archK ++ (twoL x.pages ++ (twoL x.journal ++ z)) := by
  refine ⟨zer 240 ++ Crc.tailB (Crc.crcN (fillL x)), ?_⟩
  unfold printL sealB
  simp only [fillL, headL, restL, List.append_assoc]

/-- The tape behind each number. -/
def g0 (s : List UInt8) : TK := markS archK ⟨s, false⟩
def g1 (s : List UInt8) : TK := numS 2 16 512 (g0 s)
def guessS (s : List UInt8) : Sh := ⟨(numV 2 16 512 (g0 s) : Nat), (numV 2 8 256 (g1 s) : Nat)⟩
def isS (s : List UInt8) : Bool := rightS (guessS s) && (printL (guessS s) == s)
def parseS (s : List UInt8) : Sh := if isS s then guessS s else zeroS

theorem mark_app (m z : List UInt8) : markS m ⟨m ++ z, false⟩ = ⟨z, false⟩ := by
  unfold markS
  rw [Wire.good_app m z m.length rfl, if_pos rfl, Wire.take_app m z _ rfl, Wire.drop_app m z _ rfl]
  simp

theorem guess_print {x : Sh} (h : rightS x = true) : guessS (printL x) = x := by
  obtain ⟨h1, h2, h3, h4⟩ := right_iff.1 h
  obtain ⟨z, hz⟩ := print_is x
  have n1 : (numL (twoL x.pages) : Int) = x.pages := by rw [Wire.numL_twoL]; omega
  have n2 : (numL (twoL x.journal) : Int) = x.journal := by rw [Wire.numL_twoL]; omega
  have a1 := Wire.numS_app (twoL x.pages) (twoL x.journal ++ z) 2 16 512 rfl (by omega) (by omega)
  have b1 := Wire.numV_app (twoL x.pages) (twoL x.journal ++ z) 2 16 512 rfl (by omega) (by omega)
  have b2 := Wire.numV_app (twoL x.journal) z 2 8 256 rfl (by omega) (by omega)
  rw [Sh.eq_iff]
  unfold guessS g1 g0
  rw [hz, mark_app, a1, b1, b2]
  exact ⟨n1, n2⟩
theorem is_print {x : Sh} (h : rightS x = true) : isS (printL x) = true := by
  unfold isS
  rw [guess_print h, h]
  simp
theorem parse_print {x : Sh} (h : rightS x = true) : parseS (printL x) = x := by
  unfold parseS
  rw [is_print h, if_pos rfl, guess_print h]
theorem print_inj {x y : Sh} (hx : rightS x = true) (hy : rightS y = true) (h : printL x = printL y) : x = y := by
  rw [← parse_print hx, ← parse_print hy, h]
theorem is_right {s : List UInt8} (h : isS s = true) : rightS (parseS s) = true ∧ printL (parseS s) = s := by
  unfold parseS
  rw [h, if_pos rfl]
  unfold isS at h
  rw [Bool.and_eq_true, beq_iff_eq] at h
  exact h
theorem is_opens {s : List UInt8} (h : isS s = true) : opens s = true := by
  rw [← (is_right h).2]
  exact Crc.opens_seal _

/-- What the document's answer reads: any two numbers, behind a kind that stands there. -/
theorem is_of {s : List UInt8} {x : Sh} (h : rightS x = true) (hp : printL x = s) : isS s = true ∧ parseS s = x := by
  subst hp
  exact ⟨is_print h, parse_print h⟩

/-- One other byte is told. -/
theorem turned {x : Sh} {k : Nat} {d : UInt8} (hd : d ≠ 0) (h : k < 256) : isS (bur (printL x) k [d] 1) = false := by
  have hb := bur_opens (x := printL x) (k := k) (f := [d]) (i := 1) (Nat.le_refl _) (by omega) (by rw [print_len]; omega) (by rw [print_len]; omega) (Crc.opens_seal (fillL x))
  have ho : oth [d] 1 = true := by simpa [oth] using hd
  rw [ho] at hb
  cases hi : isS (bur (printL x) k [d] 1) with
  | false => rfl
  | true => rw [is_opens hi] at hb; cases hb

end Go.Proofs.YtgeiemccjionpaaGreat
