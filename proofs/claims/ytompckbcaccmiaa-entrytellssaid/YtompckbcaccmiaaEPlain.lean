/- Sectors of the journal and of pages, and their bytes: plain mathematics. No statement is proved here. -/
import Derived.Test.YtompckbcaccmiaaWBack
import Derived.Test.YtompckbcaccmiaaCTurn
import Derived.Test.YtompckbcaccmiaaNPlain
namespace Go.Proofs.Ytompckbcaccmiaa
open Go.RowKit
open Wire (TK twoL fourL numL numV numS inside good markS)
open Crc (sealB opens bur oth bur_len bur_getD bur_opens getD_of ext_getD)
open Nm (begins)

/-- An entry of the journal. -/
structure En where
  seq : Int
  index : Int
  last : Bool
  no : Int
  data : List UInt8

theorem En.eq_iff (x y : En) : x = y ↔ x.seq = y.seq ∧ x.index = y.index ∧ x.last = y.last ∧ x.no = y.no ∧ x.data = y.data := by
  cases x; cases y; simp

instance : DecidableEq En := fun x y => decidable_of_iff _ (En.eq_iff x y).symm

def zeroE : En := ⟨0, 0, false, 0, []⟩
def dataN (last : Bool) : Nat := if last then 0 else 208
def pagK : List UInt8 := [74, 80, 65, 71]
def endK : List UInt8 := [74, 69, 78, 68]
def leafK : List UInt8 := [76, 69, 65, 70]
def kindL (last : Bool) : List UInt8 := if last then endK else pagK
theorem kindL_len (b : Bool) : (kindL b).length = 4 := by cases b <;> rfl

def rightE (x : En) : Bool := decide (1 ≤ x.seq) && (decide (x.seq ≤ 2147483647) && (decide (0 ≤ x.index) && (decide (x.index ≤ 255) && (decide (0 ≤ x.no) && (decide (x.no ≤ 511) && decide (x.data.length = dataN x.last))))))

theorem right_iff {x : En} : rightE x = true ↔ 1 ≤ x.seq ∧ x.seq ≤ 2147483647 ∧ 0 ≤ x.index ∧ x.index ≤ 255 ∧ 0 ≤ x.no ∧ x.no ≤ 511 ∧ x.data.length = dataN x.last := by
  unfold rightE
  simp only [Bool.and_eq_true, decide_eq_true_eq]

def zer (k : Nat) : List UInt8 := List.replicate k 0
theorem zer_len (k : Nat) : (zer k).length = k := by simp [zer]
theorem zer_take : (zer 256).take 4 = [0, 0, 0, 0] := by decide +kernel
theorem kind_zer (b : Bool) : kindL b ≠ [0, 0, 0, 0] := by cases b <;> decide
theorem kind_leaf (b : Bool) : kindL b ≠ leafK := by cases b <;> decide
def fillL (l : List UInt8) : List UInt8 := l ++ zer (252 - l.length)
def sectorL (l : List UInt8) : List UInt8 := sealB (fillL l)
def restL (x : En) : List UInt8 := fourL x.seq ++ (twoL x.index ++ (twoL x.no ++ x.data))
def headL (x : En) : List UInt8 := kindL x.last ++ restL x
def printL (x : En) : List UInt8 := sectorL (headL x)

/-- What is read behind the kind. -/
def g1 (t : TK) : TK := numS 4 1 2147483647 t
def g2 (t : TK) : TK := numS 2 0 255 (g1 t)
def g3 (t : TK) : TK := numS 2 0 511 (g2 t)
def readE (last : Bool) (t : TK) : En := ⟨(numV 4 1 2147483647 t : Nat), (numV 2 0 255 (g1 t) : Nat), last, (numV 2 0 511 (g2 t) : Nat), (g3 t).rest.take (dataN last)⟩
def lastB (s : List UInt8) : Bool := begins s endK
def tapeG (s : List UInt8) : TK := markS (kindL (lastB s)) ⟨s, false⟩
def guessE (s : List UInt8) : En := readE (lastB s) (tapeG s)
def isE (s : List UInt8) : Bool := rightE (guessE s) && (printL (guessE s) == s)
def parseE (s : List UInt8) : En := if isE s then guessE s else zeroE

def leafL (no : Int) (data : List UInt8) : List UInt8 := sectorL (leafK ++ (twoL no ++ data))
def tapeH (s : List UInt8) (no : Int) : TK := numS 2 no no (markS leafK ⟨s, false⟩)
def dataH (s : List UInt8) (no : Int) : List UInt8 := (tapeH s no).rest.take 208
def homeB (s : List UInt8) (no : Int) : Bool := s == zer 256 || (!(tapeH s no).bad && leafL no (dataH s no) == s)
def homeV (s : List UInt8) (no : Int) : List UInt8 := if s == zer 256 then zer 208 else if !(tapeH s no).bad && leafL no (dataH s no) == s then dataH s no else []

theorem fill_len {l : List UInt8} (h : l.length ≤ 252) : (fillL l).length = 252 := by
  unfold fillL; rw [List.length_append, zer_len]; omega
theorem sector_len {l : List UInt8} (h : l.length ≤ 252) : (sectorL l).length = 256 := by
  unfold sectorL; rw [Crc.sealB_len, fill_len h]
theorem restL_len (x : En) : (restL x).length = 8 + x.data.length := by
  simp only [restL, List.length_append, Wire.twoL_len, Wire.fourL_len]; omega
theorem headL_len (x : En) : (headL x).length = 12 + x.data.length := by
  unfold headL; rw [List.length_append, kindL_len, restL_len]; omega
theorem dataN_le (b : Bool) : dataN b ≤ 208 := by cases b <;> decide
theorem right_data {x : En} (h : rightE x = true) : x.data.length ≤ 208 := by
  have := (right_iff.1 h).2.2.2.2.2.2
  rw [this]; exact dataN_le _
theorem print_len {x : En} (h : rightE x = true) : (printL x).length = 256 := by
  refine sector_len ?_
  have := right_data h
  rw [headL_len]; omega
theorem leaf_len {no : Int} {d : List UInt8} (h : d.length ≤ 208) : (leafL no d).length = 256 := by
  refine sector_len ?_
  simp only [leafK, List.length_append, Wire.twoL_len, List.length_cons, List.length_nil]; omega

/-- A sector: what it begins with, and what stands behind. -/
theorem sector_is (l : List UInt8) : ∃ z, sectorL l = l ++ z := by
  unfold sectorL sealB fillL
  exact ⟨zer (252 - l.length) ++ Crc.tailB (Crc.crcN (l ++ zer (252 - l.length))), by rw [List.append_assoc]⟩
theorem print_is (x : En) : ∃ z, printL x = kindL x.last ++ (restL x ++ z) := by
  obtain ⟨z, hz⟩ := sector_is (headL x)
  exact ⟨z, by unfold printL; rw [hz]; unfold headL; rw [List.append_assoc]⟩
theorem leaf_is (no : Int) (d : List UInt8) : ∃ z, leafL no d = leafK ++ (twoL no ++ (d ++ z)) := by
  obtain ⟨z, hz⟩ := sector_is (leafK ++ (twoL no ++ d))
  exact ⟨z, by unfold leafL; rw [hz, List.append_assoc, List.append_assoc]⟩

theorem mark_app (m z : List UInt8) : markS m ⟨m ++ z, false⟩ = ⟨z, false⟩ := by
  unfold markS
  rw [Wire.good_app m z m.length rfl, if_pos rfl, Wire.take_app m z _ rfl, Wire.drop_app m z _ rfl]
  simp
theorem mark_bad {m : List UInt8} {s : List UInt8} (h : s.take m.length ≠ m) : (markS m ⟨s, false⟩).bad = true := by
  unfold markS
  split
  · simpa using h
  · rfl
theorem mark_good {m s : List UInt8} (h : m.length ≤ s.length) (he : s.take m.length = m) : markS m ⟨s, false⟩ = ⟨s.drop m.length, false⟩ := by
  unfold markS
  rw [Wire.good_yes h, if_pos rfl]
  simp [he]
theorem num_bad {k : Nat} {lo hi : Int} {t : TK} (h : t.bad = true) : (numS k lo hi t).bad = true := by
  unfold numS good
  rw [h]
  rfl

theorem begins_kind (b : Bool) (z : List UInt8) : begins (kindL b ++ z) endK = b := by
  unfold begins
  have h : endK.length ≤ (kindL b ++ z).length := by rw [List.length_append, kindL_len]; show 4 ≤ _; omega
  rw [decide_eq_true h, Bool.true_and, show endK.length = 4 from rfl, Wire.take_app (kindL b) z 4 (kindL_len b)]
  cases b <;> rfl

/-- An entry's bytes are read as it was. -/
theorem read_rest {x : En} (h : rightE x = true) (z : List UInt8) : readE x.last ⟨restL x ++ z, false⟩ = x ∧ (g3 ⟨restL x ++ z, false⟩).bad = false := by
  obtain ⟨h1, h2, h3, h4, h5, h6, h7⟩ := right_iff.1 h
  have q : restL x ++ z = fourL x.seq ++ (twoL x.index ++ (twoL x.no ++ (x.data ++ z))) := by simp only [restL, List.append_assoc]
  rw [q]
  have n1 : (numL (fourL x.seq) : Int) = x.seq := by rw [Wire.numL_fourL]; omega
  have n2 : (numL (twoL x.index) : Int) = x.index := by rw [Wire.numL_twoL]; omega
  have n3 : (numL (twoL x.no) : Int) = x.no := by rw [Wire.numL_twoL]; omega
  have a1 := Wire.numS_app (fourL x.seq) (twoL x.index ++ (twoL x.no ++ (x.data ++ z))) 4 1 2147483647 rfl (by omega) (by omega)
  have b1 := Wire.numV_app (fourL x.seq) (twoL x.index ++ (twoL x.no ++ (x.data ++ z))) 4 1 2147483647 rfl (by omega) (by omega)
  have a2 := Wire.numS_app (twoL x.index) (twoL x.no ++ (x.data ++ z)) 2 0 255 rfl (by omega) (by omega)
  have b2 := Wire.numV_app (twoL x.index) (twoL x.no ++ (x.data ++ z)) 2 0 255 rfl (by omega) (by omega)
  have a3 := Wire.numS_app (twoL x.no) (x.data ++ z) 2 0 511 rfl (by omega) (by omega)
  have b3 := Wire.numV_app (twoL x.no) (x.data ++ z) 2 0 511 rfl (by omega) (by omega)
  constructor
  · rw [En.eq_iff]
    simp only [readE, g3, g2, g1, a1, b1, a2, b2, a3, b3, n1, n2, n3, true_and]
    exact Wire.take_app _ _ _ h7
  · simp only [g3, g2, g1, a1, a2, a3]

theorem guess_print {x : En} (h : rightE x = true) : guessE (printL x) = x ∧ (g3 (tapeG (printL x))).bad = false := by
  obtain ⟨z, hz⟩ := print_is x
  have hl : lastB (printL x) = x.last := by unfold lastB; rw [hz]; exact begins_kind _ _
  have ht : tapeG (printL x) = ⟨restL x ++ z, false⟩ := by
    unfold tapeG
    rw [hl, hz]
    exact mark_app _ _
  unfold guessE
  rw [hl, ht]
  exact read_rest h z

theorem is_print {x : En} (h : rightE x = true) : isE (printL x) = true := by
  unfold isE
  rw [(guess_print h).1, h]
  simp
theorem parse_print {x : En} (h : rightE x = true) : parseE (printL x) = x := by
  unfold parseE
  rw [is_print h, if_pos rfl, (guess_print h).1]
theorem print_inj {x y : En} (hx : rightE x = true) (hy : rightE y = true) (h : printL x = printL y) : x = y := by
  rw [← parse_print hx, ← parse_print hy, h]
theorem is_opens {s : List UInt8} (h : isE s = true) : opens s = true := by
  unfold isE at h
  rw [Bool.and_eq_true, beq_iff_eq] at h
  rw [← h.2]
  exact Crc.opens_seal _
theorem is_ends {s : List UInt8} (h : isE s = true) : s.length = 256 ∧ s.take 4 = kindL (lastB s) ∧ (g3 (tapeG s)).bad = false := by
  unfold isE at h
  rw [Bool.and_eq_true, beq_iff_eq] at h
  obtain ⟨h1, h2⟩ := h
  have h3 := (guess_print h1).2
  obtain ⟨z, hz⟩ := print_is (guessE s)
  have h4 := print_len h1
  rw [h2] at h3 h4 hz
  refine ⟨h4, ?_, h3⟩
  have e : (guessE s).last = lastB s := rfl
  rw [e] at hz
  have := congrArg (List.take 4) hz
  rw [Wire.take_app _ _ 4 (kindL_len _)] at this
  exact this

theorem leaf_ne {no : Int} {d : List UInt8} : leafL no d ≠ zer 256 := by
  obtain ⟨z, hz⟩ := leaf_is no d
  rw [hz]
  intro h
  have := congrArg (fun l => l.take 4) h
  simp only [Wire.take_app _ _ 4 (show leafK.length = 4 from rfl), zer_take] at this
  exact absurd this (by decide)
theorem tape_leaf {no : Int} (d : List UInt8) (h0 : 0 ≤ no) (h1 : no ≤ 65535) : ∃ z, tapeH (leafL no d) no = ⟨d ++ z, false⟩ := by
  obtain ⟨z, hz⟩ := leaf_is no d
  refine ⟨z, ?_⟩
  have n3 : (numL (twoL no) : Int) = no := by rw [Wire.numL_twoL]; omega
  unfold tapeH
  rw [hz, mark_app]
  exact Wire.numS_app (twoL no) (d ++ z) 2 no no rfl (by omega) (by omega)
theorem data_leaf {no : Int} {d : List UInt8} (h0 : 0 ≤ no) (h1 : no ≤ 65535) (hd : d.length = 208) : dataH (leafL no d) no = d := by
  obtain ⟨z, hz⟩ := tape_leaf d h0 h1
  unfold dataH
  rw [hz]
  exact Wire.take_app _ _ _ hd
theorem home_leaf {no : Int} {d : List UInt8} (h0 : 0 ≤ no) (h1 : no ≤ 65535) (hd : d.length = 208) : homeB (leafL no d) no = true ∧ homeV (leafL no d) no = d := by
  obtain ⟨z, hz⟩ := tape_leaf d h0 h1
  have hd' := data_leaf h0 h1 hd
  have e : (leafL no d == zer 256) = false := by simpa using leaf_ne
  unfold homeB homeV
  rw [e, hd', hz]
  simp
theorem home_is {s : List UInt8} {no : Int} (h : homeB s no = true) : s = zer 256 ∨ (s.take 4 = leafK ∧ opens s = true ∧ s.length = 256) := by
  unfold homeB at h
  rw [Bool.or_eq_true, Bool.and_eq_true, beq_iff_eq, beq_iff_eq] at h
  rcases h with h | ⟨_, h⟩
  · exact .inl h
  · refine .inr ?_
    obtain ⟨z, hz⟩ := leaf_is no (dataH s no)
    have hl : (leafL no (dataH s no)).length = 256 := leaf_len (by unfold dataH; rw [List.length_take]; omega)
    rw [h] at hz hl
    refine ⟨?_, ?_, hl⟩
    · rw [hz]; exact Wire.take_app _ _ 4 rfl
    · rw [← h]; exact Crc.opens_seal _

/-- No entry is a page, and no page an entry. -/
theorem home_print {x : En} (no : Int) : homeB (printL x) no = false := by
  obtain ⟨z, hz⟩ := print_is x
  cases h : homeB (printL x) no with
  | false => rfl
  | true =>
    rcases home_is h with h | ⟨h, _⟩
    · rw [hz] at h
      have := congrArg (fun l => l.take 4) h
      simp only [Wire.take_app _ _ 4 (kindL_len _), zer_take] at this
      exact absurd this (kind_zer _)
    · rw [hz] at h
      rw [Wire.take_app _ _ 4 (kindL_len _)] at h
      exact absurd h (kind_leaf _)
theorem is_leaf (no : Int) (d : List UInt8) : isE (leafL no d) = false := by
  obtain ⟨z, hz⟩ := leaf_is no d
  cases h : isE (leafL no d) with
  | false => rfl
  | true =>
    have := (is_ends h).2.1
    rw [hz, Wire.take_app _ _ 4 rfl] at this
    exact absurd this.symm (kind_leaf _)
theorem is_zer (n : Nat) : isE (zer n) = false := by
  cases h : isE (zer n) with
  | false => rfl
  | true =>
    have h2 := (is_ends h).2.1
    have h1 := (is_ends h).1
    rw [zer_len] at h1
    subst h1
    rw [zer_take] at h2
    exact absurd h2.symm (kind_zer _)

/-- A page's sector is no other page's. -/
theorem home_other {no m : Int} {d : List UInt8} (h0 : 0 ≤ no) (h1 : no ≤ 65535) (hm : m ≠ no) : homeB (leafL no d) m = false := by
  obtain ⟨z, hz⟩ := leaf_is no d
  have n3 : (numL (twoL no) : Int) = no := by rw [Wire.numL_twoL]; omega
  have e : (leafL no d == zer 256) = false := by simpa using leaf_ne
  have hb : (tapeH (leafL no d) m).bad = true := by
    unfold tapeH
    rw [hz, mark_app]
    unfold numS
    rw [Wire.good_app (twoL no) _ 2 rfl, if_pos rfl, Wire.inside_app _ _ 2 m m rfl, n3]
    simp only [Bool.not_eq_true', Bool.and_eq_false_iff, decide_eq_false_iff_not]
    omega
  unfold homeB
  rw [e, hb]
  rfl

/-- Bytes that aren't other leave all as it was. -/
theorem bur_same {x f : List UInt8} {k i : Nat} (hf : i ≤ f.length) (h : k + i ≤ x.length) (ho : oth f i = false) : bur x k f i = x := by
  refine ext_getD (bur_len hf h) fun j => ?_
  rw [bur_getD hf h]
  by_cases g : k ≤ j ∧ j < k + i
  · rw [if_pos g]
    have hz : f.getD (j - k) 0 = 0 := by
      unfold oth at ho
      rw [List.any_eq_false] at ho
      have hj : j - k < f.length := by omega
      have hm : f[j - k] ∈ f.take i := by
        rw [List.mem_take_iff_getElem]
        exact ⟨j - k, by omega, rfl⟩
      have := ho _ hm
      rw [getD_of hj]
      simpa using this
    rw [hz]
    simp
  · rw [if_neg g]
    simp

/-- Up to four other bytes side by side in an entry's sector are told. -/
theorem turnedE {x : En} (hr : rightE x = true) {f : List UInt8} {k i : Nat} (hf : i ≤ f.length) (h4 : i ≤ 4) (h : k + i ≤ 256) : isE (bur (printL x) k f i) = !oth f i := by
  have hl := print_len hr
  cases ho : oth f i with
  | false =>
    rw [bur_same hf (by omega) ho]
    exact is_print hr
  | true =>
    have hb := bur_opens (x := printL x) (k := k) hf h4 (by omega) (by omega) (Crc.opens_seal (fillL (headL x)))
    rw [ho] at hb
    cases hi : isE (bur (printL x) k f i) with
    | false => rfl
    | true =>
      have := is_opens hi
      have hb : opens (bur (printL x) k f i) = false := hb
      rw [hb] at this
      cases this

theorem leaf_zero : opens (leafK ++ zer 252) = false := by decide +kernel

/-- No page's sector becomes noughts by four other bytes side by side. -/
theorem leaf_not {no : Int} {d f : List UInt8} {k i : Nat} (hd : d.length = 208) (hf : i ≤ f.length) (h4 : i ≤ 4) (h : k + i ≤ 256) : bur (leafL no d) k f i ≠ zer 256 := by
  intro hz
  have hl : (leafL no d).length = 256 := leaf_len (by omega)
  have hj : ∀ j, (leafL no d).getD j 0 ^^^ (if k ≤ j ∧ j < k + i then f.getD (j - k) 0 else 0) = 0 := by
    intro j
    rw [← bur_getD hf (by omega), hz]
    unfold zer
    rw [List.getD_eq_getElem?_getD, List.getElem?_replicate]
    split <;> rfl
  obtain ⟨z, hs⟩ := leaf_is no d
  have h0 : k = 0 := by
    have := hj 0
    by_cases hk : k ≤ 0
    · omega
    · rw [if_neg (by omega), hs] at this
      simp [leafK] at this
  subst h0
  have he : leafL no d = leafK ++ zer 252 := by
    refine ext_getD (by rw [hl, List.length_append, zer_len]; rfl) fun j => ?_
    by_cases hj4 : j < 4
    · rw [hs]
      rw [List.getD_eq_getElem?_getD, List.getD_eq_getElem?_getD, List.getElem?_append_left (by exact hj4), List.getElem?_append_left (by exact hj4)]
    · have := hj j
      rw [if_neg (by omega)] at this
      rw [UInt8.xor_zero] at this
      rw [this, List.getD_eq_getElem?_getD, List.getElem?_append_right (by show 4 ≤ j; omega)]
      unfold zer
      rw [List.getElem?_replicate]
      split <;> rfl
  have h1 := Crc.opens_seal (fillL (leafK ++ (twoL no ++ d)))
  have h2 : opens (leafL no d) = true := h1
  rw [he, leaf_zero] at h2
  cases h2

/-- The same of a page's sector. -/
theorem turnedH {no : Int} {d : List UInt8} (h0 : 0 ≤ no) (h1 : no ≤ 65535) (hd : d.length = 208) {f : List UInt8} {k i : Nat} (hf : i ≤ f.length) (h4 : i ≤ 4) (h : k + i ≤ 256) : homeB (bur (leafL no d) k f i) no = !oth f i := by
  have hl : (leafL no d).length = 256 := leaf_len (by omega)
  cases ho : oth f i with
  | false =>
    rw [bur_same hf (by omega) ho]
    exact (home_leaf h0 h1 hd).1
  | true =>
    have hb := bur_opens (x := leafL no d) (k := k) hf h4 (by omega) (by omega) (Crc.opens_seal (fillL (leafK ++ (twoL no ++ d))))
    rw [ho] at hb
    have hb : opens (bur (leafL no d) k f i) = false := hb
    cases hi : homeB (bur (leafL no d) k f i) no with
    | false => rfl
    | true =>
      rcases home_is hi with hz | ⟨_, hz, _⟩
      · exact absurd hz (leaf_not hd hf h4 h)
      · rw [hb] at hz
        cases hz

end Go.Proofs.Ytompckbcaccmiaa
