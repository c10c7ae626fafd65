/- Records of the old format, and their bytes: plain mathematics. No statement is proved here. -/
import Derived.Test.YtkfoppjogdphiaaIPlain
import Derived.Test.YtkfoppjogdphiaaWPlain
import Derived.Test.YtkfoppjogdphiaaWBack
import Derived.Test.YtkfoppjogdphiaaCPlain
namespace Go.Proofs.Ytkfoppjogdphiaa
open Go.RowKit
open Wire (TK textL twoL fourL numL txtV txtS numV numS markS doneV good inside takeV takeS)
open Crc (sealB opens)
open Itm (It)

/-- A record: an item, how many bytes, where they stand. -/
structure Rec where
  it : It
  size : Int
  spans : List (Int × Int)

theorem Rec.eq_iff (x y : Rec) : x = y ↔ x.it = y.it ∧ x.size = y.size ∧ x.spans = y.spans := by
  cases x; cases y; simp

instance : DecidableEq Rec := fun x y => decidable_of_iff _ (Rec.eq_iff x y).symm

def pagesI (n : Int) : Int := (n + 207) / 208
def sizedB (r : Rec) : Bool := if r.it.mark then decide (r.size = 0) else decide (0 ≤ r.size) && decide (r.size ≤ 1500)
def placedB (r : Rec) : Bool := if r.size = 0 then r.spans.isEmpty else match r.spans with
  | [(s, l)] => decide (l = pagesI r.size) && (decide (1 ≤ s) && decide (s ≤ 512 - l))
  | _ => false
def rightR (r : Rec) : Bool := Itm.rightB r.it && (r.it.body.isEmpty && (sizedB r && placedB r))

def flagL (b : Bool) : List UInt8 := if b then [1] else [0]
def startI : List (Int × Int) → Int
  | [] => 0
  | p :: _ => p.1
def kindL : List UInt8 := [79, 66, 74, 49]
def restL (r : Rec) : List UInt8 := textL r.it.mt ++ (textL r.it.tag ++ (textL r.it.key ++ (fourL r.it.seq ++ (fourL r.it.ver ++ (flagL r.it.mark ++ (twoL r.size ++ twoL (startI r.spans)))))))
def bodyL (r : Rec) : List UInt8 := kindL ++ restL r
def printL (r : Rec) : List UInt8 := sealB (bodyL r)

/-- Does a tape begin with the byte 1? -/
def ones (t : TK) : Bool := match t.rest with
  | c :: _ => c == 1
  | [] => false
def spansOf (first size : Int) : List (Int × Int) := if first = 0 then [] else [(first, pagesI size)]

def rd1 (t : TK) : TK := txtS 40 t
def rd2 (t : TK) : TK := txtS 24 (rd1 t)
def rd3 (t : TK) : TK := txtS 24 (rd2 t)
def rd4 (t : TK) : TK := numS 4 1 2147483647 (rd3 t)
def rd5 (t : TK) : TK := numS 4 0 2147483647 (rd4 t)
def rd6 (t : TK) : TK := markS (flagL (ones (rd5 t))) (rd5 t)
def rd7 (t : TK) : TK := numS 2 0 1500 (rd6 t)
def readS (t : TK) : TK := numS 2 0 511 (rd7 t)
def readR (t : TK) : Rec := ⟨⟨txtV 24 (rd2 t), (numV 4 1 2147483647 (rd3 t) : Nat), (numV 4 0 2147483647 (rd4 t) : Nat), ones (rd5 t), txtV 40 t, txtV 24 (rd1 t), []⟩, (numV 2 0 1500 (rd6 t) : Nat), spansOf (numV 2 0 511 (rd7 t) : Nat) (numV 2 0 1500 (rd6 t) : Nat)⟩

def innerT (l : List UInt8) : TK := markS kindL ⟨l.take (l.length - 4), false⟩
/-- The record whose bytes these are. -/
def isRec (l : List UInt8) : Bool := opens l && (doneV (readS (innerT l)) && rightR (readR (innerT l)))

/-- What a record that may be has. -/
theorem right_is {r : Rec} (h : rightR r = true) :
    r.it.mt.length ≤ 40 ∧ r.it.tag.length ≤ 24 ∧ r.it.key.length ≤ 24 ∧ 1 ≤ r.it.seq ∧ r.it.seq ≤ 2147483647 ∧ 0 ≤ r.it.ver ∧ r.it.ver ≤ 2147483647 ∧ r.it.body = [] ∧ 0 ≤ r.size ∧ r.size ≤ 1500 ∧
    0 ≤ startI r.spans ∧ startI r.spans ≤ 511 ∧ r.spans = spansOf (startI r.spans) r.size := by
  unfold rightR Itm.rightB at h
  simp only [Bool.and_eq_true] at h
  obtain ⟨⟨hk, hn, hf⟩, hb, hs, hp⟩ := h
  have hk := ((Itm.keyOK_is _).1 hk).2.1
  unfold Itm.numOK at hn
  simp only [Bool.and_eq_true, Bool.or_eq_true, decide_eq_true_eq] at hn
  obtain ⟨n1, n2, n3⟩ := hn
  have hb : r.it.body = [] := List.isEmpty_iff.1 hb
  have hf : r.it.mt.length ≤ 40 ∧ r.it.tag.length ≤ 24 := by
    unfold Itm.fillOK at hf
    split at hf
    · simp only [Bool.and_eq_true, List.isEmpty_iff] at hf
      rw [hf.1, hf.2.1]
      simp
    · simp only [Bool.and_eq_true, decide_eq_true_eq] at hf
      omega
  have hs : 0 ≤ r.size ∧ r.size ≤ 1500 := by
    unfold sizedB at hs
    split at hs
    · simp only [decide_eq_true_eq] at hs
      omega
    · simp only [Bool.and_eq_true, decide_eq_true_eq] at hs
      exact hs
  have hp : 0 ≤ startI r.spans ∧ startI r.spans ≤ 511 ∧ r.spans = spansOf (startI r.spans) r.size := by
    unfold placedB at hp
    split at hp
    · rw [List.isEmpty_iff.1 hp]
      simp [startI, spansOf]
    · split at hp
      · rename_i s l he
        simp only [Bool.and_eq_true, decide_eq_true_eq] at hp
        obtain ⟨p1, p2, p3⟩ := hp
        rw [he]
        unfold pagesI at p1
        refine ⟨?_, ?_, ?_⟩
        · show 0 ≤ s; omega
        · show s ≤ 511; omega
        · show [(s, l)] = spansOf s r.size
          unfold spansOf pagesI
          rw [if_neg (by omega), p1]
      · cases hp
  refine ⟨hf.1, hf.2, hk, n1, n2, ?_, ?_, hb, hs.1, hs.2, hp.1, hp.2.1, hp.2.2⟩
  · rcases n3 with e | e <;> omega
  · rcases n3 with e | e <;> omega

theorem mark_app (m z : List UInt8) : markS m ⟨m ++ z, false⟩ = ⟨z, false⟩ := by
  unfold markS
  rw [Wire.good_app m z m.length rfl, if_pos rfl]
  simp

theorem ones_flag (b : Bool) (z : List UInt8) : ones ⟨flagL b ++ z, false⟩ = b := by cases b <;> rfl

theorem num_two' {n : Int} (h : 0 ≤ n) (h2 : n ≤ 65535) : (numL (twoL n) : Int) = n := by
  have := Wire.numL_twoL n
  omega
theorem num_four' {n : Int} (h : 0 ≤ n) (h2 : n ≤ 2147483647) : (numL (fourL n) : Int) = n := by
  have := Wire.numL_fourL n
  omega

/-- A record's bytes are read as it was, whatever comes behind. -/
theorem read_rest {r : Rec} (h : rightR r = true) (z : List UInt8) : readS ⟨restL r ++ z, false⟩ = ⟨z, false⟩ ∧ readR ⟨restL r ++ z, false⟩ = r := by
  obtain ⟨h1, h2, h3, h4, h5, h6, h7, h8, h9, h10, h11, h12, h13⟩ := right_is h
  have q : restL r ++ z = textL r.it.mt ++ (textL r.it.tag ++ (textL r.it.key ++ (fourL r.it.seq ++ (fourL r.it.ver ++ (flagL r.it.mark ++ (twoL r.size ++ (twoL (startI r.spans) ++ z))))))) := by
    simp only [restL, List.append_assoc]
  rw [q]
  have a1 := Wire.txt_app r.it.mt (textL r.it.tag ++ (textL r.it.key ++ (fourL r.it.seq ++ (fourL r.it.ver ++ (flagL r.it.mark ++ (twoL r.size ++ (twoL (startI r.spans) ++ z))))))) 40 (by omega) (by omega)
  have a2 := Wire.txt_app r.it.tag (textL r.it.key ++ (fourL r.it.seq ++ (fourL r.it.ver ++ (flagL r.it.mark ++ (twoL r.size ++ (twoL (startI r.spans) ++ z)))))) 24 (by omega) (by omega)
  have a3 := Wire.txt_app r.it.key (fourL r.it.seq ++ (fourL r.it.ver ++ (flagL r.it.mark ++ (twoL r.size ++ (twoL (startI r.spans) ++ z))))) 24 (by omega) (by omega)
  have e4 := num_four' (n := r.it.seq) (by omega) h5
  have e5 := num_four' (n := r.it.ver) h6 h7
  have e7 := num_two' (n := r.size) h9 (by omega)
  have e8 := num_two' (n := startI r.spans) h11 (by omega)
  have b4 := Wire.numS_app (fourL r.it.seq) (fourL r.it.ver ++ (flagL r.it.mark ++ (twoL r.size ++ (twoL (startI r.spans) ++ z)))) 4 1 2147483647 rfl (by omega) (by omega)
  have c4 := Wire.numV_app (fourL r.it.seq) (fourL r.it.ver ++ (flagL r.it.mark ++ (twoL r.size ++ (twoL (startI r.spans) ++ z)))) 4 1 2147483647 rfl (by omega) (by omega)
  have b5 := Wire.numS_app (fourL r.it.ver) (flagL r.it.mark ++ (twoL r.size ++ (twoL (startI r.spans) ++ z))) 4 0 2147483647 rfl (by omega) (by omega)
  have c5 := Wire.numV_app (fourL r.it.ver) (flagL r.it.mark ++ (twoL r.size ++ (twoL (startI r.spans) ++ z))) 4 0 2147483647 rfl (by omega) (by omega)
  have b6 := mark_app (flagL r.it.mark) (twoL r.size ++ (twoL (startI r.spans) ++ z))
  have b7 := Wire.numS_app (twoL r.size) (twoL (startI r.spans) ++ z) 2 0 1500 rfl (by omega) (by omega)
  have c7 := Wire.numV_app (twoL r.size) (twoL (startI r.spans) ++ z) 2 0 1500 rfl (by omega) (by omega)
  have b8 := Wire.numS_app (twoL (startI r.spans)) z 2 0 511 rfl (by omega) (by omega)
  have c8 := Wire.numV_app (twoL (startI r.spans)) z 2 0 511 rfl (by omega) (by omega)
  have o6 := ones_flag r.it.mark (twoL r.size ++ (twoL (startI r.spans) ++ z))
  constructor
  · simp only [readS, rd7, rd6, rd5, rd4, rd3, rd2, rd1, a1.2, a2.2, a3.2, b4, b5, o6, b6, b7, b8]
  · simp only [readR, rd7, rd6, rd5, rd4, rd3, rd2, rd1, a1.1, a1.2, a2.1, a2.2, a3.1, a3.2, b4, c4, b5, c5, o6, b6, b7, c7, c8, e4, e5, e7, e8]
    rw [Rec.eq_iff]
    refine ⟨?_, rfl, h13.symm⟩
    rw [Itm.It.eq_iff]
    exact ⟨rfl, rfl, rfl, rfl, rfl, rfl, h8.symm⟩

theorem inner_seal (l : List UInt8) : innerT (sealB l) = markS kindL ⟨l, false⟩ := by
  unfold innerT
  rw [Crc.sealB_take]

theorem read_body {r : Rec} (h : rightR r = true) (z : List UInt8) : readS (markS kindL ⟨bodyL r ++ z, false⟩) = ⟨z, false⟩ ∧ readR (markS kindL ⟨bodyL r ++ z, false⟩) = r := by
  rw [bodyL, List.append_assoc, mark_app]
  exact read_rest h z

/-- A record that may be is parsed as it was. -/
theorem parse_print {r : Rec} (h : rightR r = true) : isRec (printL r) = true ∧ readR (innerT (printL r)) = r := by
  have e := read_body h []
  rw [List.append_nil] at e
  unfold isRec printL
  rw [inner_seal, Crc.opens_seal, e.1, e.2, h]
  exact ⟨rfl, rfl⟩

/-- Unlike records have unlike bytes. -/
theorem print_inj {a b : Rec} (ha : rightR a = true) (hb : rightR b = true) (h : printL a = printL b) : a = b := by
  have h1 := (parse_print ha).2
  have h2 := (parse_print hb).2
  rw [← h1, h, h2]

/-- A tape with more bytes behind. -/
def ext (q : List UInt8) (t : TK) : TK := ⟨t.rest ++ q, t.bad⟩

theorem good_ext {k : Nat} {t : TK} (q : List UInt8) (h : good k t = true) : good k (ext q t) = true := by
  unfold good at h ⊢
  simp only [Bool.and_eq_true, decide_eq_true_eq] at h ⊢
  refine ⟨h.1, ?_⟩
  show k ≤ (t.rest ++ q).length
  rw [List.length_append]
  omega
theorem good_len {k : Nat} {t : TK} (h : good k t = true) : k ≤ t.rest.length := by
  unfold good at h
  simp only [Bool.and_eq_true, decide_eq_true_eq] at h
  exact h.2
theorem take_ext {k : Nat} {t : TK} (q : List UInt8) (h : good k t = true) : (ext q t).rest.take k = t.rest.take k := by
  show (t.rest ++ q).take k = _
  rw [List.take_append_of_le_length (good_len h)]
theorem drop_ext {k : Nat} {t : TK} (q : List UInt8) (h : good k t = true) : (ext q t).rest.drop k = t.rest.drop k ++ q := by
  show (t.rest ++ q).drop k = _
  rw [List.drop_append_of_le_length (good_len h)]

theorem takeS_ext {k : Nat} {t : TK} (q : List UInt8) (h : (takeS k t).bad = false) : takeS k (ext q t) = ext q (takeS k t) := by
  unfold takeS at h ⊢
  cases hg : good k t with
  | false => rw [hg] at h; cases h
  | true => rw [good_ext q hg, if_pos rfl, if_pos rfl, drop_ext q hg]; rfl
theorem inside_ext {k : Nat} {lo hi : Int} {t : TK} (q : List UInt8) (h : good k t = true) : inside k lo hi (ext q t) = inside k lo hi t := by
  unfold inside
  rw [good_ext q h, h, take_ext q h]
theorem numS_good {k : Nat} {lo hi : Int} {t : TK} (h : (numS k lo hi t).bad = false) : good k t = true := by
  unfold numS at h
  cases hg : good k t with
  | false => rw [hg] at h; cases h
  | true => rfl
theorem numS_ext {k : Nat} {lo hi : Int} {t : TK} (q : List UInt8) (h : (numS k lo hi t).bad = false) : numS k lo hi (ext q t) = ext q (numS k lo hi t) := by
  have hg := numS_good h
  unfold numS
  rw [good_ext q hg, hg, if_pos rfl, if_pos rfl, inside_ext q hg, drop_ext q hg]
  rfl
theorem numV_ext {k : Nat} {lo hi : Int} {t : TK} (q : List UInt8) (h : good k t = true) : numV k lo hi (ext q t) = numV k lo hi t := by
  unfold numV
  rw [inside_ext q h, take_ext q h]
theorem txtS_good {most : Int} {t : TK} (h : (txtS most t).bad = false) : good 2 t = true := by
  unfold txtS at h
  cases hi : inside 2 0 most t with
  | false =>
    rw [hi] at h
    exact numS_good (lo := 0) (hi := most) h
  | true =>
    unfold inside at hi
    simp only [Bool.and_eq_true] at hi
    exact hi.1
theorem inside_numS {k : Nat} {lo hi : Int} {t : TK} (h : inside k lo hi t = true) : (numS k lo hi t).bad = false := by
  have hg : good k t = true := by
    unfold inside at h
    simp only [Bool.and_eq_true] at h
    exact h.1
  unfold numS
  rw [hg, h]
  rfl
theorem txtS_ext {most : Int} {t : TK} (q : List UInt8) (h : (txtS most t).bad = false) : txtS most (ext q t) = ext q (txtS most t) := by
  have hg := txtS_good h
  unfold txtS at h ⊢
  rw [inside_ext q hg]
  cases hi : inside 2 0 most t with
  | false =>
    rw [hi] at h
    exact numS_ext q h
  | true =>
    rw [hi] at h
    simp only [if_true] at h ⊢
    rw [numS_ext q (inside_numS hi), numV_ext q hg, takeS_ext q h]
theorem markS_good {m : List UInt8} {t : TK} (h : (markS m t).bad = false) : good m.length t = true := by
  unfold markS at h
  cases hg : good m.length t with
  | false => rw [hg] at h; cases h
  | true => rfl
theorem markS_ext {m : List UInt8} {t : TK} (q : List UInt8) (h : (markS m t).bad = false) : markS m (ext q t) = ext q (markS m t) := by
  have hg := markS_good h
  unfold markS
  rw [good_ext q hg, hg, if_pos rfl, if_pos rfl, take_ext q hg, drop_ext q hg]
  rfl
theorem good_bad' {k : Nat} {t : TK} (h : good k t = true) : t.bad = false := by
  unfold good at h
  simp only [Bool.and_eq_true, Bool.not_eq_true'] at h
  exact h.1

theorem ones_ext {t : TK} (q : List UInt8) (h : good 1 t = true) : ones (ext q t) = ones t := by
  obtain ⟨l, b⟩ := t
  cases l with
  | nil => exact absurd (good_len h) (by simp)
  | cons c l => rfl

theorem flagL_len (b : Bool) : (flagL b).length = 1 := by cases b <;> rfl

/-- Where the reading goes well, more bytes behind stay. -/
theorem readS_ext {t : TK} (q : List UInt8) (h : (readS t).bad = false) : readS (ext q t) = ext q (readS t) := by
  have h7 : (rd7 t).bad = false := good_bad' (numS_good h)
  have h6 : (rd6 t).bad = false := good_bad' (numS_good h7)
  have g5 := markS_good h6
  have h5 : (rd5 t).bad = false := good_bad' g5
  have h4 : (rd4 t).bad = false := good_bad' (numS_good h5)
  have h3 : (rd3 t).bad = false := good_bad' (numS_good h4)
  have h2 : (rd2 t).bad = false := good_bad' (txtS_good h3)
  have h1 : (rd1 t).bad = false := good_bad' (txtS_good h2)
  have e1 : rd1 (ext q t) = ext q (rd1 t) := txtS_ext q h1
  have e2 : rd2 (ext q t) = ext q (rd2 t) := by unfold rd2; rw [e1]; exact txtS_ext q h2
  have e3 : rd3 (ext q t) = ext q (rd3 t) := by unfold rd3; rw [e2]; exact txtS_ext q h3
  have e4 : rd4 (ext q t) = ext q (rd4 t) := by unfold rd4; rw [e3]; exact numS_ext q h4
  have e5 : rd5 (ext q t) = ext q (rd5 t) := by unfold rd5; rw [e4]; exact numS_ext q h5
  rw [flagL_len] at g5
  have e6 : rd6 (ext q t) = ext q (rd6 t) := by unfold rd6; rw [e5, ones_ext q g5]; exact markS_ext q h6
  have e7 : rd7 (ext q t) = ext q (rd7 t) := by unfold rd7; rw [e6]; exact numS_ext q h7
  show numS 2 0 511 (rd7 (ext q t)) = _
  rw [e7]
  exact numS_ext q h

theorem readS_mark {t : TK} (h : (readS (markS kindL t)).bad = false) : (markS kindL t).bad = false := by
  have h7 : (rd7 (markS kindL t)).bad = false := good_bad' (numS_good h)
  have h6 : (rd6 (markS kindL t)).bad = false := good_bad' (numS_good h7)
  have h5 : (rd5 (markS kindL t)).bad = false := good_bad' (markS_good h6)
  have h4 : (rd4 (markS kindL t)).bad = false := good_bad' (numS_good h5)
  have h3 : (rd3 (markS kindL t)).bad = false := good_bad' (numS_good h4)
  have h2 : (rd2 (markS kindL t)).bad = false := good_bad' (txtS_good h3)
  have h1 : (rd1 (markS kindL t)).bad = false := good_bad' (txtS_good h2)
  exact good_bad' (txtS_good h1)

theorem done_is {t : TK} (h : doneV t = true) : t = ⟨[], false⟩ := by
  obtain ⟨l, b⟩ := t
  unfold doneV at h
  simp only [Bool.and_eq_true, Bool.not_eq_true', beq_iff_eq] at h
  obtain ⟨rfl, rfl⟩ := h
  rfl

/-- Bytes that are a true beginning of a record's are none. -/
theorem cut_none {r : Rec} (h : rightR r = true) (p q : List UInt8) (e : bodyL r = p ++ q) (hq : q ≠ []) : doneV (readS (markS kindL ⟨p, false⟩)) = false := by
  rw [Bool.eq_false_iff]
  intro hd
  have hd := done_is hd
  have hb : (readS (markS kindL ⟨p, false⟩)).bad = false := by rw [hd]
  have h1 := readS_ext q hb
  rw [← markS_ext q (readS_mark hb)] at h1
  have h2 := (read_body h []).1
  rw [List.append_nil, e] at h2
  have h3 : ext q ⟨p, false⟩ = ⟨p ++ q, false⟩ := rfl
  rw [h3, h2, hd] at h1
  exact hq (by simpa [ext] using (congrArg TK.rest h1).symm)

theorem print_len (r : Rec) : (printL r).length = (bodyL r).length + 4 := Crc.sealB_len _

/-- Cut off anywhere there is none. -/
theorem parse_cut {r : Rec} (h : rightR r = true) (k : Nat) (hk : k < (printL r).length) : isRec ((printL r).take k) = false := by
  unfold isRec
  cases ho : opens ((printL r).take k) with
  | false => rfl
  | true =>
    have hl : ((printL r).take k).length = k := by rw [List.length_take]; omega
    have hp := print_len r
    have e1 : ((printL r).take k).take (k - 4) = (bodyL r).take (k - 4) := by
      rw [List.take_take, show min (k - 4) k = k - 4 by omega]
      unfold printL sealB
      rw [List.take_append_of_le_length (by omega)]
    have hd := cut_none h ((bodyL r).take (k - 4)) ((bodyL r).drop (k - 4)) (List.take_append_drop _ _).symm (by
      intro e
      have := congrArg List.length e
      rw [List.length_drop, List.length_nil] at this
      have : 4 ≤ k := by
        have := ho
        unfold opens at this
        simp only [Bool.and_eq_true, decide_eq_true_eq] at this
        omega
      omega)
    unfold innerT
    rw [hl, e1, hd]
    rfl

/-- Nor is there with one more byte. -/
theorem parse_more {r : Rec} (h : rightR r = true) (c : UInt8) : isRec (printL r ++ [c]) = false := by
  unfold isRec
  have hp := print_len r
  have e1 : ∃ d, (printL r ++ [c]).take ((printL r ++ [c]).length - 4) = bodyL r ++ [d] := by
    rw [List.length_append, hp, List.length_singleton, show (bodyL r).length + 4 + 1 - 4 = (bodyL r).length + 1 by omega]
    unfold printL sealB
    rw [List.append_assoc, List.take_append, List.take_of_length_le (by omega), show (bodyL r).length + 1 - (bodyL r).length = 1 by omega]
    exact ⟨_, rfl⟩
  obtain ⟨d, e1⟩ := e1
  have hd : doneV (readS (innerT (printL r ++ [c]))) = false := by
    unfold innerT
    rw [e1, (read_body h [d]).1]
    rfl
  rw [hd, Bool.false_and, Bool.and_false]

end Go.Proofs.Ytkfoppjogdphiaa
