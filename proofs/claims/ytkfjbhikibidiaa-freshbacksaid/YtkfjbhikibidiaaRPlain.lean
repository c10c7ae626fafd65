/- Records of the fresh format, and their bytes: plain mathematics. No statement is proved here. -/
import Derived.Test.YtkfjbhikibidiaaIPlain
import Derived.Test.YtkfjbhikibidiaaWPlain
import Derived.Test.YtkfjbhikibidiaaWBack
import Derived.Test.YtkfjbhikibidiaaCPlain
namespace Go.Proofs.Ytkfjbhikibidiaa
open Go.RowKit
open Wire (TK textL twoL fourL numL txtV txtS numV numS markS doneV good inside takeV takeS)
open Crc (sealB opens)
open Itm (It)

/-- A record: an item, how many bytes, where they stand. -/
structure Rec where
  it : It
  size : Int
  spans : List (Int × Int)

theorem Rec.eq_iff (x y : Rec) : x = y ↔ x.it = y.it ∧ x.size = y.size ∧ x.spans = y.spans := by
  cases x; cases y; simp

instance : DecidableEq Rec := fun x y => decidable_of_iff _ (Rec.eq_iff x y).symm

def pagesI (n : Int) : Int := (n + 207) / 208
def sizedB (r : Rec) : Bool := if r.it.mark then decide (r.size = 0) else decide (0 ≤ r.size) && decide (r.size ≤ 1500)
/-- Do runs stand from lo on, rising, not touching, of just so many pages? -/
def pgo : Int → Int → List (Int × Int) → Bool
  | _, left, [] => left == 0
  | lo, left, x :: l => !(decide (x.2 < 1)) && (!(decide (left < x.2)) && ((decide (lo ≤ x.1) && decide (x.1 ≤ 512 - x.2)) && pgo (x.1 + x.2 + 1) (left - x.2) l))
def placedB (r : Rec) : Bool := pgo 1 (pagesI r.size) r.spans
def rightR (r : Rec) : Bool := Itm.rightB r.it && (r.it.body.isEmpty && (sizedB r && placedB r))

def flagL (b : Bool) : List UInt8 := if b then [1] else [0]
def spL : List (Int × Int) → List UInt8
  | [] => []
  | x :: l => twoL x.1 ++ (twoL x.2 ++ spL l)
def runsL (l : List (Int × Int)) : List UInt8 := twoL l.length ++ spL l
def kindL : List UInt8 := [79, 66, 74, 50]
def restL (r : Rec) : List UInt8 := textL r.it.key ++ (fourL r.it.seq ++ (fourL r.it.ver ++ (flagL r.it.mark ++ (twoL r.size ++ (runsL r.spans ++ (textL r.it.tag ++ textL r.it.mt))))))
def bodyL (r : Rec) : List UInt8 := kindL ++ restL r
def printL (r : Rec) : List UInt8 := sealB (bodyL r)

theorem spL_len (l : List (Int × Int)) : (spL l).length = 4 * l.length := by
  induction l with
  | nil => rfl
  | cons x l ih => simp only [spL, List.length_append, Wire.twoL_len, ih, List.length_cons]; omega
theorem runsL_len (l : List (Int × Int)) : (runsL l).length = 2 + 4 * l.length := by
  simp only [runsL, List.length_append, Wire.twoL_len, spL_len]
theorem spL_snoc (l : List (Int × Int)) (x : Int × Int) : spL (l ++ [x]) = spL l ++ (twoL x.1 ++ twoL x.2) := by
  induction l with
  | nil => simp [spL]
  | cons y l ih => simp only [List.cons_append, spL, ih, List.append_assoc]

/-- Does a tape begin with the byte 1? -/
def ones (t : TK) : Bool := match t.rest with
  | c :: _ => c == 1
  | [] => false

/-- One run read, and what is left. -/
def stp (t : TK) : TK := numS 2 1 8 (numS 2 1 511 t)
def spn (t : TK) : Int × Int := ((numV 2 1 511 t : Nat), (numV 2 1 8 (numS 2 1 511 t) : Nat))
def runS : Nat → TK → TK
  | 0, t => t
  | n + 1, t => stp (runS n t)
def runV : Nat → TK → List (Int × Int)
  | 0, _ => []
  | n + 1, t => runV n t ++ [spn (runS n t)]
theorem runS_cons (n : Nat) (t : TK) : runS (n + 1) t = runS n (stp t) := by
  induction n with
  | zero => rfl
  | succ n ih => exact congrArg stp ih
theorem runV_cons (n : Nat) (t : TK) : runV (n + 1) t = spn t :: runV n (stp t) := by
  induction n with
  | zero => rfl
  | succ n ih =>
    show runV (n + 1) t ++ [spn (runS (n + 1) t)] = spn t :: (runV n (stp t) ++ [spn (runS n (stp t))])
    rw [ih, runS_cons]
    rfl
theorem runV_len (n : Nat) (t : TK) : (runV n t).length = n := by
  induction n with
  | zero => rfl
  | succ n ih => simp only [runV, List.length_append, List.length_singleton, ih]

def rd1 (t : TK) : TK := txtS 24 t
def rd2 (t : TK) : TK := numS 4 1 2147483647 (rd1 t)
def rd3 (t : TK) : TK := numS 4 0 2147483647 (rd2 t)
def rd4 (t : TK) : TK := markS (flagL (ones (rd3 t))) (rd3 t)
def rd5 (t : TK) : TK := numS 2 0 1500 (rd4 t)
/-- The runs: how many, then each. -/
def runsS (t : TK) : TK := runS (numV 2 0 8 t) (numS 2 0 8 t)
def runsV (t : TK) : List (Int × Int) := runV (numV 2 0 8 t) (numS 2 0 8 t)
def rd6 (t : TK) : TK := runsS (rd5 t)
def rd7 (t : TK) : TK := txtS 24 (rd6 t)
def readS (t : TK) : TK := txtS 40 (rd7 t)
def readR (t : TK) : Rec := ⟨⟨txtV 24 t, (numV 4 1 2147483647 (rd1 t) : Nat), (numV 4 0 2147483647 (rd2 t) : Nat), ones (rd3 t), txtV 40 (rd7 t), txtV 24 (rd6 t), []⟩, (numV 2 0 1500 (rd4 t) : Nat), runsV (rd5 t)⟩

def innerT (l : List UInt8) : TK := markS kindL ⟨l.take (l.length - 4), false⟩
/-- The record whose bytes these are. -/
def isRec (l : List UInt8) : Bool := opens l && (doneV (readS (innerT l)) && rightR (readR (innerT l)))

/-- What runs that may be have. -/
theorem pgo_is : ∀ (l : List (Int × Int)) (lo left : Int), pgo lo left l = true → 1 ≤ lo → left ≤ 8 → (l.length : Int) ≤ left ∧ ∀ x ∈ l, 1 ≤ x.1 ∧ x.1 ≤ 511 ∧ 1 ≤ x.2 ∧ x.2 ≤ 8 := by
  intro l
  induction l with
  | nil =>
    intro lo left h _ _
    simp only [pgo, beq_iff_eq] at h
    subst h
    exact ⟨by simp, fun x hx => by cases hx⟩
  | cons y l ih =>
    intro lo left h h1 h2
    simp only [pgo, Bool.and_eq_true, Bool.not_eq_true', decide_eq_false_iff_not, decide_eq_true_eq] at h
    obtain ⟨p1, p2, ⟨p3, p4⟩, p5⟩ := h
    obtain ⟨q1, q2⟩ := ih _ _ p5 (by omega) (by omega)
    refine ⟨by simp only [List.length_cons]; omega, fun x hx => ?_⟩
    rcases List.mem_cons.1 hx with rfl | hx
    · omega
    · exact q2 x hx

/-- What a record that may be has. -/
theorem right_is {r : Rec} (h : rightR r = true) :
    r.it.mt.length ≤ 40 ∧ r.it.tag.length ≤ 24 ∧ r.it.key.length ≤ 24 ∧ 1 ≤ r.it.seq ∧ r.it.seq ≤ 2147483647 ∧ 0 ≤ r.it.ver ∧ r.it.ver ≤ 2147483647 ∧ r.it.body = [] ∧ 0 ≤ r.size ∧ r.size ≤ 1500 ∧
    r.spans.length ≤ 8 ∧ ∀ x ∈ r.spans, 1 ≤ x.1 ∧ x.1 ≤ 511 ∧ 1 ≤ x.2 ∧ x.2 ≤ 8 := by
  unfold rightR Itm.rightB at h
  simp only [Bool.and_eq_true] at h
  obtain ⟨⟨hk, hn, hf⟩, hb, hs, hp⟩ := h
  have hk := ((Itm.keyOK_is _).1 hk).2.1
  unfold Itm.numOK at hn
  simp only [Bool.and_eq_true, Bool.or_eq_true, decide_eq_true_eq] at hn
  obtain ⟨n1, n2, n3⟩ := hn
  have hb : r.it.body = [] := List.isEmpty_iff.1 hb
  have hf : r.it.mt.length ≤ 40 ∧ r.it.tag.length ≤ 24 := by
    unfold Itm.fillOK at hf
    split at hf
    · simp only [Bool.and_eq_true, List.isEmpty_iff] at hf
      rw [hf.1, hf.2.1]
      simp
    · simp only [Bool.and_eq_true, decide_eq_true_eq] at hf
      omega
  have hs : 0 ≤ r.size ∧ r.size ≤ 1500 := by
    unfold sizedB at hs
    split at hs
    · simp only [decide_eq_true_eq] at hs
      omega
    · simp only [Bool.and_eq_true, decide_eq_true_eq] at hs
      exact hs
  have hp := pgo_is r.spans 1 (pagesI r.size) hp (by omega) (by unfold pagesI; omega)
  refine ⟨hf.1, hf.2, hk, n1, n2, ?_, ?_, hb, hs.1, hs.2, ?_, hp.2⟩
  · rcases n3 with e | e <;> omega
  · rcases n3 with e | e <;> omega
  · have := hp.1
    unfold pagesI at this
    omega

theorem mark_app (m z : List UInt8) : markS m ⟨m ++ z, false⟩ = ⟨z, false⟩ := by
  unfold markS
  rw [Wire.good_app m z m.length rfl, if_pos rfl]
  simp

theorem ones_flag (b : Bool) (z : List UInt8) : ones ⟨flagL b ++ z, false⟩ = b := by cases b <;> rfl

theorem num_two' {n : Int} (h : 0 ≤ n) (h2 : n ≤ 65535) : (numL (twoL n) : Int) = n := by
  have := Wire.numL_twoL n
  omega
theorem num_four' {n : Int} (h : 0 ≤ n) (h2 : n ≤ 2147483647) : (numL (fourL n) : Int) = n := by
  have := Wire.numL_fourL n
  omega

/-- Runs are read as they were. -/
theorem run_app (z : List UInt8) : ∀ l : List (Int × Int), (∀ x ∈ l, 1 ≤ x.1 ∧ x.1 ≤ 511 ∧ 1 ≤ x.2 ∧ x.2 ≤ 8) → runS l.length ⟨spL l ++ z, false⟩ = ⟨z, false⟩ ∧ runV l.length ⟨spL l ++ z, false⟩ = l := by
  intro l
  induction l with
  | nil => intro _; exact ⟨rfl, rfl⟩
  | cons x l ih =>
    intro h
    obtain ⟨p1, p2, p3, p4⟩ := h x (List.mem_cons_self ..)
    obtain ⟨q1, q2⟩ := ih (fun y hy => h y (List.mem_cons_of_mem _ hy))
    have e1 := num_two' (n := x.1) (by omega) (by omega)
    have e2 := num_two' (n := x.2) (by omega) (by omega)
    have b1 := Wire.numS_app (twoL x.1) (twoL x.2 ++ (spL l ++ z)) 2 1 511 rfl (by omega) (by omega)
    have c1 := Wire.numV_app (twoL x.1) (twoL x.2 ++ (spL l ++ z)) 2 1 511 rfl (by omega) (by omega)
    have b2 := Wire.numS_app (twoL x.2) (spL l ++ z) 2 1 8 rfl (by omega) (by omega)
    have c2 := Wire.numV_app (twoL x.2) (spL l ++ z) 2 1 8 rfl (by omega) (by omega)
    have e : spL (x :: l) ++ z = twoL x.1 ++ (twoL x.2 ++ (spL l ++ z)) := by simp only [spL, List.append_assoc]
    rw [List.length_cons, runS_cons, runV_cons, e]
    have s1 : stp ⟨twoL x.1 ++ (twoL x.2 ++ (spL l ++ z)), false⟩ = ⟨spL l ++ z, false⟩ := by unfold stp; rw [b1, b2]
    have s2 : spn ⟨twoL x.1 ++ (twoL x.2 ++ (spL l ++ z)), false⟩ = x := by
      unfold spn
      rw [b1, c1, c2, e1, e2]
    rw [s1, s2, q2]
    exact ⟨q1, rfl⟩

theorem runs_app (z : List UInt8) (l : List (Int × Int)) (hl : l.length ≤ 8) (h : ∀ x ∈ l, 1 ≤ x.1 ∧ x.1 ≤ 511 ∧ 1 ≤ x.2 ∧ x.2 ≤ 8) : runsS ⟨runsL l ++ z, false⟩ = ⟨z, false⟩ ∧ runsV ⟨runsL l ++ z, false⟩ = l := by
  have e1 := num_two' (n := (l.length : Int)) (by omega) (by omega)
  have b1 := Wire.numS_app (twoL (l.length : Int)) (spL l ++ z) 2 0 8 rfl (by omega) (by omega)
  have c1 := Wire.numV_app (twoL (l.length : Int)) (spL l ++ z) 2 0 8 rfl (by omega) (by omega)
  have c2 : numV 2 0 8 ⟨twoL (l.length : Int) ++ (spL l ++ z), false⟩ = l.length := by rw [c1]; omega
  unfold runsS runsV runsL
  rw [List.append_assoc, b1, c2]
  exact run_app z l h

/-- A record's bytes are read as it was, whatever comes behind. -/
theorem read_rest {r : Rec} (h : rightR r = true) (z : List UInt8) : readS ⟨restL r ++ z, false⟩ = ⟨z, false⟩ ∧ readR ⟨restL r ++ z, false⟩ = r := by
  obtain ⟨h1, h2, h3, h4, h5, h6, h7, h8, h9, h10, h11, h12⟩ := right_is h
  have q : restL r ++ z = textL r.it.key ++ (fourL r.it.seq ++ (fourL r.it.ver ++ (flagL r.it.mark ++ (twoL r.size ++ (runsL r.spans ++ (textL r.it.tag ++ (textL r.it.mt ++ z))))))) := by
    simp only [restL, List.append_assoc]
  rw [q]
  have a1 := Wire.txt_app r.it.key (fourL r.it.seq ++ (fourL r.it.ver ++ (flagL r.it.mark ++ (twoL r.size ++ (runsL r.spans ++ (textL r.it.tag ++ (textL r.it.mt ++ z))))))) 24 (by omega) (by omega)
  have e4 := num_four' (n := r.it.seq) (by omega) h5
  have e5 := num_four' (n := r.it.ver) h6 h7
  have e7 := num_two' (n := r.size) h9 (by omega)
  have b4 := Wire.numS_app (fourL r.it.seq) (fourL r.it.ver ++ (flagL r.it.mark ++ (twoL r.size ++ (runsL r.spans ++ (textL r.it.tag ++ (textL r.it.mt ++ z)))))) 4 1 2147483647 rfl (by omega) (by omega)
  have c4 := Wire.numV_app (fourL r.it.seq) (fourL r.it.ver ++ (flagL r.it.mark ++ (twoL r.size ++ (runsL r.spans ++ (textL r.it.tag ++ (textL r.it.mt ++ z)))))) 4 1 2147483647 rfl (by omega) (by omega)
  have b5 := Wire.numS_app (fourL r.it.ver) (flagL r.it.mark ++ (twoL r.size ++ (runsL r.spans ++ (textL r.it.tag ++ (textL r.it.mt ++ z))))) 4 0 2147483647 rfl (by omega) (by omega)
  have c5 := Wire.numV_app (fourL r.it.ver) (flagL r.it.mark ++ (twoL r.size ++ (runsL r.spans ++ (textL r.it.tag ++ (textL r.it.mt ++ z))))) 4 0 2147483647 rfl (by omega) (by omega)
  have b6 := mark_app (flagL r.it.mark) (twoL r.size ++ (runsL r.spans ++ (textL r.it.tag ++ (textL r.it.mt ++ z))))
  have b7 := Wire.numS_app (twoL r.size) (runsL r.spans ++ (textL r.it.tag ++ (textL r.it.mt ++ z))) 2 0 1500 rfl (by omega) (by omega)
  have c7 := Wire.numV_app (twoL r.size) (runsL r.spans ++ (textL r.it.tag ++ (textL r.it.mt ++ z))) 2 0 1500 rfl (by omega) (by omega)
  have b8 := runs_app (textL r.it.tag ++ (textL r.it.mt ++ z)) r.spans h11 h12
  have a2 := Wire.txt_app r.it.tag (textL r.it.mt ++ z) 24 (by omega) (by omega)
  have a3 := Wire.txt_app r.it.mt z 40 (by omega) (by omega)
  have o6 := ones_flag r.it.mark (twoL r.size ++ (runsL r.spans ++ (textL r.it.tag ++ (textL r.it.mt ++ z))))
  constructor
  · simp only [readS, rd7, rd6, rd5, rd4, rd3, rd2, rd1, a1.2, a2.2, a3.2, b4, b5, o6, b6, b7, b8.1]
  · simp only [readR, rd7, rd6, rd5, rd4, rd3, rd2, rd1, a1.1, a1.2, a2.1, a2.2, a3.1, b4, c4, b5, c5, o6, b6, b7, c7, b8.1, b8.2, e4, e5, e7]
    rw [Rec.eq_iff]
    refine ⟨?_, rfl, rfl⟩
    rw [Itm.It.eq_iff]
    exact ⟨rfl, rfl, rfl, rfl, rfl, rfl, h8.symm⟩

theorem inner_seal (l : List UInt8) : innerT (sealB l) = markS kindL ⟨l, false⟩ := by
  unfold innerT
  rw [Crc.sealB_take]

theorem read_body {r : Rec} (h : rightR r = true) (z : List UInt8) : readS (markS kindL ⟨bodyL r ++ z, false⟩) = ⟨z, false⟩ ∧ readR (markS kindL ⟨bodyL r ++ z, false⟩) = r := by
  rw [bodyL, List.append_assoc, mark_app]
  exact read_rest h z

/-- A record that may be is parsed as it was. -/
theorem parse_print {r : Rec} (h : rightR r = true) : isRec (printL r) = true ∧ readR (innerT (printL r)) = r := by
  have e := read_body h []
  rw [List.append_nil] at e
  unfold isRec printL
  rw [inner_seal, Crc.opens_seal, e.1, e.2, h]
  exact ⟨rfl, rfl⟩

/-- Unlike records have unlike bytes. -/
theorem print_inj {a b : Rec} (ha : rightR a = true) (hb : rightR b = true) (h : printL a = printL b) : a = b := by
  have h1 := (parse_print ha).2
  have h2 := (parse_print hb).2
  rw [← h1, h, h2]

/-- A tape with more bytes behind. -/
def ext (q : List UInt8) (t : TK) : TK := ⟨t.rest ++ q, t.bad⟩

theorem good_ext {k : Nat} {t : TK} (q : List UInt8) (h : good k t = true) : good k (ext q t) = true := by
  unfold good at h ⊢
  simp only [Bool.and_eq_true, decide_eq_true_eq] at h ⊢
  refine ⟨h.1, ?_⟩
  show k ≤ (t.rest ++ q).length
  rw [List.length_append]
  omega
theorem good_len {k : Nat} {t : TK} (h : good k t = true) : k ≤ t.rest.length := by
  unfold good at h
  simp only [Bool.and_eq_true, decide_eq_true_eq] at h
  exact h.2
theorem take_ext {k : Nat} {t : TK} (q : List UInt8) (h : good k t = true) : (ext q t).rest.take k = t.rest.take k := by
  show (t.rest ++ q).take k = _
  rw [List.take_append_of_le_length (good_len h)]
theorem drop_ext {k : Nat} {t : TK} (q : List UInt8) (h : good k t = true) : (ext q t).rest.drop k = t.rest.drop k ++ q := by
  show (t.rest ++ q).drop k = _
  rw [List.drop_append_of_le_length (good_len h)]

theorem takeS_ext {k : Nat} {t : TK} (q : List UInt8) (h : (takeS k t).bad = false) : takeS k (ext q t) = ext q (takeS k t) := by
  unfold takeS at h ⊢
  cases hg : good k t with
  | false => rw [hg] at h; cases h
  | true => rw [good_ext q hg, if_pos rfl, if_pos rfl, drop_ext q hg]; rfl
theorem inside_ext {k : Nat} {lo hi : Int} {t : TK} (q : List UInt8) (h : good k t = true) : inside k lo hi (ext q t) = inside k lo hi t := by
  unfold inside
  rw [good_ext q h, h, take_ext q h]
theorem numS_good {k : Nat} {lo hi : Int} {t : TK} (h : (numS k lo hi t).bad = false) : good k t = true := by
  unfold numS at h
  cases hg : good k t with
  | false => rw [hg] at h; cases h
  | true => rfl
theorem numS_ext {k : Nat} {lo hi : Int} {t : TK} (q : List UInt8) (h : (numS k lo hi t).bad = false) : numS k lo hi (ext q t) = ext q (numS k lo hi t) := by
  have hg := numS_good h
  unfold numS
  rw [good_ext q hg, hg, if_pos rfl, if_pos rfl, inside_ext q hg, drop_ext q hg]
  rfl
theorem numV_ext {k : Nat} {lo hi : Int} {t : TK} (q : List UInt8) (h : good k t = true) : numV k lo hi (ext q t) = numV k lo hi t := by
  unfold numV
  rw [inside_ext q h, take_ext q h]
theorem txtS_good {most : Int} {t : TK} (h : (txtS most t).bad = false) : good 2 t = true := by
  unfold txtS at h
  cases hi : inside 2 0 most t with
  | false =>
    rw [hi] at h
    exact numS_good (lo := 0) (hi := most) h
  | true =>
    unfold inside at hi
    simp only [Bool.and_eq_true] at hi
    exact hi.1
theorem inside_numS {k : Nat} {lo hi : Int} {t : TK} (h : inside k lo hi t = true) : (numS k lo hi t).bad = false := by
  have hg : good k t = true := by
    unfold inside at h
    simp only [Bool.and_eq_true] at h
    exact h.1
  unfold numS
  rw [hg, h]
  rfl
theorem txtS_ext {most : Int} {t : TK} (q : List UInt8) (h : (txtS most t).bad = false) : txtS most (ext q t) = ext q (txtS most t) := by
  have hg := txtS_good h
  unfold txtS at h ⊢
  rw [inside_ext q hg]
  cases hi : inside 2 0 most t with
  | false =>
    rw [hi] at h
    exact numS_ext q h
  | true =>
    rw [hi] at h
    simp only [if_true] at h ⊢
    rw [numS_ext q (inside_numS hi), numV_ext q hg, takeS_ext q h]
theorem markS_good {m : List UInt8} {t : TK} (h : (markS m t).bad = false) : good m.length t = true := by
  unfold markS at h
  cases hg : good m.length t with
  | false => rw [hg] at h; cases h
  | true => rfl
theorem markS_ext {m : List UInt8} {t : TK} (q : List UInt8) (h : (markS m t).bad = false) : markS m (ext q t) = ext q (markS m t) := by
  have hg := markS_good h
  unfold markS
  rw [good_ext q hg, hg, if_pos rfl, if_pos rfl, take_ext q hg, drop_ext q hg]
  rfl
theorem good_bad' {k : Nat} {t : TK} (h : good k t = true) : t.bad = false := by
  unfold good at h
  simp only [Bool.and_eq_true, Bool.not_eq_true'] at h
  exact h.1

theorem ones_ext {t : TK} (q : List UInt8) (h : good 1 t = true) : ones (ext q t) = ones t := by
  obtain ⟨l, b⟩ := t
  cases l with
  | nil => exact absurd (good_len h) (by simp)
  | cons c l => rfl

theorem flagL_len (b : Bool) : (flagL b).length = 1 := by cases b <;> rfl

theorem stp_good {t : TK} (h : (stp t).bad = false) : (numS 2 1 511 t).bad = false ∧ t.bad = false := by
  have h1 : (numS 2 1 511 t).bad = false := good_bad' (numS_good h)
  exact ⟨h1, good_bad' (numS_good h1)⟩
theorem stp_ext {t : TK} (q : List UInt8) (h : (stp t).bad = false) : stp (ext q t) = ext q (stp t) := by
  have h1 := (stp_good h).1
  unfold stp
  rw [numS_ext q h1]
  exact numS_ext q h
theorem runS_good : ∀ (n : Nat) {t : TK}, (runS n t).bad = false → t.bad = false := by
  intro n
  induction n with
  | zero => intro t h; exact h
  | succ n ih => intro t h; exact ih (stp_good h).2
theorem runS_ext (n : Nat) {t : TK} (q : List UInt8) (h : (runS n t).bad = false) : runS n (ext q t) = ext q (runS n t) := by
  induction n with
  | zero => rfl
  | succ n ih =>
    show stp (runS n (ext q t)) = ext q (stp (runS n t))
    rw [ih (stp_good h).2]
    exact stp_ext q h
theorem runsS_good {t : TK} (h : (runsS t).bad = false) : t.bad = false := good_bad' (numS_good (runS_good _ h))
theorem runsS_ext {t : TK} (q : List UInt8) (h : (runsS t).bad = false) : runsS (ext q t) = ext q (runsS t) := by
  have h1 : (numS 2 0 8 t).bad = false := runS_good _ h
  unfold runsS
  rw [numS_ext q h1, numV_ext q (numS_good h1)]
  exact runS_ext _ q h

/-- Where the reading goes well, more bytes behind stay. -/
theorem readS_ext {t : TK} (q : List UInt8) (h : (readS t).bad = false) : readS (ext q t) = ext q (readS t) := by
  have h7 : (rd7 t).bad = false := good_bad' (txtS_good h)
  have h6 : (rd6 t).bad = false := good_bad' (txtS_good h7)
  have h5 : (rd5 t).bad = false := runsS_good h6
  have h4 : (rd4 t).bad = false := good_bad' (numS_good h5)
  have g3 := markS_good h4
  have h3 : (rd3 t).bad = false := good_bad' g3
  have h2 : (rd2 t).bad = false := good_bad' (numS_good h3)
  have h1 : (rd1 t).bad = false := good_bad' (numS_good h2)
  have e1 : rd1 (ext q t) = ext q (rd1 t) := txtS_ext q h1
  have e2 : rd2 (ext q t) = ext q (rd2 t) := by unfold rd2; rw [e1]; exact numS_ext q h2
  have e3 : rd3 (ext q t) = ext q (rd3 t) := by unfold rd3; rw [e2]; exact numS_ext q h3
  rw [flagL_len] at g3
  have e4 : rd4 (ext q t) = ext q (rd4 t) := by unfold rd4; rw [e3, ones_ext q g3]; exact markS_ext q h4
  have e5 : rd5 (ext q t) = ext q (rd5 t) := by unfold rd5; rw [e4]; exact numS_ext q h5
  have e6 : rd6 (ext q t) = ext q (rd6 t) := by unfold rd6; rw [e5]; exact runsS_ext q h6
  have e7 : rd7 (ext q t) = ext q (rd7 t) := by unfold rd7; rw [e6]; exact txtS_ext q h7
  show txtS 40 (rd7 (ext q t)) = _
  rw [e7]
  exact txtS_ext q h

theorem readS_mark {t : TK} (h : (readS (markS kindL t)).bad = false) : (markS kindL t).bad = false := by
  have h7 : (rd7 (markS kindL t)).bad = false := good_bad' (txtS_good h)
  have h6 : (rd6 (markS kindL t)).bad = false := good_bad' (txtS_good h7)
  have h5 : (rd5 (markS kindL t)).bad = false := runsS_good h6
  have h4 : (rd4 (markS kindL t)).bad = false := good_bad' (numS_good h5)
  have h3 : (rd3 (markS kindL t)).bad = false := good_bad' (markS_good h4)
  have h2 : (rd2 (markS kindL t)).bad = false := good_bad' (numS_good h3)
  have h1 : (rd1 (markS kindL t)).bad = false := good_bad' (numS_good h2)
  exact good_bad' (txtS_good h1)

theorem done_is {t : TK} (h : doneV t = true) : t = ⟨[], false⟩ := by
  obtain ⟨l, b⟩ := t
  unfold doneV at h
  simp only [Bool.and_eq_true, Bool.not_eq_true', beq_iff_eq] at h
  obtain ⟨rfl, rfl⟩ := h
  rfl

/-- Bytes that are a true beginning of a record's are none. -/
theorem cut_none {r : Rec} (h : rightR r = true) (p q : List UInt8) (e : bodyL r = p ++ q) (hq : q ≠ []) : doneV (readS (markS kindL ⟨p, false⟩)) = false := by
  rw [Bool.eq_false_iff]
  intro hd
  have hd := done_is hd
  have hb : (readS (markS kindL ⟨p, false⟩)).bad = false := by rw [hd]
  have h1 := readS_ext q hb
  rw [← markS_ext q (readS_mark hb)] at h1
  have h2 := (read_body h []).1
  rw [List.append_nil, e] at h2
  have h3 : ext q ⟨p, false⟩ = ⟨p ++ q, false⟩ := rfl
  rw [h3, h2, hd] at h1
  exact hq (by simpa [ext] using (congrArg TK.rest h1).symm)

theorem print_len (r : Rec) : (printL r).length = (bodyL r).length + 4 := Crc.sealB_len _

/-- Cut off anywhere there is none. -/
theorem parse_cut {r : Rec} (h : rightR r = true) (k : Nat) (hk : k < (printL r).length) : isRec ((printL r).take k) = false := by
  unfold isRec
  cases ho : opens ((printL r).take k) with
  | false => rfl
  | true =>
    have hl : ((printL r).take k).length = k := by rw [List.length_take]; omega
    have hp := print_len r
    have e1 : ((printL r).take k).take (k - 4) = (bodyL r).take (k - 4) := by
      rw [List.take_take, show min (k - 4) k = k - 4 by omega]
      unfold printL sealB
      rw [List.take_append_of_le_length (by omega)]
    have hd := cut_none h ((bodyL r).take (k - 4)) ((bodyL r).drop (k - 4)) (List.take_append_drop _ _).symm (by
      intro e
      have := congrArg List.length e
      rw [List.length_drop, List.length_nil] at this
      have : 4 ≤ k := by
        have := ho
        unfold opens at this
        simp only [Bool.and_eq_true, decide_eq_true_eq] at this
        omega
      omega)
    unfold innerT
    rw [hl, e1, hd]
    rfl

/-- Nor is there with one more byte. -/
theorem parse_more {r : Rec} (h : rightR r = true) (c : UInt8) : isRec (printL r ++ [c]) = false := by
  unfold isRec
  have hp := print_len r
  have e1 : ∃ d, (printL r ++ [c]).take ((printL r ++ [c]).length - 4) = bodyL r ++ [d] := by
    rw [List.length_append, hp, List.length_singleton, show (bodyL r).length + 4 + 1 - 4 = (bodyL r).length + 1 by omega]
    unfold printL sealB
    rw [List.append_assoc, List.take_append, List.take_of_length_le (by omega), show (bodyL r).length + 1 - (bodyL r).length = 1 by omega]
    exact ⟨_, rfl⟩
  obtain ⟨d, e1⟩ := e1
  have hd : doneV (readS (innerT (printL r ++ [c]))) = false := by
    unfold innerT
    rw [e1, (read_body h [d]).1]
    rfl
  rw [hd, Bool.false_and, Bool.and_false]

end Go.Proofs.Ytkfjbhikibidiaa
