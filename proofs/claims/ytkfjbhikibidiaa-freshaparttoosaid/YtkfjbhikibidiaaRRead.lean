/- fresh.readRuns, readFlag: what each call does; boxes that are written. No statement is proved here. -/
import Derived.Test.YtkfjbhikibidiaaRPrint
import Derived.Test.YtkfjbhikibidiaaWBack
import Derived.Test.YtkfjbhikibidiaaNStr
import Derived.Test.YtkfjbhikibidiaaCSync
import Derived.Maps.AppendAt
namespace Go.Proofs.Ytkfjbhikibidiaa
open Go.RowKit
open Wire (TK TP But textL twoL fourL markS numV numS inside)

theorem begins_one (t : TK) : Nm.begins t.rest [1] = ones t := by
  obtain ⟨l, b⟩ := t
  cases l with
  | nil => rfl
  | cons c l =>
    unfold Nm.begins ones
    simp

theorem prefix_one (t : TK) (w : World) : Calls Try.prog 43 #[.string (strB t.rest), .string ⟨#[1]⟩] w fun e w' => e = .returned (.bool (ones t)) ∧ w' = w := by
  have h := Nm.prefix_calls t.rest [1] w
  rw [begins_one] at h
  exact h

set_option maxHeartbeats 1000000 in
theorem readFlag_calls (b : Nat) (t : TK) (w : World) (ht : TP 50 w b t) :
    Calls Try.prog 36 #[.pointer (some ⟨b, 0, none⟩)] w fun e w' => e = .returned (.bool (ones t)) ∧ TP 50 w' b (markS (flagL (ones t)) t) ∧ But b w w' := by
  have c0 := ht.rest
  have HT := Lib.hid ht
  clear ht
  go_enter Try.func36, Try.ntmps36
  go_wp2_with fail
  (with_reducible refine (prefix_one t _).mono ?_)
  rintro e w1 ⟨rfl, rfl⟩
  go_wp2_with fail
  (with_reducible refine (flag_calls (ones t) _).mono ?_)
  rintro e w1 ⟨rfl, rfl⟩
  go_wp2_with fail
  (with_reducible refine (Wire.mark_calls b (flagL (ones t)) t _ HT.out).mono ?_)
  rintro e w1 ⟨rfl, hT, hB⟩
  have HT1 := Lib.hid hT
  have HB1 := Lib.hid hB
  clear hT hB
  go_wp2_with fail
  go_ret
  exact ⟨rfl, HT1.out, HB1.out⟩

theorem TP.setOther {ty : TypeId} {w : World} {b : Nat} {t : TK} (h : TP ty w b t) (a : Addr) (x : Value) (ha : a.block ≠ b) : TP ty (w.setCell a x) b t :=
  h.keep (Below.heap_setCell _ _ _ _ (fun e => ha e.symm))

section
variable {w : World} {g : Nat} {r : Rec} {v : Value}
theorem RBox.setKey (h : RBox w g r v) (x : List UInt8) : RBox (w.setCell ⟨g, 0, none⟩ (.string (strB x))) g { r with it := { r.it with key := x } } v := heap_setCell_same w g 0 _ 26 _ h
theorem RBox.setSeq (h : RBox w g r v) (x : Int) : RBox (w.setCell ⟨g, 1, none⟩ (.int .i64 x)) g { r with it := { r.it with seq := x } } v := heap_setCell_same w g 1 _ 26 _ h
theorem RBox.setVer (h : RBox w g r v) (x : Int) : RBox (w.setCell ⟨g, 2, none⟩ (.int .i64 x)) g { r with it := { r.it with ver := x } } v := heap_setCell_same w g 2 _ 26 _ h
theorem RBox.setMark (h : RBox w g r v) (x : Bool) : RBox (w.setCell ⟨g, 3, none⟩ (.bool x)) g { r with it := { r.it with mark := x } } v := heap_setCell_same w g 3 _ 26 _ h
theorem RBox.setMt (h : RBox w g r v) (x : List UInt8) : RBox (w.setCell ⟨g, 4, none⟩ (.string (strB x))) g { r with it := { r.it with mt := x } } v := heap_setCell_same w g 4 _ 26 _ h
theorem RBox.setTag (h : RBox w g r v) (x : List UInt8) : RBox (w.setCell ⟨g, 5, none⟩ (.string (strB x))) g { r with it := { r.it with tag := x } } v := heap_setCell_same w g 5 _ 26 _ h
theorem RBox.setBody (h : RBox w g r v) (x : List UInt8) : RBox (w.setCell ⟨g, 6, none⟩ (.string (strB x))) g { r with it := { r.it with body := x } } v := heap_setCell_same w g 6 _ 26 _ h
theorem RBox.setSize (h : RBox w g r v) (x : Int) : RBox (w.setCell ⟨g, 7, none⟩ (.int .i64 x)) g { r with size := x } v := heap_setCell_same w g 7 _ 26 _ h
theorem RBox.setSpans (h : RBox w g r v) (l : List (Int × Int)) (u : Value) : RBox (w.setCell ⟨g, 8, none⟩ u) g { r with spans := l } u := heap_setCell_same w g 8 _ 26 _ h
theorem RBox.keep {w' : World} (h : RBox w g r v) (e : w'.heap[g]? = w.heap[g]?) : RBox w' g r v := e.trans h
theorem RBox.but {w' : World} {b : Nat} (h : RBox w g r v) (hb : But b w w') (hg : g ≠ b) : RBox w' g r v := h.keep (hb.block g h.lt hg)
end
theorem But.setNew {b : Nat} {u v : World} (h : But b u v) (a : Addr) (x : Value) (ha : u.heap.size ≤ a.block) : But b u (v.setCell a x) :=
  ⟨h.os, h.tape, h.output, by simpa [World.setCell] using h.size, fun k hk hb => (Below.heap_setCell _ _ _ _ (by omega)).trans (h.block k hk hb)⟩

theorem Sps.keep {w w' : World} {A : Option Addr} {n c : Nat} {l : List (Int × Int)} (h : Sps w (.slice A n c) l) (hs : w.heap.size ≤ w'.heap.size) (hk : ∀ p, A = some p → w'.heap[p.block]? = w.heap[p.block]?) : Sps w' (.slice A n c) l := by
  obtain ⟨A', c', e, hc, hr⟩ := h
  injection e with e1 e2 e3
  subst e1 e2 e3
  refine ⟨A, c, rfl, hc, fun hp => ?_⟩
  obtain ⟨b, off, e1, hl, hx⟩ := hr hp
  have hb : w'.heap[b]? = w.heap[b]? := hk _ e1
  exact ⟨b, off, e1, by omega, fun j x hj => ⟨(World.cell?_of_block (w := w) (w' := w') (a := ⟨b, off + j * 2, none⟩) hb).trans (hx j x hj).1, (World.cell?_of_block (w := w) (w' := w') (a := ⟨b, off + j * 2 + 1, none⟩) hb).trans (hx j x hj).2⟩⟩

open Crc (Only)

/-- The world behind the store of a whole record, under a name of its own. -/
theorem store9 {w : World} {g : Nat} {r0 : Rec} {v0 : Value} (h : RBox w g r0 v0) (r : Rec) (v : Value) :
    ∃ w2, ((((((((w.setCell ⟨g, 0, none⟩ (.string (strB r.it.key))).setCell ⟨g, 1, none⟩ (.int .i64 r.it.seq)).setCell ⟨g, 2, none⟩ (.int .i64 r.it.ver)).setCell ⟨g, 3, none⟩ (.bool r.it.mark)).setCell ⟨g, 4, none⟩ (.string (strB r.it.mt))).setCell ⟨g, 5, none⟩ (.string (strB r.it.tag))).setCell ⟨g, 6, none⟩ (.string (strB r.it.body))).setCell ⟨g, 7, none⟩ (.int .i64 r.size)).setCell ⟨g, 8, none⟩ v = w2 ∧
      RBox w2 g r v ∧ Only g w w2 := by
  refine ⟨_, rfl, ?_, (((((((((Only.refl g w).setCell _ rfl _).setCell _ rfl _).setCell _ rfl _).setCell _ rfl _).setCell _ rfl _).setCell _ rfl _).setCell _ rfl _).setCell _ rfl _).setCell _ rfl _⟩
  have h9 := (((((((((h.setKey r.it.key).setSeq r.it.seq).setVer r.it.ver).setMark r.it.mark).setMt r.it.mt).setTag r.it.tag).setBody r.it.body).setSize r.size).setSpans r.spans v)
  exact h9

theorem Only.but {b g : Nat} {u v w : World} (h : But b u v) (k : Only g v w) (hg : u.heap.size ≤ g) : But b u w :=
  ⟨k.os.trans h.os, k.tape.trans h.tape, k.output.trans h.output, by rw [k.size]; exact h.size, fun i hi hb => (k.block i (by omega)).trans (h.block i hi hb)⟩


/-- Runs, as cells. -/
def spsC : List (Int × Int) → List Value
  | [] => []
  | x :: l => .int .i64 x.1 :: .int .i64 x.2 :: spsC l
theorem spsC_snoc (l : List (Int × Int)) (x : Int × Int) : spsC (l ++ [x]) = spsC l ++ [.int .i64 x.1, .int .i64 x.2] := by
  induction l with
  | nil => rfl
  | cons y l ih => simp only [List.cons_append, spsC, ih]
theorem spsC_at : ∀ (l : List (Int × Int)) (j : Nat) (x : Int × Int), l[j]? = some x → (spsC l)[j * 2]? = some (.int .i64 x.1) ∧ (spsC l)[j * 2 + 1]? = some (.int .i64 x.2) := by
  intro l
  induction l with
  | nil => intro j x h; cases h
  | cons y l ih =>
    intro j x h
    cases j with
    | zero =>
      obtain rfl : y = x := by simpa using h
      exact ⟨rfl, rfl⟩
    | succ j =>
      have := ih j x (by simpa using h)
      rw [show (j + 1) * 2 = j * 2 + 2 by omega, show j * 2 + 2 + 1 = j * 2 + 1 + 2 by omega]
      exact this
/-- A slice of the call's own that reads as the runs l. -/
def OwnS (B : Nat) (w : World) (v : Value) (l : List (Int × Int)) : Prop := w.ownsRow B 41 2 v l.length (spsC l)
theorem OwnS.sps {B : Nat} {w : World} {v : Value} {l : List (Int × Int)} (h : OwnS B w v l) : Sps w v l := by
  rcases id h.2 with ⟨rfl, h0⟩ | ⟨g, cap, cur, rfl, _, hg, hn, _, _, ht⟩
  · obtain rfl : l = [] := List.eq_nil_of_length_eq_zero h0
    exact Sps.nil w
  · refine ⟨_, cap, rfl, hn, fun _ => ⟨g, 0, rfl, (Array.getElem?_eq_some_iff.1 hg).1, fun j x hj => ?_⟩⟩
    rw [Nat.zero_add, cell_of_row _ _ _ _ _ _ hg, cell_of_row _ _ _ _ _ _ hg]
    have hjl := (List.getElem?_eq_some_iff.1 hj).1
    obtain ⟨e1, e2⟩ := spsC_at l j x hj
    rw [← ht, List.getElem?_take, if_pos (by omega)] at e1 e2
    exact ⟨by simpa using e1, by simpa using e2⟩
theorem OwnS.nil (B : Nat) (w : World) : OwnS B w (.slice none 0 0) [] := World.ownsRow_nil _ _ _ _
theorem OwnS.ge {B : Nat} {w : World} {v : Value} {l : List (Int × Int)} (h : OwnS B w v l) : ∀ k, v.ownBlock = some k → B ≤ k := fun k hk => (World.ownsRow.lt h k hk).1
theorem OwnS.but {B b : Nat} {w w' : World} {v : Value} {l : List (Int × Int)} (h : OwnS B w v l) (hb : But b w w') (hB : b < B) : OwnS B w' v l := by
  refine ⟨h.1, ?_⟩
  rcases h.2 with hn | ⟨g, cap, cur, rfl, hg1, hg, rest⟩
  · exact .inl hn
  · exact .inr ⟨g, cap, cur, rfl, hg1, (hb.block g (Array.getElem?_eq_some_iff.1 hg).1 (by omega)).trans hg, rest⟩
theorem own_snoc {B : Nat} {w : World} {v : Value} {l : List (Int × Int)} {x : Int × Int} (h : w.ownsRow B 41 2 v (l.length + 1) (spsC l ++ [.int .i64 x.1, .int .i64 x.2])) : OwnS B w v (l ++ [x]) := by
  unfold OwnS
  rw [spsC_snoc, List.length_append]
  exact h
theorem news2 {W : World} (x : Int × Int) {g : Nat} (hg : W.heap.size = g) : ∀ (j : Nat) (u : Value), ([.int .i64 x.1, .int .i64 x.2] : List Value)[j]? = some u → (W.alloc (.cells #[.int .i64 x.1, .int .i64 x.2] 41)).cell? ((⟨g, 0, none⟩ : Addr).add j) = some u := by
  intro j u hj
  subst hg
  rw [Addr.add_lit, Nat.zero_add, cell_of_row _ _ _ _ _ _ (heap_alloc_new W _), ← hj]
  exact List.getElem?_toArray
theorem one2 (x : Int × Int) : ∀ u ∈ ([.int .i64 x.1, .int .i64 x.2] : List Value), u.oneCell' = true := by
  intro u hu
  simp only [List.mem_cons, List.not_mem_nil, or_false] at hu
  rcases hu with rfl | rfl <;> rfl
theorem info41 : (Try.prog.info? 41).map (fun i => (i.zero, i.size, i.bytes)) = some (some (.agg #[.int .i64 0, .int .i64 0]), 2, 16) := by kernel_rfl
theorem numV_le (k : Nat) (lo : Int) (hi : Nat) (t : TK) : numV k lo (hi : Int) t ≤ hi := by
  unfold numV
  cases h : inside k lo (hi : Int) t with
  | false => exact Nat.zero_le _
  | true =>
    unfold inside at h
    simp only [Bool.and_eq_true, decide_eq_true_eq] at h
    simp only [if_true]
    omega
theorem But.grown {b : Nat} {u v w : World} {row : Option Nat} (h : But b u v) (k : v.grownBy w row) (hr : ∀ i, row = some i → u.heap.size ≤ i) : But b u w :=
  ⟨k.os.trans h.os, k.tape.trans h.tape, k.output.trans h.output, Nat.le_trans h.size k.size, fun i hi hb => (k.block i (Nat.lt_of_lt_of_le hi h.size) (fun e => by have := hr i e.symm; omega)).trans (h.block i hi hb)⟩

set_option maxRecDepth 100000 in
set_option maxHeartbeats 4000000 in
theorem readRuns_calls (b : Nat) (t : TK) (w : World) (ht : TP 50 w b t) :
    Calls Try.prog 38 #[.pointer (some ⟨b, 0, none⟩)] w fun e w' => ∃ A n c, e = .returned (.slice A n c) ∧ Sps w' (.slice A n c) (runsV t) ∧ (∀ p, A = some p → w.heap.size ≤ p.block) ∧ TP 50 w' b (runsS t) ∧ But b w w' := by
  have hbl := ht.lt
  have HT := Lib.hid ht
  obtain ⟨i1, hi, hz0, hz1, hz2⟩ := info_parts info41
  obtain ⟨n, hn⟩ : ∃ n : Nat, n = numV 2 0 8 t := ⟨_, rfl⟩
  have hn8 : n ≤ 8 := by rw [hn]; exact numV_le 2 0 8 t
  have HN := Lib.hid hn
  clear ht hn
  go_enter Try.func38, Try.ntmps38
  go_wp2_with fail
  (with_reducible refine (Wire.ttwo_calls b 0 8 t _ HT.out).mono ?_)
  rintro e w1 ⟨rfl, hT1, hB1⟩
  have HT1 := Lib.hid hT1
  have HB1 := Lib.hid hB1
  clear hT1 hB1
  rw [← HN.out]
  obtain ⟨t1, h1⟩ : ∃ t1, t1 = numS 2 0 8 t := ⟨_, rfl⟩
  rw [← h1] at HT1
  have H1 := Lib.hid h1
  clear h1
  go_wp2_with fail
  go_loopw [3, 8] (fun u3 u8 wr => ∃ i : Nat, i ≤ n ∧ u8 = .int .i64 i ∧ Hid (OwnS w.heap.size wr u3 (runV i t1)) ∧ Hid (TP 50 wr b (runS i t1)) ∧ Hid (But b w wr)) (fun _ u _ => n - (intOf u).toNat)
  case atStart => exact ⟨0, Nat.zero_le _, rfl, Lib.hid (OwnS.nil _ _), HT1, HB1⟩
  case round =>
    obtain ⟨i, hi', rfl, HO, HTr, HBr⟩ := hrel
    by_cases hlt : i < n
    · go_wp2_with fail
      (with_reducible refine (Wire.ttwo_calls b 1 511 _ _ HTr.out).mono ?_)
      rintro e w2 ⟨rfl, hT2, hB2⟩
      replace HTr := Lib.hid hT2
      replace HO := Lib.hid (HO.out.but hB2 hbl)
      replace HBr := Lib.hid (HBr.out.trans hB2)
      clear hT2 hB2
      go_wp2_with fail
      (with_reducible refine (Wire.ttwo_calls b 1 8 _ _ HTr.out).mono ?_)
      rintro e w3 ⟨rfl, hT3, hB3⟩
      have HT3 : Hid (TP 50 w3 b (runS (i + 1) t1)) := Lib.hid hT3
      replace HO := Lib.hid (HO.out.but hB3 hbl)
      replace HBr := Lib.hid (HBr.out.trans hB3)
      clear hT3 hB3 HTr
      have hle : (runV i t1).length ≤ 8 := by rw [runV_len]; omega
      go_wp2_with (at_builtin; refine wpList_append_own_at _ (by rfl) (.tmp 14) (.tmp 18) 24 (by rfl) w.heap.size 41 i1 _ 2 16 Try.underlying24 hi hz0 hz1 hz2 (by rfl) (by omega) _ (runV i t1).length (spsC (runV i t1)) (by rfl) (by exact World.ownsRow.alloc HO.out _) ⟨w3.heap.size, 0, none⟩ 1 1 [.int .i64 (spn (runS i t1)).1, .int .i64 (spn (runS i t1)).2] (by rfl) (by rfl) (by exact news2 (spn (runS i t1)) rfl) (one2 _) (Nat.le_trans (show (runV i t1).length + 1 ≤ 1000000 by omega) (by decide)) (by omega) (by have := HBr.out.size; simp; omega) ?_; intro v' w' hown' hgrow' hnil' hat')
      have HO' : Hid (OwnS w.heap.size w' v' (runV (i + 1) t1)) := Lib.hid (own_snoc hown')
      have HB' : Hid (But b w w') := Lib.hid (But.grown (HBr.out.alloc _) hgrow' HO.out.ge)
      have HT' : Hid (TP 50 w' b (runS (i + 1) t1)) := Lib.hid ((HT3.out.alloc _).keep (hgrow'.block b (by have := HT3.out.lt; simp; omega) (fun e => by have := HO.out.ge b e.symm; omega)))
      exact ⟨⟨i + 1, by omega, by go_num, HO', HT', HB'⟩, by simp [intOf]; omega⟩
    · obtain rfl : i = n := by omega
      have e1 : runV i t1 = runsV t := by unfold runsV; rw [H1.out, HN.out]
      have e2 : runS i t1 = runsS t := by unfold runsS; rw [H1.out, HN.out]
      rw [e1] at HO
      rw [e2] at HTr
      clear e1 e2
      obtain ⟨A, c, hA⟩ := HO.out.sps.form
      have HG := Lib.hid HO.out.ge
      replace HO := Lib.hid HO.out.sps
      subst hA
      go_wp2_with fail
      go_ret
      exact ⟨A, _, c, rfl, HO.out, fun p hp => HG.out p.block (by rw [hp]; rfl), HTr.out, HBr.out⟩

end Go.Proofs.Ytkfjbhikibidiaa
