/- old.spans, readFlag: what each call does; boxes that are written. No statement is proved here. -/
import Derived.Test.YtkfoppjogdphiaaRPrint
import Derived.Test.YtkfoppjogdphiaaWBack
import Derived.Test.YtkfoppjogdphiaaNStr
import Derived.Test.YtkfoppjogdphiaaCSync
namespace Go.Proofs.Ytkfoppjogdphiaa
open Go.RowKit
open Wire (TK TP But textL twoL fourL markS)

set_option maxHeartbeats 1000000 in
theorem spans_calls (first size : Int) (w : World) (h0 : 0 ≤ size) (h1 : size ≤ 100000) :
    Calls Try.prog 36 #[.int .i64 first, .int .i64 size] w fun e w' => ∃ A n c, e = .returned (.slice A n c) ∧ Sps w' (.slice A n c) (spansOf first size) ∧ (∀ p, A = some p → w.heap.size ≤ p.block) ∧ Below w.heap.size w w' := by
  unfold spansOf
  by_cases h : first = 0
  · subst h
    go_enter Try.func36, Try.ntmps36
    go_wp2_with fail
    go_ret
    exact ⟨_, _, _, rfl, Sps.nil _, fun p h => (by cases h), Below.refl _ _⟩
  · have h' : (first == 0) = false := by simpa using h
    rw [if_neg h]
    clear h
    go_enter Try.func36, Try.ntmps36
    go_wp2_with fail
    (with_reducible refine (pages_calls size _ h0 h1).mono ?_)
    rintro e w1 ⟨rfl, rfl⟩
    go_wp2_with fail
    go_ret
    exact ⟨_, _, _, rfl, Sps.new _ _ _, fun p h => by (injection h with h; subst h; exact Nat.le_refl _), below_one _ _⟩

theorem begins_one (t : TK) : Nm.begins t.rest [1] = ones t := by
  obtain ⟨l, b⟩ := t
  cases l with
  | nil => rfl
  | cons c l =>
    unfold Nm.begins ones
    simp

theorem prefix_one (t : TK) (w : World) : Calls Try.prog 40 #[.string (strB t.rest), .string ⟨#[1]⟩] w fun e w' => e = .returned (.bool (ones t)) ∧ w' = w := by
  have h := Nm.prefix_calls t.rest [1] w
  rw [begins_one] at h
  exact h

set_option maxHeartbeats 1000000 in
theorem readFlag_calls (b : Nat) (t : TK) (w : World) (ht : TP 50 w b t) :
    Calls Try.prog 34 #[.pointer (some ⟨b, 0, none⟩)] w fun e w' => e = .returned (.bool (ones t)) ∧ TP 50 w' b (markS (flagL (ones t)) t) ∧ But b w w' := by
  have c0 := ht.rest
  have HT := Lib.hid ht
  clear ht
  go_enter Try.func34, Try.ntmps34
  go_wp2_with fail
  (with_reducible refine (prefix_one t _).mono ?_)
  rintro e w1 ⟨rfl, rfl⟩
  go_wp2_with fail
  (with_reducible refine (flag_calls (ones t) _).mono ?_)
  rintro e w1 ⟨rfl, rfl⟩
  go_wp2_with fail
  (with_reducible refine (Wire.mark_calls b (flagL (ones t)) t _ HT.out).mono ?_)
  rintro e w1 ⟨rfl, hT, hB⟩
  have HT1 := Lib.hid hT
  have HB1 := Lib.hid hB
  clear hT hB
  go_wp2_with fail
  go_ret
  exact ⟨rfl, HT1.out, HB1.out⟩

theorem TP.setOther {ty : TypeId} {w : World} {b : Nat} {t : TK} (h : TP ty w b t) (a : Addr) (x : Value) (ha : a.block ≠ b) : TP ty (w.setCell a x) b t :=
  h.keep (Below.heap_setCell _ _ _ _ (fun e => ha e.symm))

section
variable {w : World} {g : Nat} {r : Rec} {v : Value}
theorem RBox.setKey (h : RBox w g r v) (x : List UInt8) : RBox (w.setCell ⟨g, 0, none⟩ (.string (strB x))) g { r with it := { r.it with key := x } } v := heap_setCell_same w g 0 _ 26 _ h
theorem RBox.setSeq (h : RBox w g r v) (x : Int) : RBox (w.setCell ⟨g, 1, none⟩ (.int .i64 x)) g { r with it := { r.it with seq := x } } v := heap_setCell_same w g 1 _ 26 _ h
theorem RBox.setVer (h : RBox w g r v) (x : Int) : RBox (w.setCell ⟨g, 2, none⟩ (.int .i64 x)) g { r with it := { r.it with ver := x } } v := heap_setCell_same w g 2 _ 26 _ h
theorem RBox.setMark (h : RBox w g r v) (x : Bool) : RBox (w.setCell ⟨g, 3, none⟩ (.bool x)) g { r with it := { r.it with mark := x } } v := heap_setCell_same w g 3 _ 26 _ h
theorem RBox.setMt (h : RBox w g r v) (x : List UInt8) : RBox (w.setCell ⟨g, 4, none⟩ (.string (strB x))) g { r with it := { r.it with mt := x } } v := heap_setCell_same w g 4 _ 26 _ h
theorem RBox.setTag (h : RBox w g r v) (x : List UInt8) : RBox (w.setCell ⟨g, 5, none⟩ (.string (strB x))) g { r with it := { r.it with tag := x } } v := heap_setCell_same w g 5 _ 26 _ h
theorem RBox.setBody (h : RBox w g r v) (x : List UInt8) : RBox (w.setCell ⟨g, 6, none⟩ (.string (strB x))) g { r with it := { r.it with body := x } } v := heap_setCell_same w g 6 _ 26 _ h
theorem RBox.setSize (h : RBox w g r v) (x : Int) : RBox (w.setCell ⟨g, 7, none⟩ (.int .i64 x)) g { r with size := x } v := heap_setCell_same w g 7 _ 26 _ h
theorem RBox.setSpans (h : RBox w g r v) (l : List (Int × Int)) (u : Value) : RBox (w.setCell ⟨g, 8, none⟩ u) g { r with spans := l } u := heap_setCell_same w g 8 _ 26 _ h
theorem RBox.keep {w' : World} (h : RBox w g r v) (e : w'.heap[g]? = w.heap[g]?) : RBox w' g r v := e.trans h
theorem RBox.but {w' : World} {b : Nat} (h : RBox w g r v) (hb : But b w w') (hg : g ≠ b) : RBox w' g r v := h.keep (hb.block g h.lt hg)
end
theorem But.setNew {b : Nat} {u v : World} (h : But b u v) (a : Addr) (x : Value) (ha : u.heap.size ≤ a.block) : But b u (v.setCell a x) :=
  ⟨h.os, h.tape, h.output, by simpa [World.setCell] using h.size, fun k hk hb => (Below.heap_setCell _ _ _ _ (by omega)).trans (h.block k hk hb)⟩

theorem Sps.keep {w w' : World} {A : Option Addr} {n c : Nat} {l : List (Int × Int)} (h : Sps w (.slice A n c) l) (hs : w.heap.size ≤ w'.heap.size) (hk : ∀ p, A = some p → w'.heap[p.block]? = w.heap[p.block]?) : Sps w' (.slice A n c) l := by
  obtain ⟨A', c', e, hc, hr⟩ := h
  injection e with e1 e2 e3
  subst e1 e2 e3
  refine ⟨A, c, rfl, hc, fun hp => ?_⟩
  obtain ⟨b, off, e1, hl, hx⟩ := hr hp
  have hb : w'.heap[b]? = w.heap[b]? := hk _ e1
  exact ⟨b, off, e1, by omega, fun j x hj => ⟨(World.cell?_of_block (w := w) (w' := w') (a := ⟨b, off + j * 2, none⟩) hb).trans (hx j x hj).1, (World.cell?_of_block (w := w) (w' := w') (a := ⟨b, off + j * 2 + 1, none⟩) hb).trans (hx j x hj).2⟩⟩

open Crc (Only)

/-- The world behind the store of a whole record, under a name of its own. -/
theorem store9 {w : World} {g : Nat} {r0 : Rec} {v0 : Value} (h : RBox w g r0 v0) (r : Rec) (v : Value) :
    ∃ w2, ((((((((w.setCell ⟨g, 0, none⟩ (.string (strB r.it.key))).setCell ⟨g, 1, none⟩ (.int .i64 r.it.seq)).setCell ⟨g, 2, none⟩ (.int .i64 r.it.ver)).setCell ⟨g, 3, none⟩ (.bool r.it.mark)).setCell ⟨g, 4, none⟩ (.string (strB r.it.mt))).setCell ⟨g, 5, none⟩ (.string (strB r.it.tag))).setCell ⟨g, 6, none⟩ (.string (strB r.it.body))).setCell ⟨g, 7, none⟩ (.int .i64 r.size)).setCell ⟨g, 8, none⟩ v = w2 ∧
      RBox w2 g r v ∧ Only g w w2 := by
  refine ⟨_, rfl, ?_, (((((((((Only.refl g w).setCell _ rfl _).setCell _ rfl _).setCell _ rfl _).setCell _ rfl _).setCell _ rfl _).setCell _ rfl _).setCell _ rfl _).setCell _ rfl _).setCell _ rfl _⟩
  have h9 := (((((((((h.setKey r.it.key).setSeq r.it.seq).setVer r.it.ver).setMark r.it.mark).setMt r.it.mt).setTag r.it.tag).setBody r.it.body).setSize r.size).setSpans r.spans v)
  exact h9

theorem Only.but {b g : Nat} {u v w : World} (h : But b u v) (k : Only g v w) (hg : u.heap.size ≤ g) : But b u w :=
  ⟨k.os.trans h.os, k.tape.trans h.tape, k.output.trans h.output, by rw [k.size]; exact h.size, fun i hi hb => (k.block i (by omega)).trans (h.block i hi hb)⟩

end Go.Proofs.Ytkfoppjogdphiaa
