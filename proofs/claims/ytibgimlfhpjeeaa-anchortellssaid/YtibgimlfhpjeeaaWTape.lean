/- A tape in memory, and its take: what each call does. No statement is proved here. -/
import Derived.Test.YtibgimlfhpjeeaaWWr
namespace Go.Proofs.Ytibgimlfhpjeeaa.Wire
open Go.RowKit

/-- Of what lay there nothing but block b has turned. -/
structure But (b : Nat) (w w' : World) : Prop where
  os : w'.os = w.os
  tape : w'.tape = w.tape
  output : w'.output = w.output
  size : w.heap.size ≤ w'.heap.size
  block : ∀ k, k < w.heap.size → k ≠ b → w'.heap[k]? = w.heap[k]?

section
variable {b B : Nat} {u v w w' : World}
theorem But.refl (b : Nat) (w : World) : But b w w := ⟨rfl, rfl, rfl, Nat.le_refl _, fun _ _ _ => rfl⟩
theorem But.trans (h : But b u v) (k : But b v w) : But b u w :=
  ⟨k.os.trans h.os, k.tape.trans h.tape, k.output.trans h.output, Nat.le_trans h.size k.size, fun i hi hb => (k.block i (Nat.lt_of_lt_of_le hi h.size) hb).trans (h.block i hi hb)⟩
theorem But.setCell (h : But b u v) (i : Nat) (x : Value) : But b u (v.setCell ⟨b, i, none⟩ x) :=
  h.trans ⟨rfl, rfl, rfl, by simp [World.setCell], fun k _ hk => Below.heap_setCell _ _ _ _ (by simpa using hk)⟩
theorem But.alloc (h : But b u v) (o : Obj) : But b u (v.alloc o) :=
  h.trans ⟨rfl, rfl, rfl, by simp, fun k hk _ => Below.heap_alloc v o k hk⟩
theorem But.drew (h : But b u v) : But b u v.drew := ⟨h.os, h.tape, h.output, h.size, h.block⟩
theorem But.of (b : Nat) (h : Below w.heap.size w w') : But b w w' := ⟨h.os, h.tape, h.output, h.size, fun k hk _ => h.block k hk⟩
theorem But.below (h : But b w w') (hB : B ≤ b) (hs : B ≤ w.heap.size) : Below B w w' := ⟨h.os, h.tape, h.output, h.size, fun k hk => h.block k (by omega) (by omega)⟩
end

/-- The tape t lies in block b. -/
def TP (ty : TypeId) (w : World) (b : Nat) (t : TK) : Prop := w.heap[b]? = some (.cells #[.string (strB t.rest), .bool t.bad] ty (0, 0))

section
variable {ty : TypeId} {w w' : World} {b : Nat} {t : TK}
theorem TP.rest (h : TP ty w b t) : w.cell? ⟨b, 0, none⟩ = some (.string (strB t.rest)) := by unfold TP at h; simp [World.cell?, h]
theorem TP.bad (h : TP ty w b t) : w.cell? ⟨b, 1, none⟩ = some (.bool t.bad) := by unfold TP at h; simp [World.cell?, h]
theorem TP.free (h : TP ty w b t) (i : Nat) : w.frozen? ⟨b, i, none⟩ = false := by unfold TP at h; simp [World.frozen?, h]
theorem TP.lt (h : TP ty w b t) : b < w.heap.size := (Array.getElem?_eq_some_iff.1 h).1
theorem TP.setBad (h : TP ty w b t) (x : Bool) : TP ty (w.setCell ⟨b, 1, none⟩ (.bool x)) b ⟨t.rest, x⟩ := by
  unfold TP at h
  exact heap_setCell_same w b 1 _ ty _ h
theorem TP.setRest (h : TP ty w b t) (l : List UInt8) : TP ty (w.setCell ⟨b, 0, none⟩ (.string (strB l))) b ⟨l, t.bad⟩ := by
  unfold TP at h
  exact heap_setCell_same w b 0 _ ty _ h
theorem TP.keep (h : TP ty w b t) (e : w'.heap[b]? = w.heap[b]?) : TP ty w' b t := Eq.trans e h
theorem TP.below (h : TP ty w b t) (hb : Below w.heap.size w w') : TP ty w' b t := h.keep (hb.block b h.lt)
theorem TP.but {c : Nat} (h : TP ty w b t) (hb : But c w w') (hc : b ≠ c) : TP ty w' b t := h.keep (hb.block b h.lt hc)
theorem TP.alloc (h : TP ty w b t) (o : Obj) : TP ty (w.alloc o) b t := h.keep (Below.heap_alloc w o b h.lt)
theorem TP.drew (h : TP ty w b t) : TP ty w.drew b t := h
theorem TP.new (ty : TypeId) (w : World) (l : List UInt8) (x : Bool) : TP ty (w.alloc (.cells #[.string (strB l), .bool x] ty)) w.heap.size ⟨l, x⟩ := heap_alloc_new w _
end

theorem drop_ext (l : List UInt8) (k : Nat) : (strB l).extract k (strB l).size = strB (l.drop k) := by
  rw [strB_extract, strB_size, List.take_length]
theorem take_ext (l : List UInt8) (k : Nat) : (strB l).extract 0 k = strB (l.take k) := by
  rw [strB_extract, List.drop_zero]

theorem ret_tup {a c : ByteArray} {x : Bool} (h : a = c) : Ending.returned (.tuple #[.string a, .bool x]) = .returned (.tuple #[.string c, .bool x]) := by rw [h]
theorem ret_take {a c : List UInt8} {x y : Bool} (h : a = c) (h2 : x = y) : Ending.returned (.tuple #[.string (strB a), .bool x]) = .returned (.tuple #[.string (strB c), .bool y]) := by rw [h, h2]

set_option maxHeartbeats 1000000 in
theorem take_bad (b : Nat) (k : Int) (l : List UInt8) (w : World) (ht : TP 47 w b ⟨l, true⟩) :
    Calls Try.prog 37 #[.pointer (some ⟨b, 0, none⟩), .int .i64 k] w fun e w' => e = .returned (.tuple #[.string (strB []), .bool false]) ∧ w = w' := by
  have c1 := ht.bad
  clear ht
  go_enter Try.func37, Try.ntmps37
  go_wp2_with fail
  go_ret2
  exact ⟨rfl, rfl⟩

set_option maxHeartbeats 1000000 in
theorem take_short (b k : Nat) (l : List UInt8) (w : World) (ht : TP 47 w b ⟨l, false⟩) (hk : l.length < k) :
    Calls Try.prog 37 #[.pointer (some ⟨b, 0, none⟩), .int .i64 k] w fun e w' => e = .returned (.tuple #[.string (strB []), .bool false]) ∧ w' = w.setCell ⟨b, 1, none⟩ (.bool true) := by
  have c0 := ht.rest
  have c1 := ht.bad
  have f1 := ht.free 1
  have g : ((strB l).size : Int) < k := by rw [strB_size]; omega
  clear ht hk
  go_enter Try.func37, Try.ntmps37
  go_wp2_with fail
  go_ret2
  exact ⟨rfl, rfl⟩

set_option maxHeartbeats 1000000 in
theorem take_good (b k : Nat) (l : List UInt8) (w : World) (ht : TP 47 w b ⟨l, false⟩) (hk : k ≤ l.length) :
    Calls Try.prog 37 #[.pointer (some ⟨b, 0, none⟩), .int .i64 k] w fun e w' => e = .returned (.tuple #[.string (strB (l.take k)), .bool true]) ∧ w' = w.setCell ⟨b, 0, none⟩ (.string (strB (l.drop k))) := by
  have c0 := ht.rest
  have c1 := ht.bad
  have f0 := ht.free 0
  have g : ¬ ((strB l).size : Int) < k := by rw [strB_size]; omega
  have g2 : k ≤ (strB l).size := by rw [strB_size]; omega
  have E1 := Lib.hid (take_ext l k)
  have E2 := Lib.hid (drop_ext l k)
  clear ht hk
  go_enter Try.func37, Try.ntmps37
  go_wp2_with fail
  go_ret2
  exact ⟨ret_tup E1.out, by rw [E2.out]⟩

theorem good_bad (k : Nat) (l : List UInt8) : good k ⟨l, true⟩ = false := rfl
theorem good_yes {k : Nat} {l : List UInt8} (h : k ≤ l.length) : good k ⟨l, false⟩ = true := by simp [good, h]
theorem good_no {k : Nat} {l : List UInt8} (h : l.length < k) : good k ⟨l, false⟩ = false := by simp [good, h]

theorem take_calls (b k : Nat) (t : TK) (w : World) (ht : TP 47 w b t) :
    Calls Try.prog 37 #[.pointer (some ⟨b, 0, none⟩), .int .i64 k] w fun e w' => e = .returned (.tuple #[.string (strB (takeV k t)), .bool (good k t)]) ∧ TP 47 w' b (takeS k t) ∧ But b w w' := by
  obtain ⟨l, bad⟩ := t
  cases bad with
  | true =>
    refine (take_bad b k l w ht).mono ?_
    rintro e w' ⟨rfl, rfl⟩
    exact ⟨rfl, ht, But.refl _ _⟩
  | false =>
    by_cases h : k ≤ l.length
    · refine (take_good b k l w ht h).mono ?_
      rintro e w' ⟨rfl, rfl⟩
      refine ⟨?_, ?_, (But.refl _ _).setCell _ _⟩
      · unfold takeV; rw [good_yes h]; rfl
      · unfold takeS; rw [good_yes h]; exact ht.setRest _
    · refine (take_short b k l w ht (by omega)).mono ?_
      rintro e w' ⟨rfl, rfl⟩
      refine ⟨?_, ?_, (But.refl _ _).setCell _ _⟩
      · unfold takeV; rw [good_no (by omega)]; rfl
      · unfold takeS; rw [good_no (by omega)]; exact ht.setBad _
end Go.Proofs.Ytibgimlfhpjeeaa.Wire
