/- Contracts and plain mathematics that the statement's proof wants: no statement is proved here, nothing is assumed. -/
import Derived.Test.YtgeiemccjionpaaGreatRows
import Derived.WalkKit
import Derived.Laws.BitsAllLaws
import Derived.Lib.Hide
import Derived.Laws.BytesArg
import Derived.Tactics
import Derived.Tactics2
import Derived.Defers
import Derived.Laws.Pointers
import Derived.Laws.LoneSync
import Derived.RegionTactic
import Derived.RegionCalls
import Derived.ChangeAlike
import Derived.Test.YtgeiemccjionpaaGreatMg00
/- Str -/
namespace Go.Proofs.YtgeiemccjionpaaGreat
open Go.RowKit

/-- Bytes as a string's. -/
def strB (l : List UInt8) : ByteArray := ⟨l.toArray⟩

theorem strB_size (l : List UInt8) : (strB l).size = l.length := by simp [strB, ByteArray.size]
theorem strB_data (l : List UInt8) : (strB l).data.toList = l := rfl
theorem strB_of (s : ByteArray) : strB s.data.toList = s := by cases s; rfl
theorem strB_toList (l : List UInt8) : (strB l).toList = l := by rw [ByteArray.toList_eq]; rfl
theorem len_data (s : ByteArray) : s.data.toList.length = s.size := by simp
theorem strB_append (l m : List UInt8) : strB l ++ strB m = strB (l ++ m) := by
  apply ByteArray.ext
  simp [strB]
theorem strB_extract (l : List UInt8) (a b : Nat) : (strB l).extract a b = strB ((l.take b).drop a) := by
  apply ByteArray.ext
  apply Array.toList_inj.1
  simp [strB, List.extract_eq_take_drop, List.drop_take]

theorem ret_bool {a b : Bool} (h : a = b) : Ending.returned (.bool a) = .returned (.bool b) := by rw [h]
theorem ret_str {a b : ByteArray} (h : a = b) : Ending.returned (.string a) = .returned (.string b) := by rw [h]
theorem ret_int {k : IntKind} {a b : Int} (h : a = b) : Ending.returned (.int k a) = .returned (.int k b) := by rw [h]
theorem below_two {a b c : World} (h : Below a.heap.size a b) (k : Below b.heap.size b c) : Below a.heap.size a c := h.trans (k.mono h.size)
theorem below_trans' {a b c : World} (h : Below a.heap.size a b) (k : Below b.heap.size b c) : Below a.heap.size a c := h.trans (k.mono h.size)
theorem below_one (w : World) (a : Obj) : Below w.heap.size w (w.alloc a) := (Below.refl _ _).alloc (Nat.le_refl _) _
theorem bdrew {B : Nat} {a w : World} (h : Below B a w) : Below B a w.drew := ⟨h.os, h.tape, h.output, h.size, h.block⟩
end Go.Proofs.YtgeiemccjionpaaGreat

/- WPlain -/
namespace Go.Proofs.YtgeiemccjionpaaGreat.Wire
open Go.RowKit

/-- A number's lowest byte. -/
def b8 (n : Int) : UInt8 := UInt8.ofNat (n % 256).toNat
def twoL (n : Int) : List UInt8 := [b8 (n / 256), b8 n]
def fourL (n : Int) : List UInt8 := twoL (n / 65536) ++ twoL n
def textL (l : List UInt8) : List UInt8 := twoL (min l.length 65535 : Nat) ++ l.take 65535

theorem twoL_len (n : Int) : (twoL n).length = 2 := rfl
theorem fourL_len (n : Int) : (fourL n).length = 4 := rfl
theorem textL_len (l : List UInt8) : (textL l).length = min l.length 65535 + 2 := by
  simp only [textL, List.length_append, twoL_len, List.length_take]; omega

theorem b8_toNat (n : Int) : (b8 n).toNat = (n % 256).toNat := by
  unfold b8
  rw [UInt8.toNat_ofNat']
  omega

/-- The number of so many bytes. -/
def numL (l : List UInt8) : Nat := l.foldl (fun n b => n * 256 + b.toNat) 0

theorem numL_two (a b : UInt8) : numL [a, b] = a.toNat * 256 + b.toNat := by simp [numL]
theorem numL_four (a b c d : UInt8) : numL [a, b, c, d] = ((a.toNat * 256 + b.toNat) * 256 + c.toNat) * 256 + d.toNat := by simp [numL]
theorem numL_snoc (l : List UInt8) (b : UInt8) : numL (l ++ [b]) = numL l * 256 + b.toNat := by simp [numL]
theorem numL_lt (l : List UInt8) : numL l < 256 ^ l.length := by
  suffices ∀ n, l.foldl (fun n b => n * 256 + b.toNat) n < (n + 1) * 256 ^ l.length by simpa [numL] using this 0
  induction l with
  | nil => intro n; simp
  | cons a l ih =>
    intro n
    have h := ih (n * 256 + a.toNat)
    have ha := a.toNat_lt
    simp only [List.foldl_cons, List.length_cons]
    refine Nat.lt_of_lt_of_le h ?_
    rw [Nat.pow_succ, Nat.mul_comm (256 ^ l.length) 256, ← Nat.mul_assoc]
    exact Nat.mul_le_mul_right _ (by omega)

theorem numL_twoL (n : Int) : (numL (twoL n) : Int) = n % 65536 := by
  unfold twoL
  rw [numL_two, b8_toNat, b8_toNat]
  omega
theorem numL_fourL (n : Int) : (numL (fourL n) : Int) = n % 4294967296 := by
  show (numL [b8 (n / 65536 / 256), b8 (n / 65536), b8 (n / 256), b8 n] : Int) = _
  rw [numL_four, b8_toNat, b8_toNat, b8_toNat, b8_toNat]
  omega

/-- A tape: what is left, and whether something went wrong. -/
structure TK where
  rest : List UInt8
  bad : Bool

def good (k : Nat) (t : TK) : Bool := !t.bad && decide (k ≤ t.rest.length)
def takeS (k : Nat) (t : TK) : TK := if good k t then ⟨t.rest.drop k, false⟩ else ⟨t.rest, true⟩
def takeV (k : Nat) (t : TK) : List UInt8 := if good k t then t.rest.take k else []
def inside (k : Nat) (low high : Int) (t : TK) : Bool := good k t && (decide (low ≤ (numL (t.rest.take k) : Int)) && decide ((numL (t.rest.take k) : Int) ≤ high))
def numV (k : Nat) (low high : Int) (t : TK) : Nat := if inside k low high t then numL (t.rest.take k) else 0
def numS (k : Nat) (low high : Int) (t : TK) : TK := if good k t then ⟨t.rest.drop k, !inside k low high t⟩ else ⟨t.rest, true⟩
def txtV (most : Int) (t : TK) : List UInt8 := if inside 2 0 most t then takeV (numV 2 0 most t) (numS 2 0 most t) else []
def txtS (most : Int) (t : TK) : TK := if inside 2 0 most t then takeS (numV 2 0 most t) (numS 2 0 most t) else numS 2 0 most t
def markS (m : List UInt8) (t : TK) : TK := if good m.length t then ⟨t.rest.drop m.length, !(t.rest.take m.length == m)⟩ else ⟨t.rest, true⟩
def doneV (t : TK) : Bool := !t.bad && (t.rest == [])

theorem numV_lt (k : Nat) (low high : Int) (t : TK) : numV k low high t < 256 ^ k := by
  unfold numV
  split
  · refine Nat.lt_of_lt_of_le (numL_lt _) (Nat.pow_le_pow_right (by omega) (by simp; omega))
  · exact Nat.pow_pos (by omega)

end Go.Proofs.YtgeiemccjionpaaGreat.Wire

/- WWr -/
namespace Go.Proofs.YtgeiemccjionpaaGreat.Wire
open Go.RowKit

theorem nums_two (n : Int) : strOfNums [n / 256 % 256, n % 256] = strB (twoL n) := by
  unfold strOfNums strB twoL b8
  simp only [List.map_cons, List.map_nil]

theorem conv2 (n : Int) (w1 : World) :
    Sem.run Tryz.prog (convert 70 9 (.slice (some ⟨w1.heap.size, 0, none⟩) 2 2)) (w1.alloc (.cells #[.int .u8 (n / 256 % 256), .int .u8 (n % 256)] 5)) =
      .ok (.string (strB (twoL n))) (w1.alloc (.cells #[.int .u8 (n / 256 % 256), .int .u8 (n % 256)] 5)) := by
  rw [← nums_two n]
  refine run_convert_bytes_arg _ 70 5 Tryz.underlying70 Tryz.underlying5 w1.heap.size 0 2 2 _ rfl ?_ 9 Tryz.underlying9
  intro i hi
  rw [cell_of_row _ _ _ _ _ _ (heap_alloc_new w1 _)]
  have : i = 0 ∨ i = 1 := by omega
  rcases this with rfl | rfl <;> rfl

set_option maxRecDepth 100000 in
set_option maxHeartbeats 1000000 in
theorem two_calls (n : Int) (w : World) :
    Calls Tryz.prog 66 #[.int .i64 n] w fun e w' => e = .returned (.string (strB (twoL n))) ∧ Below w.heap.size w w' := by
  have hcv := conv2 n
  go_enter Tryz.func66, Tryz.ntmps66
  go_wp2_with fail
  go_ret
  exact ⟨rfl, (Below.refl _ _).alloc (Nat.le_refl _) _⟩

theorem two_two (n : Int) : strB (twoL (n / 65536)) ++ strB (twoL n) = strB (fourL n) := strB_append _ _

theorem text_is_short (l : List UInt8) (h : l.length ≤ 65535) : strB (twoL (l.length : Nat)) ++ strB l = strB (textL l) := by
  rw [strB_append]
  unfold textL
  rw [List.take_of_length_le h, show min l.length 65535 = l.length by omega]

theorem text_is_long (l : List UInt8) (h : 65535 < l.length) : strB (twoL (65535 : Nat)) ++ (strB l).extract 0 65535 = strB (textL l) := by
  rw [strB_extract, strB_append]
  unfold textL
  rw [show min l.length 65535 = 65535 by omega]
  rfl

end Go.Proofs.YtgeiemccjionpaaGreat.Wire

/- WTape -/
namespace Go.Proofs.YtgeiemccjionpaaGreat.Wire
open Go.RowKit

/-- Of what lay there nothing but block b has turned. -/
structure But (b : Nat) (w w' : World) : Prop where
  os : w'.os = w.os
  tape : w'.tape = w.tape
  output : w'.output = w.output
  size : w.heap.size ≤ w'.heap.size
  block : ∀ k, k < w.heap.size → k ≠ b → w'.heap[k]? = w.heap[k]?

section
variable {b B : Nat} {u v w w' : World}
theorem But.refl (b : Nat) (w : World) : But b w w := ⟨rfl, rfl, rfl, Nat.le_refl _, fun _ _ _ => rfl⟩
theorem But.trans (h : But b u v) (k : But b v w) : But b u w :=
  ⟨k.os.trans h.os, k.tape.trans h.tape, k.output.trans h.output, Nat.le_trans h.size k.size, fun i hi hb => (k.block i (Nat.lt_of_lt_of_le hi h.size) hb).trans (h.block i hi hb)⟩
theorem But.setCell (h : But b u v) (i : Nat) (x : Value) : But b u (v.setCell ⟨b, i, none⟩ x) :=
  h.trans ⟨rfl, rfl, rfl, by simp [World.setCell], fun k _ hk => Below.heap_setCell _ _ _ _ (by simpa using hk)⟩
theorem But.alloc (h : But b u v) (o : Obj) : But b u (v.alloc o) :=
  h.trans ⟨rfl, rfl, rfl, by simp, fun k hk _ => Below.heap_alloc v o k hk⟩
theorem But.drew (h : But b u v) : But b u v.drew := ⟨h.os, h.tape, h.output, h.size, h.block⟩
theorem But.of (b : Nat) (h : Below w.heap.size w w') : But b w w' := ⟨h.os, h.tape, h.output, h.size, fun k hk _ => h.block k hk⟩
theorem But.below (h : But b w w') (hB : B ≤ b) (hs : B ≤ w.heap.size) : Below B w w' := ⟨h.os, h.tape, h.output, h.size, fun k hk => h.block k (by omega) (by omega)⟩
end

/-- The tape t lies in block b. -/
def TP (ty : TypeId) (w : World) (b : Nat) (t : TK) : Prop := w.heap[b]? = some (.cells #[.string (strB t.rest), .bool t.bad] ty (0, 0))

section
variable {ty : TypeId} {w w' : World} {b : Nat} {t : TK}
theorem TP.rest (h : TP ty w b t) : w.cell? ⟨b, 0, none⟩ = some (.string (strB t.rest)) := by unfold TP at h; simp [World.cell?, h]
theorem TP.bad (h : TP ty w b t) : w.cell? ⟨b, 1, none⟩ = some (.bool t.bad) := by unfold TP at h; simp [World.cell?, h]
theorem TP.free (h : TP ty w b t) (i : Nat) : w.frozen? ⟨b, i, none⟩ = false := by unfold TP at h; simp [World.frozen?, h]
theorem TP.lt (h : TP ty w b t) : b < w.heap.size := (Array.getElem?_eq_some_iff.1 h).1
theorem TP.setBad (h : TP ty w b t) (x : Bool) : TP ty (w.setCell ⟨b, 1, none⟩ (.bool x)) b ⟨t.rest, x⟩ := by
  unfold TP at h
  exact heap_setCell_same w b 1 _ ty _ h
theorem TP.setRest (h : TP ty w b t) (l : List UInt8) : TP ty (w.setCell ⟨b, 0, none⟩ (.string (strB l))) b ⟨l, t.bad⟩ := by
  unfold TP at h
  exact heap_setCell_same w b 0 _ ty _ h
theorem TP.keep (h : TP ty w b t) (e : w'.heap[b]? = w.heap[b]?) : TP ty w' b t := Eq.trans e h
theorem TP.below (h : TP ty w b t) (hb : Below w.heap.size w w') : TP ty w' b t := h.keep (hb.block b h.lt)
theorem TP.but {c : Nat} (h : TP ty w b t) (hb : But c w w') (hc : b ≠ c) : TP ty w' b t := h.keep (hb.block b h.lt hc)
theorem TP.alloc (h : TP ty w b t) (o : Obj) : TP ty (w.alloc o) b t := h.keep (Below.heap_alloc w o b h.lt)
theorem TP.drew (h : TP ty w b t) : TP ty w.drew b t := h
theorem TP.new (ty : TypeId) (w : World) (l : List UInt8) (x : Bool) : TP ty (w.alloc (.cells #[.string (strB l), .bool x] ty)) w.heap.size ⟨l, x⟩ := heap_alloc_new w _
end

theorem drop_ext (l : List UInt8) (k : Nat) : (strB l).extract k (strB l).size = strB (l.drop k) := by
  rw [strB_extract, strB_size, List.take_length]
theorem take_ext (l : List UInt8) (k : Nat) : (strB l).extract 0 k = strB (l.take k) := by
  rw [strB_extract, List.drop_zero]

theorem ret_tup {a c : ByteArray} {x : Bool} (h : a = c) : Ending.returned (.tuple #[.string a, .bool x]) = .returned (.tuple #[.string c, .bool x]) := by rw [h]
theorem ret_take {a c : List UInt8} {x y : Bool} (h : a = c) (h2 : x = y) : Ending.returned (.tuple #[.string (strB a), .bool x]) = .returned (.tuple #[.string (strB c), .bool y]) := by rw [h, h2]

set_option maxRecDepth 100000 in
set_option maxHeartbeats 1000000 in
theorem take_bad (b : Nat) (k : Int) (l : List UInt8) (w : World) (ht : TP 118 w b ⟨l, true⟩) :
    Calls Tryz.prog 94 #[.pointer (some ⟨b, 0, none⟩), .int .i64 k] w fun e w' => e = .returned (.tuple #[.string (strB []), .bool false]) ∧ w = w' := by
  have c1 := ht.bad
  clear ht
  go_enter Tryz.func94, Tryz.ntmps94
  go_wp2_with fail
  go_ret2
  exact ⟨rfl, rfl⟩

set_option maxRecDepth 100000 in
set_option maxHeartbeats 1000000 in
theorem take_short (b k : Nat) (l : List UInt8) (w : World) (ht : TP 118 w b ⟨l, false⟩) (hk : l.length < k) :
    Calls Tryz.prog 94 #[.pointer (some ⟨b, 0, none⟩), .int .i64 k] w fun e w' => e = .returned (.tuple #[.string (strB []), .bool false]) ∧ w' = w.setCell ⟨b, 1, none⟩ (.bool true) := by
  have c0 := ht.rest
  have c1 := ht.bad
  have f1 := ht.free 1
  have g : ((strB l).size : Int) < k := by rw [strB_size]; omega
  clear ht hk
  go_enter Tryz.func94, Tryz.ntmps94
  go_wp2_with fail
  go_ret2
  exact ⟨rfl, rfl⟩

set_option maxRecDepth 100000 in
set_option maxHeartbeats 1000000 in
theorem take_good (b k : Nat) (l : List UInt8) (w : World) (ht : TP 118 w b ⟨l, false⟩) (hk : k ≤ l.length) :
    Calls Tryz.prog 94 #[.pointer (some ⟨b, 0, none⟩), .int .i64 k] w fun e w' => e = .returned (.tuple #[.string (strB (l.take k)), .bool true]) ∧ w' = w.setCell ⟨b, 0, none⟩ (.string (strB (l.drop k))) := by
  have c0 := ht.rest
  have c1 := ht.bad
  have f0 := ht.free 0
  have g : ¬ ((strB l).size : Int) < k := by rw [strB_size]; omega
  have g2 : k ≤ (strB l).size := by rw [strB_size]; omega
  have E1 := Lib.hid (take_ext l k)
  have E2 := Lib.hid (drop_ext l k)
  clear ht hk
  go_enter Tryz.func94, Tryz.ntmps94
  go_wp2_with fail
  go_ret2
  exact ⟨ret_tup E1.out, by rw [E2.out]⟩

theorem good_bad (k : Nat) (l : List UInt8) : good k ⟨l, true⟩ = false := rfl
theorem good_yes {k : Nat} {l : List UInt8} (h : k ≤ l.length) : good k ⟨l, false⟩ = true := by simp [good, h]
theorem good_no {k : Nat} {l : List UInt8} (h : l.length < k) : good k ⟨l, false⟩ = false := by simp [good, h]

theorem take_calls (b k : Nat) (t : TK) (w : World) (ht : TP 118 w b t) :
    Calls Tryz.prog 94 #[.pointer (some ⟨b, 0, none⟩), .int .i64 k] w fun e w' => e = .returned (.tuple #[.string (strB (takeV k t)), .bool (good k t)]) ∧ TP 118 w' b (takeS k t) ∧ But b w w' := by
  obtain ⟨l, bad⟩ := t
  cases bad with
  | true =>
    refine (take_bad b k l w ht).mono ?_
    rintro e w' ⟨rfl, rfl⟩
    exact ⟨rfl, ht, But.refl _ _⟩
  | false =>
    by_cases h : k ≤ l.length
    · refine (take_good b k l w ht h).mono ?_
      rintro e w' ⟨rfl, rfl⟩
      refine ⟨?_, ?_, (But.refl _ _).setCell _ _⟩
      · unfold takeV; rw [good_yes h]; rfl
      · unfold takeS; rw [good_yes h]; exact ht.setRest _
    · refine (take_short b k l w ht (by omega)).mono ?_
      rintro e w' ⟨rfl, rfl⟩
      refine ⟨?_, ?_, (But.refl _ _).setCell _ _⟩
      · unfold takeV; rw [good_no (by omega)]; rfl
      · unfold takeS; rw [good_no (by omega)]; exact ht.setBad _
end Go.Proofs.YtgeiemccjionpaaGreat.Wire

/- WNumber -/
namespace Go.Proofs.YtgeiemccjionpaaGreat.Wire
open Go.RowKit

theorem i64_or_nat (a b : Nat) (ha : a < 9223372036854775808) (hb : b < 9223372036854775808) : bits .or .i64 (a : Int) (b : Int) = ((a ||| b : Nat) : Int) := by
  have hx : a ||| b < 2 ^ 63 := Nat.or_lt_two_pow (by omega) (by omega)
  show IntKind.i64.wrap ((BitVec.ofInt 64 (a : Int) ||| BitVec.ofInt 64 (b : Int)).toNat : Int) = _
  rw [BitVec.toNat_or, ofInt_u64 a (by omega), ofInt_u64 b (by omega)]
  simp [IntKind.wrap, IntKind.bits, IntKind.signed]
  omega

theorem or_byte (x : Nat) (c : UInt8) (h : x < 16777216) : bits .or .i64 ((x : Int) * 256) (c.toNat : Int) = ((x * 256 + c.toNat : Nat) : Int) := by
  have hc := c.toNat_lt
  have h1 := i64_or_nat (x * 256) c.toNat (by omega) (by omega)
  have h2 : x * 256 ||| c.toNat = x * 256 + c.toNat := by
    have := Nat.two_pow_add_eq_or_of_lt (i := 8) (b := c.toNat) (by omega) x
    simp only [Nat.reducePow] at this
    rw [Nat.mul_comm, this]
  rw [h2] at h1
  rw [← h1]
  simp

theorem numL_step (s : List UInt8) (j : Nat) (h : j < s.length) : numL (s.take (j + 1)) = numL (s.take j) * 256 + s[j].toNat := by
  rw [List.take_succ_eq_append_getElem h, numL_snoc]

theorem numL_small (s : List UInt8) (j : Nat) (h : j < 4) : numL (s.take j) < 16777216 := by
  have h1 := numL_lt (s.take j)
  have h2 : 256 ^ (s.take j).length ≤ 256 ^ 3 := Nat.pow_le_pow_right (by omega) (by simp; omega)
  omega

theorem ret_num {x y : Nat} {p q : Bool} (h : y = x) (h2 : p = q) : Ending.returned (.tuple #[.int .i64 (x : Nat), .bool p]) = .returned (.tuple #[.int .i64 (y : Nat), .bool q]) := by rw [h, h2]

set_option maxRecDepth 100000 in
set_option maxHeartbeats 1000000 in
theorem number_no (b k : Nat) (low high : Int) (t : TK) (w : World) (ht : TP 118 w b t) (hg : good k t = false) :
    Calls Tryz.prog 93 #[.pointer (some ⟨b, 0, none⟩), .int .i64 k, .int .i64 low, .int .i64 high] w fun e w' => e = .returned (.tuple #[.int .i64 0, .bool false]) ∧ TP 118 w' b (takeS k t) ∧ But b w w' := by
  go_enter Tryz.func93, Tryz.ntmps93
  go_wp2_with fail
  (with_reducible refine (take_calls b k t _ ht).mono ?_)
  rintro e w1 ⟨rfl, hT, hB⟩
  have HT := Lib.hid hT
  clear ht hT
  go_wp2_with fail
  go_ret2
  exact ⟨rfl, HT.out, hB⟩

set_option maxRecDepth 100000 in
set_option maxHeartbeats 1600000 in
theorem number_yes (b k : Nat) (low high : Int) (l : List UInt8) (w : World) (ht : TP 118 w b ⟨l, false⟩) (hk : k ≤ l.length) (hk4 : k ≤ 4) :
    Calls Tryz.prog 93 #[.pointer (some ⟨b, 0, none⟩), .int .i64 k, .int .i64 low, .int .i64 high] w fun e w' => e = .returned (.tuple #[.int .i64 (numV k low high ⟨l, false⟩ : Nat), .bool (inside k low high ⟨l, false⟩)]) ∧ TP 118 w' b (numS k low high ⟨l, false⟩) ∧ But b w w' := by
  go_enter Tryz.func93, Tryz.ntmps93
  go_wp2_with fail
  (with_reducible refine (take_good b k l _ ht hk).mono ?_)
  rintro e w1 ⟨rfl, hw1⟩
  have HT : Hid (TP 118 w1 b ⟨l.drop k, false⟩) := by rw [hw1]; exact ht.setRest _
  have HB : Hid (But b w w1) := by rw [hw1]; exact (But.refl _ _).setCell _ _
  have hfr := HT.out.free 1
  have hcb := HT.out.bad
  have hlen : (strB (l.take k)).size = k := by rw [strB_size, List.length_take]; omega
  have HL : Hid ((l.take k).length = k) := by show (l.take k).length = k; rw [List.length_take]; omega
  have HV : Hid (∀ x, x = inside k low high ⟨l, false⟩ → numS k low high ⟨l, false⟩ = ⟨l.drop k, !x⟩) := by
    rintro x rfl
    unfold numS
    rw [good_yes hk, if_pos rfl]
  have HI : Hid (inside k low high ⟨l, false⟩ = (decide (low ≤ (numL (l.take k) : Int)) && decide ((numL (l.take k) : Int) ≤ high))) := by
    show inside k low high ⟨l, false⟩ = _
    unfold inside
    rw [good_yes hk, Bool.true_and]
  have HN : Hid (numV k low high ⟨l, false⟩ = if inside k low high ⟨l, false⟩ then numL (l.take k) else 0) := rfl
  clear ht hk hw1
  generalize l.take k = s at *
  go_wp2_with fail
  go_loop [12, 24] (fun n i => ∃ j : Nat, j ≤ k ∧ i = .int .i64 j ∧ n = .int .i64 (numL (s.take j) : Nat)) (fun _ i => k - (intOf i).toNat)
  case atStart => exact ⟨0, Nat.zero_le _, rfl, rfl⟩
  case round =>
    obtain ⟨j, hj, rfl, rfl⟩ := hrel
    by_cases h : j < k
    · have hjs : j < s.length := by rw [HL.out]; exact h
      have HS := Lib.hid (numL_step s j hjs)
      have hsm := numL_small s j (by omega)
      have hor := or_byte (numL (s.take j)) s[j] hsm
      have hc : s[j].toNat < 256 := s[j].toNat_lt
      have hat : ∀ h', (strB s)[j]'h' = s[j] := fun _ => rfl
      generalize numL (s.take j) = x at *
      go_wp2_with fail
      go_round
      case rel => exact ⟨j + 1, by omega, by go_num, by rw [HS.out]; exact congrArg (Value.int .i64) hor⟩
      case measure => simp [intOf]; omega
    · obtain rfl : j = k := by omega
      have HE : Hid (s.take j = s) := List.take_of_length_le (by rw [HL.out]; exact Nat.le_refl _)
      rw [HE.out]
      generalize numL s = x at *
      by_cases h1 : (x : Int) < low
      · have hi : inside j low high ⟨l, false⟩ = false := by rw [HI.out, decide_eq_false (by omega), Bool.false_and]
        go_wp2_with fail
        go_ret2
        exact ⟨ret_num (by rw [HN.out, hi]; rfl) rfl, by rw [HV.out false hi.symm]; exact HT.out.setBad _, HB.out.setCell _ _⟩
      · by_cases h2 : high < (x : Int)
        · have hi : inside j low high ⟨l, false⟩ = false := by rw [HI.out, decide_eq_false (p := (x : Int) ≤ high) (by omega), Bool.and_false]
          go_wp2_with fail
          go_ret2
          exact ⟨ret_num (by rw [HN.out, hi]; rfl) rfl, by rw [HV.out false hi.symm]; exact HT.out.setBad _, HB.out.setCell _ _⟩
        · have hi : inside j low high ⟨l, false⟩ = true := by rw [HI.out, decide_eq_true (by omega), decide_eq_true (by omega)]; rfl
          go_wp2_with fail
          go_ret2
          exact ⟨ret_num (by rw [HN.out, hi]; rfl) rfl, by rw [HV.out true hi.symm]; exact HT.out, HB.out⟩

theorem number_calls (b k : Nat) (low high : Int) (t : TK) (w : World) (ht : TP 118 w b t) (hk4 : k ≤ 4) :
    Calls Tryz.prog 93 #[.pointer (some ⟨b, 0, none⟩), .int .i64 k, .int .i64 low, .int .i64 high] w fun e w' => e = .returned (.tuple #[.int .i64 (numV k low high t : Nat), .bool (inside k low high t)]) ∧ TP 118 w' b (numS k low high t) ∧ But b w w' := by
  cases hg : good k t with
  | false =>
    refine (number_no b k low high t w ht hg).mono ?_
    rintro e w' ⟨rfl, hT, hB⟩
    have hi : inside k low high t = false := by unfold inside; rw [hg]; rfl
    refine ⟨?_, ?_, hB⟩
    · unfold numV; rw [hi]; rfl
    · unfold numS; unfold takeS at hT; rw [hg] at hT ⊢; exact hT
  | true =>
    obtain ⟨l, bad⟩ := t
    cases bad with
    | true => cases hg
    | false => exact number_yes b k low high l w ht (by simpa [good] using hg) hk4

theorem number2 (b : Nat) (low high : Int) (t : TK) (w : World) (ht : TP 118 w b t) :
    Calls Tryz.prog 93 #[.pointer (some ⟨b, 0, none⟩), .int .i64 2, .int .i64 low, .int .i64 high] w fun e w' => e = .returned (.tuple #[.int .i64 (numV 2 low high t : Nat), .bool (inside 2 low high t)]) ∧ TP 118 w' b (numS 2 low high t) ∧ But b w w' :=
  number_calls b 2 low high t w ht (by omega)
theorem number4 (b : Nat) (low high : Int) (t : TK) (w : World) (ht : TP 118 w b t) :
    Calls Tryz.prog 93 #[.pointer (some ⟨b, 0, none⟩), .int .i64 4, .int .i64 low, .int .i64 high] w fun e w' => e = .returned (.tuple #[.int .i64 (numV 4 low high t : Nat), .bool (inside 4 low high t)]) ∧ TP 118 w' b (numS 4 low high t) ∧ But b w w' :=
  number_calls b 4 low high t w ht (by omega)

set_option maxRecDepth 100000 in
set_option maxHeartbeats 1000000 in
theorem ttwo_calls (b : Nat) (low high : Int) (t : TK) (w : World) (ht : TP 118 w b t) :
    Calls Tryz.prog 70 #[.pointer (some ⟨b, 0, none⟩), .int .i64 low, .int .i64 high] w fun e w' => e = .returned (.int .i64 (numV 2 low high t : Nat)) ∧ TP 118 w' b (numS 2 low high t) ∧ But b w w' := by
  go_enter Tryz.func70, Tryz.ntmps70
  go_wp2_with fail
  (with_reducible refine (number2 b low high t _ ht).mono ?_)
  rintro e w1 ⟨rfl, hT, hB⟩
  have HT := Lib.hid hT
  have HB := Lib.hid hB
  clear ht hT hB
  go_wp2_with fail
  go_ret
  exact ⟨rfl, HT.out, HB.out⟩

end Go.Proofs.YtgeiemccjionpaaGreat.Wire

/- WMark -/
namespace Go.Proofs.YtgeiemccjionpaaGreat.Wire
open Go.RowKit

theorem take_len (b : Nat) (m : List UInt8) (t : TK) (w : World) (ht : TP 118 w b t) :
    Calls Tryz.prog 94 #[.pointer (some ⟨b, 0, none⟩), .int .i64 ((strB m).size : Nat)] w fun e w' => e = .returned (.tuple #[.string (strB (takeV m.length t)), .bool (good m.length t)]) ∧ TP 118 w' b (takeS m.length t) ∧ But b w w' := by
  rw [strB_size]
  exact take_calls b m.length t w ht

set_option maxRecDepth 100000 in
set_option maxHeartbeats 1000000 in
theorem mark_no (b : Nat) (m : List UInt8) (t : TK) (w : World) (ht : TP 118 w b t) (hg : good m.length t = false) :
    Calls Tryz.prog 85 #[.pointer (some ⟨b, 0, none⟩), .string (strB m)] w fun e w' => e = .returned (.tuple #[]) ∧ TP 118 w' b (takeS m.length t) ∧ But b w w' := by
  go_enter Tryz.func85, Tryz.ntmps85
  go_wp2_with fail
  (with_reducible refine (take_len b m t _ ht).mono ?_)
  rintro e w1 ⟨rfl, hT, hB⟩
  have HT := Lib.hid hT
  have HB := Lib.hid hB
  clear ht hT hB
  go_wp2_with fail
  go_end0
  exact ⟨rfl, HT.out, HB.out⟩

set_option maxRecDepth 100000 in
set_option maxHeartbeats 1000000 in
theorem mark_yes (b : Nat) (m : List UInt8) (t : TK) (w : World) (ht : TP 118 w b t) (hg : good m.length t = true) (he : (strB (takeV m.length t)).toList == (strB m).toList) :
    Calls Tryz.prog 85 #[.pointer (some ⟨b, 0, none⟩), .string (strB m)] w fun e w' => e = .returned (.tuple #[]) ∧ TP 118 w' b (takeS m.length t) ∧ But b w w' := by
  go_enter Tryz.func85, Tryz.ntmps85
  go_wp2_with fail
  (with_reducible refine (take_len b m t _ ht).mono ?_)
  rintro e w1 ⟨rfl, hT, hB⟩
  have HT := Lib.hid hT
  have HB := Lib.hid hB
  clear ht hT hB
  go_wp2_with fail
  go_end0
  exact ⟨rfl, HT.out, HB.out⟩

set_option maxRecDepth 100000 in
set_option maxHeartbeats 1000000 in
theorem mark_other (b : Nat) (m : List UInt8) (t : TK) (w : World) (ht : TP 118 w b t) (hg : good m.length t = true) (he : ((strB (takeV m.length t)).toList == (strB m).toList) = false) :
    Calls Tryz.prog 85 #[.pointer (some ⟨b, 0, none⟩), .string (strB m)] w fun e w' => e = .returned (.tuple #[]) ∧ TP 118 w' b ⟨(takeS m.length t).rest, true⟩ ∧ But b w w' := by
  go_enter Tryz.func85, Tryz.ntmps85
  go_wp2_with fail
  (with_reducible refine (take_len b m t _ ht).mono ?_)
  rintro e w1 ⟨rfl, hT, hB⟩
  have c1 := hT.bad
  have f1 := hT.free 1
  have HT := Lib.hid hT
  have HB := Lib.hid hB
  clear ht hT hB
  go_wp2_with fail
  go_end0
  exact ⟨rfl, HT.out.setBad _, HB.out.setCell _ _⟩

theorem mark_calls (b : Nat) (m : List UInt8) (t : TK) (w : World) (ht : TP 118 w b t) :
    Calls Tryz.prog 85 #[.pointer (some ⟨b, 0, none⟩), .string (strB m)] w fun e w' => e = .returned (.tuple #[]) ∧ TP 118 w' b (markS m t) ∧ But b w w' := by
  cases hg : good m.length t with
  | false =>
    have e : markS m t = takeS m.length t := by unfold markS takeS; rw [hg]; rfl
    rw [e]
    exact mark_no b m t w ht hg
  | true =>
    have e1 : takeV m.length t = t.rest.take m.length := by unfold takeV; rw [hg]; rfl
    have e2 : takeS m.length t = ⟨t.rest.drop m.length, false⟩ := by unfold takeS; rw [hg]; rfl
    have e3 : markS m t = ⟨t.rest.drop m.length, !(t.rest.take m.length == m)⟩ := by unfold markS; rw [hg]; rfl
    cases he : (t.rest.take m.length == m) with
    | true =>
      have h := mark_yes b m t w ht hg (by rw [e1, strB_toList, strB_toList]; exact he)
      rw [e2] at h
      rw [e3, he]
      exact h
    | false =>
      have h := mark_other b m t w ht hg (by rw [e1, strB_toList, strB_toList]; exact he)
      rw [e2] at h
      rw [e3, he]
      exact h

end Go.Proofs.YtgeiemccjionpaaGreat.Wire

/- WBack -/
namespace Go.Proofs.YtgeiemccjionpaaGreat.Wire
open Go.RowKit

theorem take_app (a r : List UInt8) (k : Nat) (h : a.length = k) : (a ++ r).take k = a := by subst h; exact List.take_left
theorem drop_app (a r : List UInt8) (k : Nat) (h : a.length = k) : (a ++ r).drop k = r := by subst h; exact List.drop_left
theorem good_app (a r : List UInt8) (k : Nat) (h : a.length = k) : good k ⟨a ++ r, false⟩ = true := good_yes (by simp; omega)

theorem inside_app (a r : List UInt8) (k : Nat) (low high : Int) (h : a.length = k) : inside k low high ⟨a ++ r, false⟩ = (decide (low ≤ (numL a : Int)) && decide ((numL a : Int) ≤ high)) := by
  unfold inside
  rw [good_app a r k h, Bool.true_and]
  show (decide (low ≤ (numL ((a ++ r).take k) : Int)) && _) = _
  rw [take_app a r k h]

theorem numV_app (a r : List UInt8) (k : Nat) (low high : Int) (h : a.length = k) (h1 : low ≤ (numL a : Int)) (h2 : (numL a : Int) ≤ high) : numV k low high ⟨a ++ r, false⟩ = numL a := by
  unfold numV
  rw [inside_app a r k low high h, decide_eq_true h1, decide_eq_true h2]
  show numL ((a ++ r).take k) = _
  rw [take_app a r k h]
theorem numS_app (a r : List UInt8) (k : Nat) (low high : Int) (h : a.length = k) (h1 : low ≤ (numL a : Int)) (h2 : (numL a : Int) ≤ high) : numS k low high ⟨a ++ r, false⟩ = ⟨r, false⟩ := by
  unfold numS
  rw [inside_app a r k low high h, decide_eq_true h1, decide_eq_true h2, good_app a r k h]
  show TK.mk ((a ++ r).drop k) false = _
  rw [drop_app a r k h]

theorem num_two (n : Nat) (h : n < 65536) : numL (twoL (n : Nat)) = n := by
  have := numL_twoL n
  omega
theorem num_four (n : Nat) (h : n < 4294967296) : numL (fourL (n : Nat)) = n := by
  have := numL_fourL n
  omega

theorem textL_is (l : List UInt8) (h : l.length ≤ 65535) : textL l = twoL (l.length : Nat) ++ l := by
  unfold textL
  rw [List.take_of_length_le h, show min l.length 65535 = l.length by omega]

theorem txt_app (l r : List UInt8) (most : Int) (h : l.length ≤ 65535) (hm : (l.length : Int) ≤ most) : txtV most ⟨textL l ++ r, false⟩ = l ∧ txtS most ⟨textL l ++ r, false⟩ = ⟨r, false⟩ := by
  have hn := num_two l.length (by omega)
  have i1 : inside 2 0 most ⟨twoL (l.length : Nat) ++ (l ++ r), false⟩ = true := by
    rw [inside_app _ _ 2 0 most rfl, hn, decide_eq_true (by omega), decide_eq_true hm]; rfl
  have i2 := numV_app (twoL (l.length : Nat)) (l ++ r) 2 0 most rfl (by omega) (by rw [hn]; exact hm)
  have i3 := numS_app (twoL (l.length : Nat)) (l ++ r) 2 0 most rfl (by omega) (by rw [hn]; exact hm)
  rw [hn] at i2
  rw [textL_is l h, List.append_assoc]
  unfold txtV txtS
  rw [i1, i2, i3, if_pos rfl, if_pos rfl]
  unfold takeV takeS
  rw [good_app l r l.length rfl, if_pos rfl, if_pos rfl]
  exact ⟨take_app l r _ rfl, by show TK.mk ((l ++ r).drop l.length) false = _; rw [drop_app l r _ rfl]⟩

theorem txt_less (l : List UInt8) (h : l.length ≤ 65535) : txtV ((l.length : Int) - 1) ⟨textL l, false⟩ = [] ∧ txtS ((l.length : Int) - 1) ⟨textL l, false⟩ = ⟨l, true⟩ := by
  have hn := num_two l.length (by omega)
  have i1 : inside 2 0 ((l.length : Int) - 1) ⟨twoL (l.length : Nat) ++ l, false⟩ = false := by
    rw [inside_app _ _ 2 0 _ rfl, hn, decide_eq_false (p := (l.length : Int) ≤ (l.length : Int) - 1) (by omega), Bool.and_false]
  rw [textL_is l h]
  unfold txtV txtS
  rw [i1]
  refine ⟨rfl, ?_⟩
  show numS 2 0 ((l.length : Int) - 1) ⟨twoL (l.length : Nat) ++ l, false⟩ = _
  unfold numS
  rw [i1, good_app _ _ 2 rfl]
  rfl

end Go.Proofs.YtgeiemccjionpaaGreat.Wire

/- CFour -/
namespace Go.Proofs.YtgeiemccjionpaaGreat.Crc
open Go.RowKit

theorem low_bit (x : Nat) (h : x < 4294967296) : bits .and .u32 (x : Int) 1 = ((x % 2 : Nat) : Int) := by
  have := u32_and_nat x 1 h (by omega)
  rw [Nat.and_one_is_mod] at this
  exact this

theorem xor_u32 (x y : Nat) (h : x < 4294967296) (hy : y < 4294967296) : bits .xor .u32 (x : Int) (y : Int) = ((x ^^^ y : Nat) : Int) := u32_xor_nat x y h hy

theorem xor_byte (x : Nat) (c : UInt8) (h : x < 4294967296) : bits .xor .u32 (x : Int) ((c.toNat : Int) % 4294967296) = ((x ^^^ c.toNat : Nat) : Int) := by
  have hc := c.toNat_lt
  rw [show ((c.toNat : Int) % 4294967296) = (c.toNat : Int) by omega]
  exact xor_u32 x c.toNat h (by omega)

theorem dn_odd {x : Nat} (h : x < 4294967296) (hb : (bits .and .u32 (x : Int) 1 == 1) = true) : bits .xor .u32 ((x : Int) / 2) 2197175160 = (dn x : Nat) := by
  rw [low_bit x h] at hb
  have hb' : x % 2 = 1 := by have := beq_iff_eq.1 hb; omega
  have := xor_u32 (x / 2) 2197175160 (by omega) (by omega)
  unfold dn
  rw [if_pos hb', ← this]
  rfl

theorem dn_even {x : Nat} (h : x < 4294967296) (hb : (bits .and .u32 (x : Int) 1 == 1) = false) : (x : Int) / 2 = (dn x : Nat) := by
  rw [low_bit x h] at hb
  have hb' : ¬ x % 2 = 1 := by
    intro h1
    rw [h1] at hb
    cases hb
  unfold dn
  rw [if_neg hb']
  omega

set_option maxRecDepth 100000 in
set_option maxHeartbeats 400000 in
theorem four_calls (n : Nat) (w : World) (hn : n < 4294967296) :
    Calls Tryz.prog 113 #[.int .u32 n] w fun e w' => e = .returned (.int .u32 (dnK 4 n : Nat)) ∧ w = w' := by
  go_enter Tryz.func113, Tryz.ntmps113
  go_wp2
  go_loop [0, 4] (fun m k => ∃ j : Nat, j ≤ 4 ∧ k = .int .i64 j ∧ m = .int .u32 (dnK j n : Nat)) (fun _ k => 4 - (intOf k).toNat)
  case atStart => exact ⟨0, Nat.zero_le _, rfl, rfl⟩
  case round =>
    obtain ⟨j, hj, rfl, rfl⟩ := hrel
    have hlt := dnK_lt j hn
    by_cases h : j < 4
    · have HS : Hid (dnK (j + 1) n = dn (dnK j n)) := dnK_succ j n
      go_wp2
      all_goals
        go_round
        case rel => exact ⟨j + 1, by omega, by go_num, by rw [HS.out]; first | rw [dn_odd hlt (by assumption)] | rw [dn_even hlt (by assumption)]⟩
        case measure => simp [intOf]; omega
    · go_wp2
      go_ret
      obtain rfl : j = 4 := by omega
      exact ⟨rfl, rfl⟩

theorem take_snoc (s : ByteArray) (k : Nat) (h : k < s.size) : s.data.toList.take (k + 1) = s.data.toList.take k ++ [s[k]] := by
  rw [List.take_succ_eq_append_getElem (by simpa using h)]; rfl

theorem reg_snoc (n : Nat) (s : ByteArray) (k : Nat) (h : k < s.size) : reg n (s.data.toList.take (k + 1)) = dnK 8 (reg n (s.data.toList.take k) ^^^ s[k].toNat) := by
  rw [take_snoc s k h, reg_app]; rfl

theorem reg_all (n : Nat) (s : ByteArray) (k : Nat) (h : k = s.size) : reg n (s.data.toList.take k) = reg n s.data.toList := by
  rw [List.take_of_length_le (by simp; omega)]

theorem not_u32 (x : Nat) (h : x < 4294967296) : bits .xor .u32 IntKind.u32.max (x : Int) = ((4294967295 ^^^ x : Nat) : Int) := xor_u32 4294967295 x (by omega) h

theorem not_reg (s : ByteArray) (k : Nat) (h : k = s.size) : bits .xor .u32 IntKind.u32.max ((reg 4294967295 (s.data.toList.take k) : Nat) : Int) = (crcN s.data.toList : Nat) := by
  rw [reg_all _ s k h, not_u32 _ (reg_lt _ (by omega))]; rfl

end Go.Proofs.YtgeiemccjionpaaGreat.Crc

/- CSync -/
namespace Go.Proofs.YtgeiemccjionpaaGreat.Crc
open Go.RowKit

theorem disable (w : World) : (callFunc 126 #[]).run Tryz.prog w = .ok (.value (.tuple #[])) w := run_call_mark0 Tryz.func126 (by kernel_rfl) (by kernel_rfl) (by kernel_rfl) .disable (by kernel_rfl) w
theorem enable (w : World) : (callFunc 128 #[]).run Tryz.prog w = .ok (.value (.tuple #[])) w := run_call_mark0 Tryz.func128 (by kernel_rfl) (by kernel_rfl) (by kernel_rfl) .enable (by kernel_rfl) w
theorem acquire (a : Addr) (w : World) : (callFunc 129 #[.pointer (some a)]).run Tryz.prog w = .ok (.value (.tuple #[])) w := run_call_marked Tryz.func129 (by kernel_rfl) (by kernel_rfl) (by kernel_rfl) .acquire (by kernel_rfl) a w
theorem releaseMerge (a : Addr) (w : World) : (callFunc 131 #[.pointer (some a)]).run Tryz.prog w = .ok (.value (.tuple #[])) w := run_call_marked Tryz.func131 (by kernel_rfl) (by kernel_rfl) (by kernel_rfl) .releaseMerge (by kernel_rfl) a w

set_option maxRecDepth 100000 in
theorem store_deferred (a : Addr) (x : Value) (u : FrameMode) (w : World) (hc : w.cell? a = some x) (hz : w.frozen? a = false) :
    CallsD Tryz.prog 121 #[.pointer (some a), .bool true] u w fun e u' w' => u' = u ∧ (e = .returned (.tuple #[]) ∧ w' = w.drew.setCell a (.int .u32 1)) := by
  have hc' : w.drew.cell? a = some x := by go_simp
  have hz' : w.drew.frozen? a = false := by go_simp
  have hst := run_call_store (P := Tryz.prog) Tryz.func124 (by kernel_rfl) (by kernel_rfl) (by kernel_rfl) (by kernel_rfl) (k := .u32) (y := 1) hc' hz'
  go_enter_d Tryz.func121, Tryz.ntmps121
  go_wp2
  go_region_calls
  all_goals (go_end0; exact ⟨rfl, rfl⟩)

set_option maxRecDepth 100000 in
theorem unlock_deferred (a : Addr) (u : FrameMode) (w : World) (hc : w.cell? a = some (.int .i32 1)) (hz : w.frozen? a = false) :
    CallsD Tryz.prog 120 #[.pointer (some a)] u w fun e u' w' => u' = u ∧ (e = .returned (.tuple #[]) ∧ w' = w.setCell a (.int .i32 0)) := by
  have hd := disable
  have he := enable
  have hr := releaseMerge
  have hadd := run_call_add (P := Tryz.prog) Tryz.func132 (by kernel_rfl) (by kernel_rfl) (by kernel_rfl) .i32 (by kernel_rfl) (y := -1) (s := 0) hc hz (by simp [go_sem]; rfl)
  have hcv := run_convert_to_unsafe (P := Tryz.prog) (src := 183) (dst := 142) Tryz.underlying183 Tryz.underlying142 (by kernel_rfl) hc
  go_enter_d Tryz.func120, Tryz.ntmps120
  go_wp2
  go_end0
  go_wp2
  go_end0
  exact ⟨rfl, rfl⟩

set_option maxRecDepth 100000 in
theorem lock_free (a : Addr) (w : World) (hc : w.cell? a = some (.int .i32 0)) (hz : w.frozen? a = false) :
    Calls Tryz.prog 119 #[.pointer (some a)] w fun e w' => e = .returned (.tuple #[]) ∧ w' = w.setCell a (.int .i32 1) := by
  have hd := disable
  have he := enable
  have ha := acquire
  have hcas := run_call_cas_hit (P := Tryz.prog) Tryz.func127 (by kernel_rfl) (by kernel_rfl) (by kernel_rfl) .i32 (by kernel_rfl) (y := 1) hc hz
  have hc' : (w.setCell a (.int .i32 1)).cell? a = some (.int .i32 1) := World.cell?_setCell_same w a _ hc
  have hcv := run_convert_to_unsafe (P := Tryz.prog) (src := 183) (dst := 142) Tryz.underlying183 Tryz.underlying142 (by kernel_rfl) hc'
  go_enter Tryz.func119, Tryz.ntmps119
  go_wp2
  first | go_end0 | (simp only [Exit.inBlock, Exit.then]; refine bodyPost_ret (results_none rfl _ _ _) rfl ?_) | refine bodyPost_ret (results_none rfl _ _ _) rfl ?_
  go_wp2
  go_end0
  exact ⟨rfl, rfl⟩

/-- Nothing but block b has turned. -/
structure Only (b : Nat) (w w' : World) : Prop where
  os : w'.os = w.os
  tape : w'.tape = w.tape
  output : w'.output = w.output
  size : w'.heap.size = w.heap.size
  block : ∀ k, k ≠ b → w'.heap[k]? = w.heap[k]?

theorem Only.refl (b : Nat) (w : World) : Only b w w := ⟨rfl, rfl, rfl, rfl, fun _ _ => rfl⟩
theorem Only.trans {b : Nat} {u v w : World} (h : Only b u v) (k : Only b v w) : Only b u w :=
  ⟨k.os.trans h.os, k.tape.trans h.tape, k.output.trans h.output, k.size.trans h.size, fun i hi => (k.block i hi).trans (h.block i hi)⟩
theorem Only.drew {b : Nat} {u v : World} (h : Only b u v) : Only b u v.drew := ⟨h.os, h.tape, h.output, h.size, h.block⟩
theorem Only.setCell {b : Nat} {u v : World} (h : Only b u v) (a : Addr) (ha : a.block = b) (x : Value) : Only b u (v.setCell a x) :=
  h.trans ⟨rfl, rfl, rfl, by simp [World.setCell], fun k hk => Below.heap_setCell _ _ _ _ (by omega)⟩
theorem Only.below {b B : Nat} {w w' : World} (h : Only b w w') (hB : B ≤ b) : Below B w w' := ⟨h.os, h.tape, h.output, by rw [h.size]; exact Nat.le_refl _, fun k hk => h.block k (by omega)⟩
theorem Only.cell {b : Nat} {w w' : World} (h : Only b w w') {p : Addr} (hp : p.block ≠ b) : w'.cell? p = w.cell? p := World.cell?_of_block (w := w) (h.block p.block hp)
theorem Only.frozen {b : Nat} {w w' : World} (h : Only b w w') {p : Addr} (hp : p.block ≠ b) : w'.frozen? p = w.frozen? p := World.frozen?_of_block (w := w) (h.block p.block hp)

/-- The table in block b: its once's word, its lock's word, and its first k rows. -/
def TabK (w : World) (b : Nat) (d m : Int) (k : Nat) : Prop :=
  ∃ cur : Array Value, w.heap[b]? = some (.cells cur 170 (0, 0)) ∧ cur.size = 19 ∧ cur[0]? = some (.int .u32 d) ∧ cur[1]? = some (.int .i32 m) ∧ ∀ j, j < k → cur[3 + j]? = some (.int .u32 (dnK 4 j : Nat))

section
variable {w : World} {b : Nat} {d m : Int} {k : Nat}
theorem TabK.done (h : TabK w b d m k) : w.cell? ⟨b, 0, none⟩ = some (.int .u32 d) := by
  obtain ⟨cur, hb, _, h0, _⟩ := h
  rw [cell_of_row w b _ _ _ _ hb]; exact h0
theorem TabK.lock (h : TabK w b d m k) : w.cell? ⟨b, 1, none⟩ = some (.int .i32 m) := by
  obtain ⟨cur, hb, _, _, h0, _⟩ := h
  rw [cell_of_row w b _ _ _ _ hb]; exact h0
theorem TabK.row (h : TabK w b d m k) (j : Nat) (hj : j < k) : w.cell? ⟨b, 3 + j, none⟩ = some (.int .u32 (dnK 4 j : Nat)) := by
  obtain ⟨cur, hb, _, _, _, h0⟩ := h
  rw [cell_of_row w b _ _ _ _ hb]; exact h0 j hj
theorem TabK.some_ (h : TabK w b d m k) (i : Nat) (hi : i < 19) : ∃ v, w.cell? ⟨b, i, none⟩ = some v := by
  obtain ⟨cur, hb, hs, _⟩ := h
  rw [cell_of_row w b _ _ _ _ hb]; exact ⟨cur[i], by simp⟩
theorem TabK.free (h : TabK w b d m k) (i : Nat) : w.frozen? ⟨b, i, none⟩ = false := by
  obtain ⟨cur, hb, _⟩ := h
  simp [World.frozen?, hb]
theorem TabK.lt (h : TabK w b d m k) : b < w.heap.size := by
  obtain ⟨cur, hb, _⟩ := h
  exact (Array.getElem?_eq_some_iff.1 hb).1
theorem TabK.keep {w' : World} (h : TabK w b d m k) (e : w'.heap[b]? = w.heap[b]?) : TabK w' b d m k := by
  obtain ⟨cur, hb, r⟩ := h
  exact ⟨cur, e.trans hb, r⟩
theorem TabK.drew (h : TabK w b d m k) : TabK w.drew b d m k := h.keep rfl
theorem set_get {cur : Array Value} {i j : Nat} {x : Value} (hi : i < cur.size) : (cur.setIfInBounds i x)[j]? = if i = j then some x else cur[j]? := by
  rw [Array.getElem?_setIfInBounds]
  by_cases h : i = j
  · subst h; simp [hi]
  · simp [h]
theorem TabK.setRow (h : TabK w b d m k) (hk : k < 16) : TabK (w.setCell ⟨b, 3 + k, none⟩ (.int .u32 (dnK 4 k : Nat))) b d m (k + 1) := by
  obtain ⟨cur, hb, hs, h0, h1, hr⟩ := h
  refine ⟨_, heap_setCell_same w b _ cur 170 _ hb, by simpa using hs, ?_, ?_, fun j hj => ?_⟩
  · rw [set_get (by omega), if_neg (by omega)]; exact h0
  · rw [set_get (by omega), if_neg (by omega)]; exact h1
  · rw [set_get (by omega)]
    by_cases e : k = j
    · subst e; rw [if_pos rfl]
    · rw [if_neg (by omega)]; exact hr j (by omega)
theorem TabK.setDone (h : TabK w b d m k) (d' : Int) : TabK (w.setCell ⟨b, 0, none⟩ (.int .u32 d')) b d' m k := by
  obtain ⟨cur, hb, hs, h0, h1, hr⟩ := h
  refine ⟨_, heap_setCell_same w b _ cur 170 _ hb, by simpa using hs, ?_, ?_, fun j hj => ?_⟩
  · rw [set_get (by omega), if_pos rfl]
  · rw [set_get (by omega), if_neg (by omega)]; exact h1
  · rw [set_get (by omega), if_neg (by omega)]; exact hr j hj
theorem TabK.setLock (h : TabK w b d m k) (m' : Int) : TabK (w.setCell ⟨b, 1, none⟩ (.int .i32 m')) b d m' k := by
  obtain ⟨cur, hb, hs, h0, h1, hr⟩ := h
  refine ⟨_, heap_setCell_same w b _ cur 170 _ hb, by simpa using hs, ?_, ?_, fun j hj => ?_⟩
  · rw [set_get (by omega), if_neg (by omega)]; exact h0
  · rw [set_get (by omega), if_pos rfl]
  · rw [set_get (by omega), if_neg (by omega)]; exact hr j hj
end
end Go.Proofs.YtgeiemccjionpaaGreat.Crc

/- CRFour -/
namespace Go.Proofs.YtgeiemccjionpaaGreat.Crc
open Go.RowKit

set_option maxRecDepth 100000 in
set_option maxHeartbeats 1000000 in
theorem ref_of (s : ByteArray) (w : World) (hs : s.size ≤ maxLen) :
    Calls Tryz.prog 77 #[.string s] w fun e w' => e = .returned (.int .u32 (crcN s.data.toList : Nat)) ∧ w = w' := by
  unfold maxLen at hs
  go_enter Tryz.func77, Tryz.ntmps77
  go_wp2
  go_loop [3, 4] (fun n i => ∃ k : Nat, k ≤ s.size ∧ i = .int .i64 k ∧ n = .int .u32 (reg 4294967295 (s.data.toList.take k) : Nat)) (fun _ i => s.size - (intOf i).toNat)
  case atStart => exact ⟨0, Nat.zero_le _, rfl, rfl⟩
  case round =>
    obtain ⟨k, hk, rfl, rfl⟩ := hrel
    have hlt := reg_lt (n := 4294967295) (s.data.toList.take k) (by omega)
    by_cases h : k < s.size
    · have HS := Lib.hid (reg_snoc 4294967295 s k h)
      have hx := xor_byte (reg 4294967295 (s.data.toList.take k)) s[k] hlt
      have hx2 : reg 4294967295 (s.data.toList.take k) ^^^ s[k].toNat < 4294967296 := Nat.xor_lt_two_pow (n := 32) hlt (by have := s[k].toNat_lt; omega)
      generalize reg 4294967295 (s.data.toList.take k) = x at *
      go_wp2
      go_loop [3, 5] (fun m i => ∃ j : Nat, j ≤ 8 ∧ i = .int .i64 j ∧ m = .int .u32 (dnK j (x ^^^ s[k].toNat) : Nat)) (fun _ i => 8 - (intOf i).toNat)
      case atStart => exact ⟨0, Nat.zero_le _, rfl, rfl⟩
      case round =>
        obtain ⟨j, hj, rfl, rfl⟩ := hrel
        have hl2 := dnK_lt j hx2
        clear hx
        by_cases h8 : j < 8
        · have HT : Hid (dnK (j + 1) (x ^^^ s[k].toNat) = dn (dnK j (x ^^^ s[k].toNat))) := dnK_succ j _
          go_wp2
          all_goals
            go_round
            case rel => exact ⟨j + 1, by omega, by go_num, by rw [HT.out]; first | rw [dn_odd hl2 (by assumption)] | rw [dn_even hl2 (by assumption)]⟩
            case measure => simp [intOf]; omega
        · obtain rfl : j = 8 := by omega
          go_wp2
          go_round
          case rel => exact ⟨k + 1, by omega, by go_num, by rw [HS.out]⟩
          case measure => simp [intOf]; omega
    · go_wp2
      go_ret
      exact ⟨ret_int (by rw [not_reg s k (by omega)]), rfl⟩
end Go.Proofs.YtgeiemccjionpaaGreat.Crc

/- WRWr -/
namespace Go.Proofs.YtgeiemccjionpaaGreat.Wire
open Go.RowKit

set_option maxRecDepth 100000 in
set_option maxHeartbeats 1000000 in
theorem rtwo_calls (n : Int) (w : World) :
    Calls Tryz.prog 43 #[.int .i64 n] w fun e w' => e = .returned (.string (strB (twoL n))) ∧ Below w.heap.size w w' := by
  have hcv := conv2 n
  go_enter Tryz.func43, Tryz.ntmps43
  go_wp2_with fail
  go_ret
  exact ⟨rfl, (Below.refl _ _).alloc (Nat.le_refl _) _⟩

end Go.Proofs.YtgeiemccjionpaaGreat.Wire

/- WText -/
namespace Go.Proofs.YtgeiemccjionpaaGreat.Wire
open Go.RowKit

set_option maxRecDepth 100000 in
set_option maxHeartbeats 1000000 in
theorem text_short (l : List UInt8) (w : World) (hl : l.length ≤ 65535) :
    Calls Tryz.prog 67 #[.string (strB l)] w fun e w' => e = .returned (.string (strB (textL l))) ∧ Below w.heap.size w w' := by
  have HE := Lib.hid (text_is_short l hl)
  have hsz : (strB l).size ≤ 65535 := by rw [strB_size]; exact hl
  have HZ := Lib.hid (strB_size l)
  have hz : ¬ 9223372036854775807 < (strB (twoL (strB l).size)).size + (strB l).size := by rw [strB_size (twoL _), twoL_len]; omega
  clear hl
  go_enter Tryz.func67, Tryz.ntmps67
  go_wp2_with fail
  (with_reducible refine (two_calls ((strB l).size : Nat) _).mono ?_)
  rintro e w1 ⟨rfl, hB1⟩
  go_wp2_with fail
  go_ret
  exact ⟨ret_str (by rw [← HE.out, HZ.out]), hB1⟩

set_option maxRecDepth 100000 in
set_option maxHeartbeats 1000000 in
theorem ttext_calls (b : Nat) (most : Int) (t : TK) (w : World) (ht : TP 118 w b t) :
    Calls Tryz.prog 71 #[.pointer (some ⟨b, 0, none⟩), .int .i64 most] w fun e w' => e = .returned (.string (strB (txtV most t))) ∧ TP 118 w' b (txtS most t) ∧ But b w w' := by
  cases hi : inside 2 0 most t with
  | false =>
    have E1 : Hid (txtV most t = []) := by show txtV most t = []; unfold txtV; rw [hi]; rfl
    have E2 : Hid (txtS most t = numS 2 0 most t) := by show txtS most t = _; unfold txtS; rw [hi]; rfl
    rw [E1.out, E2.out]
    go_enter Tryz.func71, Tryz.ntmps71
    go_wp2_with fail
    (with_reducible refine (number2 b 0 most t _ ht).mono ?_)
    rintro e w1 ⟨rfl, hT, hB⟩
    have HT := Lib.hid hT
    have HB := Lib.hid hB
    clear ht hT hB
    rw [hi]
    go_wp2_with fail
    go_ret
    exact ⟨rfl, HT.out, HB.out⟩
  | true =>
    have E1 : Hid (txtV most t = takeV (numV 2 0 most t) (numS 2 0 most t)) := by show txtV most t = _; unfold txtV; rw [hi]; rfl
    have E2 : Hid (txtS most t = takeS (numV 2 0 most t) (numS 2 0 most t)) := by show txtS most t = _; unfold txtS; rw [hi]; rfl
    rw [E1.out, E2.out]
    go_enter Tryz.func71, Tryz.ntmps71
    go_wp2_with fail
    (with_reducible refine (number2 b 0 most t _ ht).mono ?_)
    rintro e w1 ⟨rfl, hT, hB⟩
    have HT := Lib.hid hT
    have HB := Lib.hid hB
    clear ht hT hB E1 E2
    rw [hi]
    go_wp2_with fail
    (with_reducible refine (take_calls b (numV 2 0 most t) (numS 2 0 most t) _ HT.out).mono ?_)
    rintro e w2 ⟨rfl, hT2, hB2⟩
    have HT2 := Lib.hid hT2
    have HB2 := Lib.hid hB2
    clear hT2 hB2
    go_wp2_with fail
    go_ret
    exact ⟨rfl, HT2.out, HB.out.trans HB2.out⟩

end Go.Proofs.YtgeiemccjionpaaGreat.Wire
