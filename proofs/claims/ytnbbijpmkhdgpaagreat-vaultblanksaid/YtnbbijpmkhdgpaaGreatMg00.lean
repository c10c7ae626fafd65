/- Contracts and plain mathematics that the statement's proof wants: no statement is proved here, nothing is assumed. -/
import Derived.Test.YtnbbijpmkhdgpaaGreatRows
import Derived.WalkKit
import Derived.Laws.BitsAllLaws
import Derived.Lib.Hide
import Derived.Laws.BytesArg
import Derived.Tactics
import Derived.Tactics2
import Derived.Defers
import Derived.Laws.Pointers
import Derived.Laws.LoneSync
import Derived.RegionTactic
import Derived.RegionCalls
import Derived.ChangeAlike
/- Str -/
namespace Go.Proofs.YtnbbijpmkhdgpaaGreat
open Go.RowKit

/-- Bytes as a string's. -/
def strB (l : List UInt8) : ByteArray := ⟨l.toArray⟩

theorem strB_size (l : List UInt8) : (strB l).size = l.length := by simp [strB, ByteArray.size]
theorem strB_data (l : List UInt8) : (strB l).data.toList = l := rfl
theorem strB_of (s : ByteArray) : strB s.data.toList = s := by cases s; rfl
theorem strB_toList (l : List UInt8) : (strB l).toList = l := by rw [ByteArray.toList_eq]; rfl
theorem len_data (s : ByteArray) : s.data.toList.length = s.size := by simp
theorem strB_append (l m : List UInt8) : strB l ++ strB m = strB (l ++ m) := by
  apply ByteArray.ext
  simp [strB]
theorem strB_extract (l : List UInt8) (a b : Nat) : (strB l).extract a b = strB ((l.take b).drop a) := by
  apply ByteArray.ext
  apply Array.toList_inj.1
  simp [strB, List.extract_eq_take_drop, List.drop_take]

theorem ret_bool {a b : Bool} (h : a = b) : Ending.returned (.bool a) = .returned (.bool b) := by rw [h]
theorem ret_str {a b : ByteArray} (h : a = b) : Ending.returned (.string a) = .returned (.string b) := by rw [h]
theorem ret_int {k : IntKind} {a b : Int} (h : a = b) : Ending.returned (.int k a) = .returned (.int k b) := by rw [h]
theorem below_two {a b c : World} (h : Below a.heap.size a b) (k : Below b.heap.size b c) : Below a.heap.size a c := h.trans (k.mono h.size)
theorem below_trans' {a b c : World} (h : Below a.heap.size a b) (k : Below b.heap.size b c) : Below a.heap.size a c := h.trans (k.mono h.size)
theorem below_one (w : World) (a : Obj) : Below w.heap.size w (w.alloc a) := (Below.refl _ _).alloc (Nat.le_refl _) _
theorem bdrew {B : Nat} {a w : World} (h : Below B a w) : Below B a w.drew := ⟨h.os, h.tape, h.output, h.size, h.block⟩
end Go.Proofs.YtnbbijpmkhdgpaaGreat

/- WPlain -/
namespace Go.Proofs.YtnbbijpmkhdgpaaGreat.Wire
open Go.RowKit

/-- A number's lowest byte. -/
def b8 (n : Int) : UInt8 := UInt8.ofNat (n % 256).toNat
def twoL (n : Int) : List UInt8 := [b8 (n / 256), b8 n]
def fourL (n : Int) : List UInt8 := twoL (n / 65536) ++ twoL n
def textL (l : List UInt8) : List UInt8 := twoL (min l.length 65535 : Nat) ++ l.take 65535

theorem twoL_len (n : Int) : (twoL n).length = 2 := rfl
theorem fourL_len (n : Int) : (fourL n).length = 4 := rfl
theorem textL_len (l : List UInt8) : (textL l).length = min l.length 65535 + 2 := by
  simp only [textL, List.length_append, twoL_len, List.length_take]; omega

theorem b8_toNat (n : Int) : (b8 n).toNat = (n % 256).toNat := by
  unfold b8
  rw [UInt8.toNat_ofNat']
  omega

/-- The number of so many bytes. -/
def numL (l : List UInt8) : Nat := l.foldl (fun n b => n * 256 + b.toNat) 0

theorem numL_two (a b : UInt8) : numL [a, b] = a.toNat * 256 + b.toNat := by simp [numL]
theorem numL_four (a b c d : UInt8) : numL [a, b, c, d] = ((a.toNat * 256 + b.toNat) * 256 + c.toNat) * 256 + d.toNat := by simp [numL]
theorem numL_snoc (l : List UInt8) (b : UInt8) : numL (l ++ [b]) = numL l * 256 + b.toNat := by simp [numL]
theorem numL_lt (l : List UInt8) : numL l < 256 ^ l.length := by
  suffices ∀ n, l.foldl (fun n b => n * 256 + b.toNat) n < (n + 1) * 256 ^ l.length by simpa [numL] using this 0
  induction l with
  | nil => intro n; simp
  | cons a l ih =>
    intro n
    have h := ih (n * 256 + a.toNat)
    have ha := a.toNat_lt
    simp only [List.foldl_cons, List.length_cons]
    refine Nat.lt_of_lt_of_le h ?_
    rw [Nat.pow_succ, Nat.mul_comm (256 ^ l.length) 256, ← Nat.mul_assoc]
    exact Nat.mul_le_mul_right _ (by omega)

theorem numL_twoL (n : Int) : (numL (twoL n) : Int) = n % 65536 := by
  unfold twoL
  rw [numL_two, b8_toNat, b8_toNat]
  omega
theorem numL_fourL (n : Int) : (numL (fourL n) : Int) = n % 4294967296 := by
  show (numL [b8 (n / 65536 / 256), b8 (n / 65536), b8 (n / 256), b8 n] : Int) = _
  rw [numL_four, b8_toNat, b8_toNat, b8_toNat, b8_toNat]
  omega

/-- A tape: what is left, and whether something went wrong. -/
structure TK where
  rest : List UInt8
  bad : Bool

def good (k : Nat) (t : TK) : Bool := !t.bad && decide (k ≤ t.rest.length)
def takeS (k : Nat) (t : TK) : TK := if good k t then ⟨t.rest.drop k, false⟩ else ⟨t.rest, true⟩
def takeV (k : Nat) (t : TK) : List UInt8 := if good k t then t.rest.take k else []
def inside (k : Nat) (low high : Int) (t : TK) : Bool := good k t && (decide (low ≤ (numL (t.rest.take k) : Int)) && decide ((numL (t.rest.take k) : Int) ≤ high))
def numV (k : Nat) (low high : Int) (t : TK) : Nat := if inside k low high t then numL (t.rest.take k) else 0
def numS (k : Nat) (low high : Int) (t : TK) : TK := if good k t then ⟨t.rest.drop k, !inside k low high t⟩ else ⟨t.rest, true⟩
def txtV (most : Int) (t : TK) : List UInt8 := if inside 2 0 most t then takeV (numV 2 0 most t) (numS 2 0 most t) else []
def txtS (most : Int) (t : TK) : TK := if inside 2 0 most t then takeS (numV 2 0 most t) (numS 2 0 most t) else numS 2 0 most t
def markS (m : List UInt8) (t : TK) : TK := if good m.length t then ⟨t.rest.drop m.length, !(t.rest.take m.length == m)⟩ else ⟨t.rest, true⟩
def doneV (t : TK) : Bool := !t.bad && (t.rest == [])

theorem numV_lt (k : Nat) (low high : Int) (t : TK) : numV k low high t < 256 ^ k := by
  unfold numV
  split
  · refine Nat.lt_of_lt_of_le (numL_lt _) (Nat.pow_le_pow_right (by omega) (by simp; omega))
  · exact Nat.pow_pos (by omega)

end Go.Proofs.YtnbbijpmkhdgpaaGreat.Wire

/- WWr -/
namespace Go.Proofs.YtnbbijpmkhdgpaaGreat.Wire
open Go.RowKit

theorem nums_two (n : Int) : strOfNums [n / 256 % 256, n % 256] = strB (twoL n) := by
  unfold strOfNums strB twoL b8
  simp only [List.map_cons, List.map_nil]

theorem conv2 (n : Int) (w1 : World) :
    Sem.run Tryz.prog (convert 76 9 (.slice (some ⟨w1.heap.size, 0, none⟩) 2 2)) (w1.alloc (.cells #[.int .u8 (n / 256 % 256), .int .u8 (n % 256)] 5)) =
      .ok (.string (strB (twoL n))) (w1.alloc (.cells #[.int .u8 (n / 256 % 256), .int .u8 (n % 256)] 5)) := by
  rw [← nums_two n]
  refine run_convert_bytes_arg _ 76 5 Tryz.underlying76 Tryz.underlying5 w1.heap.size 0 2 2 _ rfl ?_ 9 Tryz.underlying9
  intro i hi
  rw [cell_of_row _ _ _ _ _ _ (heap_alloc_new w1 _)]
  have : i = 0 ∨ i = 1 := by omega
  rcases this with rfl | rfl <;> rfl

set_option maxRecDepth 100000 in
set_option maxHeartbeats 1000000 in
theorem two_calls (n : Int) (w : World) :
    Calls Tryz.prog 65 #[.int .i64 n] w fun e w' => e = .returned (.string (strB (twoL n))) ∧ Below w.heap.size w w' := by
  have hcv := conv2 n
  go_enter Tryz.func65, Tryz.ntmps65
  go_wp2_with fail
  go_ret
  exact ⟨rfl, (Below.refl _ _).alloc (Nat.le_refl _) _⟩

theorem two_two (n : Int) : strB (twoL (n / 65536)) ++ strB (twoL n) = strB (fourL n) := strB_append _ _

set_option maxRecDepth 100000 in
set_option maxHeartbeats 1000000 in
theorem four_calls (n : Int) (w : World) :
    Calls Tryz.prog 115 #[.int .i64 n] w fun e w' => e = .returned (.string (strB (fourL n))) ∧ Below w.heap.size w w' := by
  have hz : ¬ 9223372036854775807 < (strB (twoL (n / 65536))).size + (strB (twoL n)).size := by rw [strB_size, strB_size, twoL_len, twoL_len]; omega
  go_enter Tryz.func115, Tryz.ntmps115
  go_wp2_with fail
  (with_reducible refine (two_calls (n / 65536) _).mono ?_)
  rintro e w1 ⟨rfl, hB1⟩
  go_wp2_with fail
  (with_reducible refine (two_calls n _).mono ?_)
  rintro e w2 ⟨rfl, hB2⟩
  go_wp2_with fail
  go_ret
  exact ⟨ret_str (two_two n), below_two hB1 hB2⟩

theorem text_is_short (l : List UInt8) (h : l.length ≤ 65535) : strB (twoL (l.length : Nat)) ++ strB l = strB (textL l) := by
  rw [strB_append]
  unfold textL
  rw [List.take_of_length_le h, show min l.length 65535 = l.length by omega]

theorem text_is_long (l : List UInt8) (h : 65535 < l.length) : strB (twoL (65535 : Nat)) ++ (strB l).extract 0 65535 = strB (textL l) := by
  rw [strB_extract, strB_append]
  unfold textL
  rw [show min l.length 65535 = 65535 by omega]
  rfl

end Go.Proofs.YtnbbijpmkhdgpaaGreat.Wire

/- WTape -/
namespace Go.Proofs.YtnbbijpmkhdgpaaGreat.Wire
open Go.RowKit

/-- Of what lay there nothing but block b has turned. -/
structure But (b : Nat) (w w' : World) : Prop where
  os : w'.os = w.os
  tape : w'.tape = w.tape
  output : w'.output = w.output
  size : w.heap.size ≤ w'.heap.size
  block : ∀ k, k < w.heap.size → k ≠ b → w'.heap[k]? = w.heap[k]?

section
variable {b B : Nat} {u v w w' : World}
theorem But.refl (b : Nat) (w : World) : But b w w := ⟨rfl, rfl, rfl, Nat.le_refl _, fun _ _ _ => rfl⟩
theorem But.trans (h : But b u v) (k : But b v w) : But b u w :=
  ⟨k.os.trans h.os, k.tape.trans h.tape, k.output.trans h.output, Nat.le_trans h.size k.size, fun i hi hb => (k.block i (Nat.lt_of_lt_of_le hi h.size) hb).trans (h.block i hi hb)⟩
theorem But.setCell (h : But b u v) (i : Nat) (x : Value) : But b u (v.setCell ⟨b, i, none⟩ x) :=
  h.trans ⟨rfl, rfl, rfl, by simp [World.setCell], fun k _ hk => Below.heap_setCell _ _ _ _ (by simpa using hk)⟩
theorem But.alloc (h : But b u v) (o : Obj) : But b u (v.alloc o) :=
  h.trans ⟨rfl, rfl, rfl, by simp, fun k hk _ => Below.heap_alloc v o k hk⟩
theorem But.drew (h : But b u v) : But b u v.drew := ⟨h.os, h.tape, h.output, h.size, h.block⟩
theorem But.of (b : Nat) (h : Below w.heap.size w w') : But b w w' := ⟨h.os, h.tape, h.output, h.size, fun k hk _ => h.block k hk⟩
theorem But.below (h : But b w w') (hB : B ≤ b) (hs : B ≤ w.heap.size) : Below B w w' := ⟨h.os, h.tape, h.output, h.size, fun k hk => h.block k (by omega) (by omega)⟩
end

/-- The tape t lies in block b. -/
def TP (ty : TypeId) (w : World) (b : Nat) (t : TK) : Prop := w.heap[b]? = some (.cells #[.string (strB t.rest), .bool t.bad] ty (0, 0))

section
variable {ty : TypeId} {w w' : World} {b : Nat} {t : TK}
theorem TP.rest (h : TP ty w b t) : w.cell? ⟨b, 0, none⟩ = some (.string (strB t.rest)) := by unfold TP at h; simp [World.cell?, h]
theorem TP.bad (h : TP ty w b t) : w.cell? ⟨b, 1, none⟩ = some (.bool t.bad) := by unfold TP at h; simp [World.cell?, h]
theorem TP.free (h : TP ty w b t) (i : Nat) : w.frozen? ⟨b, i, none⟩ = false := by unfold TP at h; simp [World.frozen?, h]
theorem TP.lt (h : TP ty w b t) : b < w.heap.size := (Array.getElem?_eq_some_iff.1 h).1
theorem TP.setBad (h : TP ty w b t) (x : Bool) : TP ty (w.setCell ⟨b, 1, none⟩ (.bool x)) b ⟨t.rest, x⟩ := by
  unfold TP at h
  exact heap_setCell_same w b 1 _ ty _ h
theorem TP.setRest (h : TP ty w b t) (l : List UInt8) : TP ty (w.setCell ⟨b, 0, none⟩ (.string (strB l))) b ⟨l, t.bad⟩ := by
  unfold TP at h
  exact heap_setCell_same w b 0 _ ty _ h
theorem TP.keep (h : TP ty w b t) (e : w'.heap[b]? = w.heap[b]?) : TP ty w' b t := Eq.trans e h
theorem TP.below (h : TP ty w b t) (hb : Below w.heap.size w w') : TP ty w' b t := h.keep (hb.block b h.lt)
theorem TP.but {c : Nat} (h : TP ty w b t) (hb : But c w w') (hc : b ≠ c) : TP ty w' b t := h.keep (hb.block b h.lt hc)
theorem TP.alloc (h : TP ty w b t) (o : Obj) : TP ty (w.alloc o) b t := h.keep (Below.heap_alloc w o b h.lt)
theorem TP.drew (h : TP ty w b t) : TP ty w.drew b t := h
theorem TP.new (ty : TypeId) (w : World) (l : List UInt8) (x : Bool) : TP ty (w.alloc (.cells #[.string (strB l), .bool x] ty)) w.heap.size ⟨l, x⟩ := heap_alloc_new w _
end

theorem drop_ext (l : List UInt8) (k : Nat) : (strB l).extract k (strB l).size = strB (l.drop k) := by
  rw [strB_extract, strB_size, List.take_length]
theorem take_ext (l : List UInt8) (k : Nat) : (strB l).extract 0 k = strB (l.take k) := by
  rw [strB_extract, List.drop_zero]

theorem ret_tup {a c : ByteArray} {x : Bool} (h : a = c) : Ending.returned (.tuple #[.string a, .bool x]) = .returned (.tuple #[.string c, .bool x]) := by rw [h]
theorem ret_take {a c : List UInt8} {x y : Bool} (h : a = c) (h2 : x = y) : Ending.returned (.tuple #[.string (strB a), .bool x]) = .returned (.tuple #[.string (strB c), .bool y]) := by rw [h, h2]

set_option maxRecDepth 100000 in
set_option maxHeartbeats 1000000 in
theorem take_bad (b : Nat) (k : Int) (l : List UInt8) (w : World) (ht : TP 114 w b ⟨l, true⟩) :
    Calls Tryz.prog 107 #[.pointer (some ⟨b, 0, none⟩), .int .i64 k] w fun e w' => e = .returned (.tuple #[.string (strB []), .bool false]) ∧ w = w' := by
  have c1 := ht.bad
  clear ht
  go_enter Tryz.func107, Tryz.ntmps107
  go_wp2_with fail
  go_ret2
  exact ⟨rfl, rfl⟩

set_option maxRecDepth 100000 in
set_option maxHeartbeats 1000000 in
theorem take_short (b k : Nat) (l : List UInt8) (w : World) (ht : TP 114 w b ⟨l, false⟩) (hk : l.length < k) :
    Calls Tryz.prog 107 #[.pointer (some ⟨b, 0, none⟩), .int .i64 k] w fun e w' => e = .returned (.tuple #[.string (strB []), .bool false]) ∧ w' = w.setCell ⟨b, 1, none⟩ (.bool true) := by
  have c0 := ht.rest
  have c1 := ht.bad
  have f1 := ht.free 1
  have g : ((strB l).size : Int) < k := by rw [strB_size]; omega
  clear ht hk
  go_enter Tryz.func107, Tryz.ntmps107
  go_wp2_with fail
  go_ret2
  exact ⟨rfl, rfl⟩

set_option maxRecDepth 100000 in
set_option maxHeartbeats 1000000 in
theorem take_good (b k : Nat) (l : List UInt8) (w : World) (ht : TP 114 w b ⟨l, false⟩) (hk : k ≤ l.length) :
    Calls Tryz.prog 107 #[.pointer (some ⟨b, 0, none⟩), .int .i64 k] w fun e w' => e = .returned (.tuple #[.string (strB (l.take k)), .bool true]) ∧ w' = w.setCell ⟨b, 0, none⟩ (.string (strB (l.drop k))) := by
  have c0 := ht.rest
  have c1 := ht.bad
  have f0 := ht.free 0
  have g : ¬ ((strB l).size : Int) < k := by rw [strB_size]; omega
  have g2 : k ≤ (strB l).size := by rw [strB_size]; omega
  have E1 := Lib.hid (take_ext l k)
  have E2 := Lib.hid (drop_ext l k)
  clear ht hk
  go_enter Tryz.func107, Tryz.ntmps107
  go_wp2_with fail
  go_ret2
  exact ⟨ret_tup E1.out, by rw [E2.out]⟩

theorem good_bad (k : Nat) (l : List UInt8) : good k ⟨l, true⟩ = false := rfl
theorem good_yes {k : Nat} {l : List UInt8} (h : k ≤ l.length) : good k ⟨l, false⟩ = true := by simp [good, h]
theorem good_no {k : Nat} {l : List UInt8} (h : l.length < k) : good k ⟨l, false⟩ = false := by simp [good, h]

theorem take_calls (b k : Nat) (t : TK) (w : World) (ht : TP 114 w b t) :
    Calls Tryz.prog 107 #[.pointer (some ⟨b, 0, none⟩), .int .i64 k] w fun e w' => e = .returned (.tuple #[.string (strB (takeV k t)), .bool (good k t)]) ∧ TP 114 w' b (takeS k t) ∧ But b w w' := by
  obtain ⟨l, bad⟩ := t
  cases bad with
  | true =>
    refine (take_bad b k l w ht).mono ?_
    rintro e w' ⟨rfl, rfl⟩
    exact ⟨rfl, ht, But.refl _ _⟩
  | false =>
    by_cases h : k ≤ l.length
    · refine (take_good b k l w ht h).mono ?_
      rintro e w' ⟨rfl, rfl⟩
      refine ⟨?_, ?_, (But.refl _ _).setCell _ _⟩
      · unfold takeV; rw [good_yes h]; rfl
      · unfold takeS; rw [good_yes h]; exact ht.setRest _
    · refine (take_short b k l w ht (by omega)).mono ?_
      rintro e w' ⟨rfl, rfl⟩
      refine ⟨?_, ?_, (But.refl _ _).setCell _ _⟩
      · unfold takeV; rw [good_no (by omega)]; rfl
      · unfold takeS; rw [good_no (by omega)]; exact ht.setBad _
end Go.Proofs.YtnbbijpmkhdgpaaGreat.Wire

/- WNumber -/
namespace Go.Proofs.YtnbbijpmkhdgpaaGreat.Wire
open Go.RowKit

theorem i64_or_nat (a b : Nat) (ha : a < 9223372036854775808) (hb : b < 9223372036854775808) : bits .or .i64 (a : Int) (b : Int) = ((a ||| b : Nat) : Int) := by
  have hx : a ||| b < 2 ^ 63 := Nat.or_lt_two_pow (by omega) (by omega)
  show IntKind.i64.wrap ((BitVec.ofInt 64 (a : Int) ||| BitVec.ofInt 64 (b : Int)).toNat : Int) = _
  rw [BitVec.toNat_or, ofInt_u64 a (by omega), ofInt_u64 b (by omega)]
  simp [IntKind.wrap, IntKind.bits, IntKind.signed]
  omega

theorem or_byte (x : Nat) (c : UInt8) (h : x < 16777216) : bits .or .i64 ((x : Int) * 256) (c.toNat : Int) = ((x * 256 + c.toNat : Nat) : Int) := by
  have hc := c.toNat_lt
  have h1 := i64_or_nat (x * 256) c.toNat (by omega) (by omega)
  have h2 : x * 256 ||| c.toNat = x * 256 + c.toNat := by
    have := Nat.two_pow_add_eq_or_of_lt (i := 8) (b := c.toNat) (by omega) x
    simp only [Nat.reducePow] at this
    rw [Nat.mul_comm, this]
  rw [h2] at h1
  rw [← h1]
  simp

theorem numL_step (s : List UInt8) (j : Nat) (h : j < s.length) : numL (s.take (j + 1)) = numL (s.take j) * 256 + s[j].toNat := by
  rw [List.take_succ_eq_append_getElem h, numL_snoc]

theorem numL_small (s : List UInt8) (j : Nat) (h : j < 4) : numL (s.take j) < 16777216 := by
  have h1 := numL_lt (s.take j)
  have h2 : 256 ^ (s.take j).length ≤ 256 ^ 3 := Nat.pow_le_pow_right (by omega) (by simp; omega)
  omega

theorem ret_num {x y : Nat} {p q : Bool} (h : y = x) (h2 : p = q) : Ending.returned (.tuple #[.int .i64 (x : Nat), .bool p]) = .returned (.tuple #[.int .i64 (y : Nat), .bool q]) := by rw [h, h2]

set_option maxRecDepth 100000 in
set_option maxHeartbeats 1000000 in
theorem number_no (b k : Nat) (low high : Int) (t : TK) (w : World) (ht : TP 114 w b t) (hg : good k t = false) :
    Calls Tryz.prog 108 #[.pointer (some ⟨b, 0, none⟩), .int .i64 k, .int .i64 low, .int .i64 high] w fun e w' => e = .returned (.tuple #[.int .i64 0, .bool false]) ∧ TP 114 w' b (takeS k t) ∧ But b w w' := by
  go_enter Tryz.func108, Tryz.ntmps108
  go_wp2_with fail
  (with_reducible refine (take_calls b k t _ ht).mono ?_)
  rintro e w1 ⟨rfl, hT, hB⟩
  have HT := Lib.hid hT
  clear ht hT
  go_wp2_with fail
  go_ret2
  exact ⟨rfl, HT.out, hB⟩

set_option maxRecDepth 100000 in
set_option maxHeartbeats 1600000 in
theorem number_yes (b k : Nat) (low high : Int) (l : List UInt8) (w : World) (ht : TP 114 w b ⟨l, false⟩) (hk : k ≤ l.length) (hk4 : k ≤ 4) :
    Calls Tryz.prog 108 #[.pointer (some ⟨b, 0, none⟩), .int .i64 k, .int .i64 low, .int .i64 high] w fun e w' => e = .returned (.tuple #[.int .i64 (numV k low high ⟨l, false⟩ : Nat), .bool (inside k low high ⟨l, false⟩)]) ∧ TP 114 w' b (numS k low high ⟨l, false⟩) ∧ But b w w' := by
  go_enter Tryz.func108, Tryz.ntmps108
  go_wp2_with fail
  (with_reducible refine (take_good b k l _ ht hk).mono ?_)
  rintro e w1 ⟨rfl, hw1⟩
  have HT : Hid (TP 114 w1 b ⟨l.drop k, false⟩) := by rw [hw1]; exact ht.setRest _
  have HB : Hid (But b w w1) := by rw [hw1]; exact (But.refl _ _).setCell _ _
  have hfr := HT.out.free 1
  have hcb := HT.out.bad
  have hlen : (strB (l.take k)).size = k := by rw [strB_size, List.length_take]; omega
  have HL : Hid ((l.take k).length = k) := by show (l.take k).length = k; rw [List.length_take]; omega
  have HV : Hid (∀ x, x = inside k low high ⟨l, false⟩ → numS k low high ⟨l, false⟩ = ⟨l.drop k, !x⟩) := by
    rintro x rfl
    unfold numS
    rw [good_yes hk, if_pos rfl]
  have HI : Hid (inside k low high ⟨l, false⟩ = (decide (low ≤ (numL (l.take k) : Int)) && decide ((numL (l.take k) : Int) ≤ high))) := by
    show inside k low high ⟨l, false⟩ = _
    unfold inside
    rw [good_yes hk, Bool.true_and]
  have HN : Hid (numV k low high ⟨l, false⟩ = if inside k low high ⟨l, false⟩ then numL (l.take k) else 0) := rfl
  clear ht hk hw1
  generalize l.take k = s at *
  go_wp2_with fail
  go_loop [12, 24] (fun n i => ∃ j : Nat, j ≤ k ∧ i = .int .i64 j ∧ n = .int .i64 (numL (s.take j) : Nat)) (fun _ i => k - (intOf i).toNat)
  case atStart => exact ⟨0, Nat.zero_le _, rfl, rfl⟩
  case round =>
    obtain ⟨j, hj, rfl, rfl⟩ := hrel
    by_cases h : j < k
    · have hjs : j < s.length := by rw [HL.out]; exact h
      have HS := Lib.hid (numL_step s j hjs)
      have hsm := numL_small s j (by omega)
      have hor := or_byte (numL (s.take j)) s[j] hsm
      have hc : s[j].toNat < 256 := s[j].toNat_lt
      have hat : ∀ h', (strB s)[j]'h' = s[j] := fun _ => rfl
      generalize numL (s.take j) = x at *
      go_wp2_with fail
      go_round
      case rel => exact ⟨j + 1, by omega, by go_num, by rw [HS.out]; exact congrArg (Value.int .i64) hor⟩
      case measure => simp [intOf]; omega
    · obtain rfl : j = k := by omega
      have HE : Hid (s.take j = s) := List.take_of_length_le (by rw [HL.out]; exact Nat.le_refl _)
      rw [HE.out]
      generalize numL s = x at *
      by_cases h1 : (x : Int) < low
      · have hi : inside j low high ⟨l, false⟩ = false := by rw [HI.out, decide_eq_false (by omega), Bool.false_and]
        go_wp2_with fail
        go_ret2
        exact ⟨ret_num (by rw [HN.out, hi]; rfl) rfl, by rw [HV.out false hi.symm]; exact HT.out.setBad _, HB.out.setCell _ _⟩
      · by_cases h2 : high < (x : Int)
        · have hi : inside j low high ⟨l, false⟩ = false := by rw [HI.out, decide_eq_false (p := (x : Int) ≤ high) (by omega), Bool.and_false]
          go_wp2_with fail
          go_ret2
          exact ⟨ret_num (by rw [HN.out, hi]; rfl) rfl, by rw [HV.out false hi.symm]; exact HT.out.setBad _, HB.out.setCell _ _⟩
        · have hi : inside j low high ⟨l, false⟩ = true := by rw [HI.out, decide_eq_true (by omega), decide_eq_true (by omega)]; rfl
          go_wp2_with fail
          go_ret2
          exact ⟨ret_num (by rw [HN.out, hi]; rfl) rfl, by rw [HV.out true hi.symm]; exact HT.out, HB.out⟩

theorem number_calls (b k : Nat) (low high : Int) (t : TK) (w : World) (ht : TP 114 w b t) (hk4 : k ≤ 4) :
    Calls Tryz.prog 108 #[.pointer (some ⟨b, 0, none⟩), .int .i64 k, .int .i64 low, .int .i64 high] w fun e w' => e = .returned (.tuple #[.int .i64 (numV k low high t : Nat), .bool (inside k low high t)]) ∧ TP 114 w' b (numS k low high t) ∧ But b w w' := by
  cases hg : good k t with
  | false =>
    refine (number_no b k low high t w ht hg).mono ?_
    rintro e w' ⟨rfl, hT, hB⟩
    have hi : inside k low high t = false := by unfold inside; rw [hg]; rfl
    refine ⟨?_, ?_, hB⟩
    · unfold numV; rw [hi]; rfl
    · unfold numS; unfold takeS at hT; rw [hg] at hT ⊢; exact hT
  | true =>
    obtain ⟨l, bad⟩ := t
    cases bad with
    | true => cases hg
    | false => exact number_yes b k low high l w ht (by simpa [good] using hg) hk4

theorem number2 (b : Nat) (low high : Int) (t : TK) (w : World) (ht : TP 114 w b t) :
    Calls Tryz.prog 108 #[.pointer (some ⟨b, 0, none⟩), .int .i64 2, .int .i64 low, .int .i64 high] w fun e w' => e = .returned (.tuple #[.int .i64 (numV 2 low high t : Nat), .bool (inside 2 low high t)]) ∧ TP 114 w' b (numS 2 low high t) ∧ But b w w' :=
  number_calls b 2 low high t w ht (by omega)
theorem number4 (b : Nat) (low high : Int) (t : TK) (w : World) (ht : TP 114 w b t) :
    Calls Tryz.prog 108 #[.pointer (some ⟨b, 0, none⟩), .int .i64 4, .int .i64 low, .int .i64 high] w fun e w' => e = .returned (.tuple #[.int .i64 (numV 4 low high t : Nat), .bool (inside 4 low high t)]) ∧ TP 114 w' b (numS 4 low high t) ∧ But b w w' :=
  number_calls b 4 low high t w ht (by omega)

set_option maxRecDepth 100000 in
set_option maxHeartbeats 1000000 in
theorem ttwo_calls (b : Nat) (low high : Int) (t : TK) (w : World) (ht : TP 114 w b t) :
    Calls Tryz.prog 83 #[.pointer (some ⟨b, 0, none⟩), .int .i64 low, .int .i64 high] w fun e w' => e = .returned (.int .i64 (numV 2 low high t : Nat)) ∧ TP 114 w' b (numS 2 low high t) ∧ But b w w' := by
  go_enter Tryz.func83, Tryz.ntmps83
  go_wp2_with fail
  (with_reducible refine (number2 b low high t _ ht).mono ?_)
  rintro e w1 ⟨rfl, hT, hB⟩
  have HT := Lib.hid hT
  have HB := Lib.hid hB
  clear ht hT hB
  go_wp2_with fail
  go_ret
  exact ⟨rfl, HT.out, HB.out⟩

set_option maxRecDepth 100000 in
set_option maxHeartbeats 1000000 in
theorem tfour_calls (b : Nat) (low high : Int) (t : TK) (w : World) (ht : TP 114 w b t) :
    Calls Tryz.prog 125 #[.pointer (some ⟨b, 0, none⟩), .int .i64 low, .int .i64 high] w fun e w' => e = .returned (.int .i64 (numV 4 low high t : Nat)) ∧ TP 114 w' b (numS 4 low high t) ∧ But b w w' := by
  go_enter Tryz.func125, Tryz.ntmps125
  go_wp2_with fail
  (with_reducible refine (number4 b low high t _ ht).mono ?_)
  rintro e w1 ⟨rfl, hT, hB⟩
  have HT := Lib.hid hT
  have HB := Lib.hid hB
  clear ht hT hB
  go_wp2_with fail
  go_ret
  exact ⟨rfl, HT.out, HB.out⟩

end Go.Proofs.YtnbbijpmkhdgpaaGreat.Wire

/- WMark -/
namespace Go.Proofs.YtnbbijpmkhdgpaaGreat.Wire
open Go.RowKit

theorem take_len (b : Nat) (m : List UInt8) (t : TK) (w : World) (ht : TP 114 w b t) :
    Calls Tryz.prog 107 #[.pointer (some ⟨b, 0, none⟩), .int .i64 ((strB m).size : Nat)] w fun e w' => e = .returned (.tuple #[.string (strB (takeV m.length t)), .bool (good m.length t)]) ∧ TP 114 w' b (takeS m.length t) ∧ But b w w' := by
  rw [strB_size]
  exact take_calls b m.length t w ht

set_option maxRecDepth 100000 in
set_option maxHeartbeats 1000000 in
theorem mark_no (b : Nat) (m : List UInt8) (t : TK) (w : World) (ht : TP 114 w b t) (hg : good m.length t = false) :
    Calls Tryz.prog 82 #[.pointer (some ⟨b, 0, none⟩), .string (strB m)] w fun e w' => e = .returned (.tuple #[]) ∧ TP 114 w' b (takeS m.length t) ∧ But b w w' := by
  go_enter Tryz.func82, Tryz.ntmps82
  go_wp2_with fail
  (with_reducible refine (take_len b m t _ ht).mono ?_)
  rintro e w1 ⟨rfl, hT, hB⟩
  have HT := Lib.hid hT
  have HB := Lib.hid hB
  clear ht hT hB
  go_wp2_with fail
  go_end0
  exact ⟨rfl, HT.out, HB.out⟩

set_option maxRecDepth 100000 in
set_option maxHeartbeats 1000000 in
theorem mark_yes (b : Nat) (m : List UInt8) (t : TK) (w : World) (ht : TP 114 w b t) (hg : good m.length t = true) (he : (strB (takeV m.length t)).toList == (strB m).toList) :
    Calls Tryz.prog 82 #[.pointer (some ⟨b, 0, none⟩), .string (strB m)] w fun e w' => e = .returned (.tuple #[]) ∧ TP 114 w' b (takeS m.length t) ∧ But b w w' := by
  go_enter Tryz.func82, Tryz.ntmps82
  go_wp2_with fail
  (with_reducible refine (take_len b m t _ ht).mono ?_)
  rintro e w1 ⟨rfl, hT, hB⟩
  have HT := Lib.hid hT
  have HB := Lib.hid hB
  clear ht hT hB
  go_wp2_with fail
  go_end0
  exact ⟨rfl, HT.out, HB.out⟩

set_option maxRecDepth 100000 in
set_option maxHeartbeats 1000000 in
theorem mark_other (b : Nat) (m : List UInt8) (t : TK) (w : World) (ht : TP 114 w b t) (hg : good m.length t = true) (he : ((strB (takeV m.length t)).toList == (strB m).toList) = false) :
    Calls Tryz.prog 82 #[.pointer (some ⟨b, 0, none⟩), .string (strB m)] w fun e w' => e = .returned (.tuple #[]) ∧ TP 114 w' b ⟨(takeS m.length t).rest, true⟩ ∧ But b w w' := by
  go_enter Tryz.func82, Tryz.ntmps82
  go_wp2_with fail
  (with_reducible refine (take_len b m t _ ht).mono ?_)
  rintro e w1 ⟨rfl, hT, hB⟩
  have c1 := hT.bad
  have f1 := hT.free 1
  have HT := Lib.hid hT
  have HB := Lib.hid hB
  clear ht hT hB
  go_wp2_with fail
  go_end0
  exact ⟨rfl, HT.out.setBad _, HB.out.setCell _ _⟩

theorem mark_calls (b : Nat) (m : List UInt8) (t : TK) (w : World) (ht : TP 114 w b t) :
    Calls Tryz.prog 82 #[.pointer (some ⟨b, 0, none⟩), .string (strB m)] w fun e w' => e = .returned (.tuple #[]) ∧ TP 114 w' b (markS m t) ∧ But b w w' := by
  cases hg : good m.length t with
  | false =>
    have e : markS m t = takeS m.length t := by unfold markS takeS; rw [hg]; rfl
    rw [e]
    exact mark_no b m t w ht hg
  | true =>
    have e1 : takeV m.length t = t.rest.take m.length := by unfold takeV; rw [hg]; rfl
    have e2 : takeS m.length t = ⟨t.rest.drop m.length, false⟩ := by unfold takeS; rw [hg]; rfl
    have e3 : markS m t = ⟨t.rest.drop m.length, !(t.rest.take m.length == m)⟩ := by unfold markS; rw [hg]; rfl
    cases he : (t.rest.take m.length == m) with
    | true =>
      have h := mark_yes b m t w ht hg (by rw [e1, strB_toList, strB_toList]; exact he)
      rw [e2] at h
      rw [e3, he]
      exact h
    | false =>
      have h := mark_other b m t w ht hg (by rw [e1, strB_toList, strB_toList]; exact he)
      rw [e2] at h
      rw [e3, he]
      exact h

end Go.Proofs.YtnbbijpmkhdgpaaGreat.Wire

/- WBack -/
namespace Go.Proofs.YtnbbijpmkhdgpaaGreat.Wire
open Go.RowKit

theorem take_app (a r : List UInt8) (k : Nat) (h : a.length = k) : (a ++ r).take k = a := by subst h; exact List.take_left
theorem drop_app (a r : List UInt8) (k : Nat) (h : a.length = k) : (a ++ r).drop k = r := by subst h; exact List.drop_left
theorem good_app (a r : List UInt8) (k : Nat) (h : a.length = k) : good k ⟨a ++ r, false⟩ = true := good_yes (by simp; omega)

theorem inside_app (a r : List UInt8) (k : Nat) (low high : Int) (h : a.length = k) : inside k low high ⟨a ++ r, false⟩ = (decide (low ≤ (numL a : Int)) && decide ((numL a : Int) ≤ high)) := by
  unfold inside
  rw [good_app a r k h, Bool.true_and]
  show (decide (low ≤ (numL ((a ++ r).take k) : Int)) && _) = _
  rw [take_app a r k h]

theorem numV_app (a r : List UInt8) (k : Nat) (low high : Int) (h : a.length = k) (h1 : low ≤ (numL a : Int)) (h2 : (numL a : Int) ≤ high) : numV k low high ⟨a ++ r, false⟩ = numL a := by
  unfold numV
  rw [inside_app a r k low high h, decide_eq_true h1, decide_eq_true h2]
  show numL ((a ++ r).take k) = _
  rw [take_app a r k h]
theorem numS_app (a r : List UInt8) (k : Nat) (low high : Int) (h : a.length = k) (h1 : low ≤ (numL a : Int)) (h2 : (numL a : Int) ≤ high) : numS k low high ⟨a ++ r, false⟩ = ⟨r, false⟩ := by
  unfold numS
  rw [inside_app a r k low high h, decide_eq_true h1, decide_eq_true h2, good_app a r k h]
  show TK.mk ((a ++ r).drop k) false = _
  rw [drop_app a r k h]

theorem num_two (n : Nat) (h : n < 65536) : numL (twoL (n : Nat)) = n := by
  have := numL_twoL n
  omega
theorem num_four (n : Nat) (h : n < 4294967296) : numL (fourL (n : Nat)) = n := by
  have := numL_fourL n
  omega

theorem textL_is (l : List UInt8) (h : l.length ≤ 65535) : textL l = twoL (l.length : Nat) ++ l := by
  unfold textL
  rw [List.take_of_length_le h, show min l.length 65535 = l.length by omega]

theorem txt_app (l r : List UInt8) (most : Int) (h : l.length ≤ 65535) (hm : (l.length : Int) ≤ most) : txtV most ⟨textL l ++ r, false⟩ = l ∧ txtS most ⟨textL l ++ r, false⟩ = ⟨r, false⟩ := by
  have hn := num_two l.length (by omega)
  have i1 : inside 2 0 most ⟨twoL (l.length : Nat) ++ (l ++ r), false⟩ = true := by
    rw [inside_app _ _ 2 0 most rfl, hn, decide_eq_true (by omega), decide_eq_true hm]; rfl
  have i2 := numV_app (twoL (l.length : Nat)) (l ++ r) 2 0 most rfl (by omega) (by rw [hn]; exact hm)
  have i3 := numS_app (twoL (l.length : Nat)) (l ++ r) 2 0 most rfl (by omega) (by rw [hn]; exact hm)
  rw [hn] at i2
  rw [textL_is l h, List.append_assoc]
  unfold txtV txtS
  rw [i1, i2, i3, if_pos rfl, if_pos rfl]
  unfold takeV takeS
  rw [good_app l r l.length rfl, if_pos rfl, if_pos rfl]
  exact ⟨take_app l r _ rfl, by show TK.mk ((l ++ r).drop l.length) false = _; rw [drop_app l r _ rfl]⟩

theorem txt_less (l : List UInt8) (h : l.length ≤ 65535) : txtV ((l.length : Int) - 1) ⟨textL l, false⟩ = [] ∧ txtS ((l.length : Int) - 1) ⟨textL l, false⟩ = ⟨l, true⟩ := by
  have hn := num_two l.length (by omega)
  have i1 : inside 2 0 ((l.length : Int) - 1) ⟨twoL (l.length : Nat) ++ l, false⟩ = false := by
    rw [inside_app _ _ 2 0 _ rfl, hn, decide_eq_false (p := (l.length : Int) ≤ (l.length : Int) - 1) (by omega), Bool.and_false]
  rw [textL_is l h]
  unfold txtV txtS
  rw [i1]
  refine ⟨rfl, ?_⟩
  show numS 2 0 ((l.length : Int) - 1) ⟨twoL (l.length : Nat) ++ l, false⟩ = _
  unfold numS
  rw [i1, good_app _ _ 2 rfl]
  rfl

end Go.Proofs.YtnbbijpmkhdgpaaGreat.Wire

/- CPlain -/
/- The sum of bytes as plain mathematics: the register, its steps, and that up to four other bytes side by side turn it. No statement is proved here. -/
namespace Go.Proofs.YtnbbijpmkhdgpaaGreat.Crc

/-- One step down. -/
def dn (n : Nat) : Nat := if n % 2 = 1 then n / 2 ^^^ 2197175160 else n / 2

def dnK : Nat → Nat → Nat
  | 0, n => n
  | k + 1, n => dnK k (dn n)

theorem dnK_add (j k n : Nat) : dnK (j + k) n = dnK k (dnK j n) := by
  induction j generalizing n with
  | zero => rw [Nat.zero_add]; rfl
  | succ j ih => rw [Nat.succ_add]; exact ih (dn n)

theorem dnK_succ (k n : Nat) : dnK (k + 1) n = dn (dnK k n) := dnK_add k 1 n

theorem dn_lt {n : Nat} (h : n < 4294967296) : dn n < 4294967296 := by
  unfold dn
  split
  · exact Nat.xor_lt_two_pow (n := 32) (by omega) (by omega)
  · omega

theorem dnK_lt (k : Nat) {n : Nat} (h : n < 4294967296) : dnK k n < 4294967296 := by
  induction k generalizing n with
  | zero => exact h
  | succ k ih => exact ih (dn_lt h)

theorem xor_half (a b : Nat) : (a ^^^ b) / 2 = a / 2 ^^^ b / 2 := by
  apply Nat.eq_of_testBit_eq
  intro i
  rw [Nat.testBit_xor, ← Nat.testBit_succ, ← Nat.testBit_succ, ← Nat.testBit_succ, Nat.testBit_xor]

theorem xor_odd (a b : Nat) : (a ^^^ b) % 2 = (a + b) % 2 := by
  have h := Nat.testBit_xor (x := a) (y := b) (i := 0)
  rw [Nat.testBit_zero, Nat.testBit_zero, Nat.testBit_zero] at h
  have h1 : a % 2 = 0 ∨ a % 2 = 1 := by omega
  have h2 : b % 2 = 0 ∨ b % 2 = 1 := by omega
  have h3 : (a ^^^ b) % 2 = 0 ∨ (a ^^^ b) % 2 = 1 := by omega
  rcases h1 with h1 | h1 <;> rcases h2 with h2 | h2 <;> rcases h3 with h3 | h3 <;> simp [h1, h2, h3] at h <;> omega

theorem dn_xor (a b : Nat) : dn (a ^^^ b) = dn a ^^^ dn b := by
  unfold dn
  rw [xor_half, xor_odd]
  have h1 : a % 2 = 0 ∨ a % 2 = 1 := by omega
  have h2 : b % 2 = 0 ∨ b % 2 = 1 := by omega
  rcases h1 with h1 | h1 <;> rcases h2 with h2 | h2
  · rw [if_neg (by omega), if_neg (by omega), if_neg (by omega)]
  · rw [if_pos (by omega), if_neg (by omega), if_pos (by omega), Nat.xor_assoc]
  · rw [if_pos (by omega), if_pos (by omega), if_neg (by omega), Nat.xor_assoc, Nat.xor_assoc, Nat.xor_comm (b / 2)]
  · rw [if_neg (by omega), if_pos (by omega), if_pos (by omega), Nat.xor_assoc, Nat.xor_comm 2197175160, Nat.xor_assoc, Nat.xor_self, Nat.xor_zero]

theorem dnK_xor (k a b : Nat) : dnK k (a ^^^ b) = dnK k a ^^^ dnK k b := by
  induction k generalizing a b with
  | zero => rfl
  | succ k ih => show dnK k (dn (a ^^^ b)) = _; rw [dn_xor]; exact ih _ _

theorem dn_double (n : Nat) : dn (2 * n) = n := by
  unfold dn
  rw [if_neg (by omega)]; omega

theorem dnK_up (k n : Nat) : dnK k (2 ^ k * n) = n := by
  induction k generalizing n with
  | zero => simp [dnK]
  | succ k ih =>
    show dnK k (dn (2 ^ (k + 1) * n)) = n
    rw [show 2 ^ (k + 1) * n = 2 * (2 ^ k * n) by rw [Nat.pow_succ, Nat.mul_comm (2 ^ k) 2, Nat.mul_assoc], dn_double]
    exact ih n

theorem dnK_zero (k : Nat) : dnK k 0 = 0 := by
  have := dnK_up k 0
  simpa using this

theorem xor_eq_zero {a b : Nat} (h : a ^^^ b = 0) : a = b := by
  have := congrArg (· ^^^ b) h
  simpa [Nat.xor_assoc, Nat.xor_self] using this

theorem dn_none {n : Nat} (h : n < 4294967296) (h0 : dn n = 0) : n = 0 := by
  unfold dn at h0
  split at h0
  · have := xor_eq_zero h0; omega
  · omega

theorem dnK_none (k : Nat) {n : Nat} (h : n < 4294967296) (h0 : dnK k n = 0) : n = 0 := by
  induction k generalizing n with
  | zero => exact h0
  | succ k ih => exact dn_none h (ih (dn_lt h) h0)

theorem dnK_inj (k : Nat) {a b : Nat} (ha : a < 4294967296) (hb : b < 4294967296) (h : dnK k a = dnK k b) : a = b := by
  apply xor_eq_zero
  apply dnK_none k (Nat.xor_lt_two_pow (n := 32) ha hb)
  rw [dnK_xor, h, Nat.xor_self]

/-- A number is its upper bits and its lower ones. -/
theorem xor_parts (k a b : Nat) (h : b < 2 ^ k) : b ^^^ 2 ^ k * a = b + 2 ^ k * a := by
  apply Nat.eq_of_testBit_eq
  intro i
  rw [Nat.add_comm, Nat.testBit_two_pow_mul_add a h, Nat.testBit_xor, Nat.testBit_two_pow_mul]
  by_cases hi : i < k
  · rw [if_pos hi, decide_eq_false (by omega)]; simp
  · have : b.testBit i = false := Nat.testBit_lt_two_pow (Nat.lt_of_lt_of_le h (Nat.pow_le_pow_right (by omega) (by omega)))
    rw [if_neg hi, decide_eq_true (by omega), this]; simp

theorem nibble (n : Nat) : n / 16 ^^^ dnK 4 (n % 16) = dnK 4 n := by
  have h : n % 16 ^^^ 2 ^ 4 * (n / 16) = n := by rw [xor_parts 4 _ _ (by omega)]; omega
  have h2 : dnK 4 (n % 16 ^^^ 2 ^ 4 * (n / 16)) = dnK 4 n := by rw [h]
  rw [dnK_xor, dnK_up] at h2
  rw [Nat.xor_comm]; exact h2

/-- A byte goes into the register. -/
def feed (n c : Nat) : Nat := dnK 8 (n ^^^ c)

def reg (n : Nat) (l : List UInt8) : Nat := l.foldl (fun n c => feed n c.toNat) n

theorem reg_app (n : Nat) (l m : List UInt8) : reg n (l ++ m) = reg (reg n l) m := List.foldl_append ..

theorem feed_lt {n c : Nat} (h : n < 4294967296) (hc : c < 256) : feed n c < 4294967296 :=
  dnK_lt 8 (Nat.xor_lt_two_pow (n := 32) h (by omega))

theorem reg_lt {n : Nat} (l : List UInt8) (h : n < 4294967296) : reg n l < 4294967296 := by
  induction l generalizing n with
  | nil => exact h
  | cons c l ih => exact ih (feed_lt h c.toNat_lt)

/-- The bytes as one number, the first one lowest. -/
def wordL : List UInt8 → Nat
  | [] => 0
  | c :: l => c.toNat ^^^ 2 ^ 8 * wordL l

theorem reg_word (n : Nat) (l : List UInt8) : reg n l = dnK (8 * l.length) (n ^^^ wordL l) := by
  induction l generalizing n with
  | nil => simp [reg, wordL, dnK]
  | cons c l ih =>
    show reg (feed n c.toNat) l = _
    rw [ih, List.length_cons, show 8 * (l.length + 1) = 8 + 8 * l.length by omega, dnK_add]
    have : feed n c.toNat ^^^ wordL l = dnK 8 (n ^^^ wordL (c :: l)) := by
      unfold feed
      have e : wordL l = dnK 8 (2 ^ 8 * wordL l) := (dnK_up 8 _).symm
      rw [e, ← dnK_xor, Nat.xor_assoc]
      rfl
    rw [this]

theorem wordL_cons (c : UInt8) (l : List UInt8) : wordL (c :: l) = c.toNat + 2 ^ 8 * wordL l := xor_parts 8 _ _ c.toNat_lt

theorem wordL_none {l : List UInt8} (h : wordL l = 0) : ∀ c ∈ l, c = 0 := by
  induction l with
  | nil => simp
  | cons c l ih =>
    rw [wordL_cons] at h
    have h1 : c.toNat = 0 := by omega
    have h2 : wordL l = 0 := by omega
    intro d hd
    rcases List.mem_cons.1 hd with rfl | hd
    · exact UInt8.toNat_inj.1 h1
    · exact ih h2 d hd

theorem wordL_zeros {l : List UInt8} (h : ∀ c ∈ l, c = 0) : wordL l = 0 := by
  induction l with
  | nil => rfl
  | cons c l ih => rw [wordL_cons, h c (by simp), ih (fun d hd => h d (by simp [hd]))]; rfl

theorem wordL_lt (l : List UInt8) : wordL l < 2 ^ (8 * l.length) := by
  induction l with
  | nil => simp [wordL]
  | cons c l ih =>
    rw [wordL_cons, List.length_cons, show 8 * (l.length + 1) = 8 * l.length + 8 by omega, Nat.pow_add]
    have := c.toNat_lt
    omega

theorem wordL_lt4 {l : List UInt8} (h : l.length ≤ 4) : wordL l < 4294967296 := by
  have h1 := wordL_lt l
  have h2 : 2 ^ (8 * l.length) ≤ 2 ^ 32 := Nat.pow_le_pow_right (by omega) (by omega)
  exact Nat.lt_of_lt_of_le h1 (by simpa using h2)

/-- The sum. -/
def crcN (l : List UInt8) : Nat := 4294967295 ^^^ reg 4294967295 l

theorem crcN_lt (l : List UInt8) : crcN l < 4294967296 := Nat.xor_lt_two_pow (n := 32) (by omega) (reg_lt l (by omega))

/-- A number in four bytes, the lowest first. -/
def tailB (n : Nat) : List UInt8 := [UInt8.ofNat n, UInt8.ofNat (n / 256), UInt8.ofNat (n / 65536), UInt8.ofNat (n / 16777216)]

theorem toNat_ofNat8 (n : Nat) : (UInt8.ofNat n).toNat = n % 256 := by simp

theorem wordL_tail {n : Nat} (h : n < 4294967296) : wordL (tailB n) = n := by
  unfold tailB
  rw [wordL_cons, wordL_cons, wordL_cons, wordL_cons]
  simp only [toNat_ofNat8, wordL]
  omega

theorem wordL_inj {l m : List UInt8} (hl : l.length = m.length) (h : wordL l = wordL m) : l = m := by
  induction l generalizing m with
  | nil => cases m with
    | nil => rfl
    | cons _ _ => cases hl
  | cons c l ih => cases m with
    | nil => cases hl
    | cons d m =>
      rw [wordL_cons, wordL_cons] at h
      have := c.toNat_lt
      have := d.toNat_lt
      rw [UInt8.toNat_inj.1 (show c.toNat = d.toNat by omega), ih (by simpa using hl) (by omega)]

def sealB (l : List UInt8) : List UInt8 := l ++ tailB (crcN l)

theorem tailB_len (n : Nat) : (tailB n).length = 4 := rfl

theorem sealB_len (l : List UInt8) : (sealB l).length = l.length + 4 := by simp [sealB, tailB_len]

/-- What is sealed, in one equation. -/
def full : Nat := dnK 32 4294967295

theorem reg_four (n : Nat) (hn : n < 4294967296) (t : List UInt8) (ht : t.length = 4) : reg n t = full ↔ t = tailB (4294967295 ^^^ n) := by
  have hx : 4294967295 ^^^ n < 4294967296 := Nat.xor_lt_two_pow (n := 32) (by omega) hn
  rw [reg_word, ht]
  constructor
  · intro h
    have e := dnK_inj (8 * 4) (Nat.xor_lt_two_pow (n := 32) hn (wordL_lt4 (by omega))) (by omega) h
    apply wordL_inj (by rw [ht, tailB_len])
    rw [wordL_tail hx, ← e, Nat.xor_comm n, Nat.xor_assoc, Nat.xor_self, Nat.xor_zero]
  · rintro rfl
    rw [wordL_tail hx, Nat.xor_comm, Nat.xor_assoc, Nat.xor_self, Nat.xor_zero]
    rfl

/-- Whether bytes are sealed ones. -/
def opens (l : List UInt8) : Bool := decide (4 ≤ l.length) && decide (l.drop (l.length - 4) = tailB (crcN (l.take (l.length - 4))))

theorem opens_iff (l : List UInt8) (h : 4 ≤ l.length) : opens l = true ↔ reg 4294967295 l = full := by
  have e : reg 4294967295 l = reg (reg 4294967295 (l.take (l.length - 4))) (l.drop (l.length - 4)) := by rw [← reg_app, List.take_append_drop]
  rw [e, reg_four _ (reg_lt _ (by omega)) _ (by simp; omega)]
  unfold opens crcN
  rw [decide_eq_true h, Bool.true_and, decide_eq_true_iff]

theorem opens_seal (l : List UInt8) : opens (sealB l) = true := by
  have h1 : (sealB l).length - 4 = l.length := by rw [sealB_len]; omega
  unfold opens
  rw [h1, sealB_len]
  simp [sealB]

theorem sealB_take (l : List UInt8) : (sealB l).take ((sealB l).length - 4) = l := by
  rw [sealB_len, Nat.add_sub_cancel]; simp [sealB]

/-- Only what is sealed opens. -/
theorem opens_is (l : List UInt8) (h : opens l = true) : sealB (l.take (l.length - 4)) = l := by
  simp [opens] at h
  unfold sealB
  rw [← h.2, List.take_append_drop]

theorem sealB_inj {l m : List UInt8} (h : sealB l = sealB m) : l = m := by
  have := congrArg (fun x : List UInt8 => x.take (x.length - 4)) h
  simpa only [sealB_take] using this

/-- Bytes with others laid over them. -/
def over : List UInt8 → List UInt8 → List UInt8
  | a :: l, b :: m => (a ^^^ b) :: over l m
  | l, [] => l
  | [], _ => []

theorem xor_rot (a b c d : Nat) : (a ^^^ b) ^^^ (c ^^^ d) = (a ^^^ c) ^^^ (b ^^^ d) := by
  rw [Nat.xor_assoc, Nat.xor_assoc, ← Nat.xor_assoc b, ← Nat.xor_assoc c, Nat.xor_comm b c]

theorem feed_xor (n m c d : Nat) : feed (n ^^^ m) (c ^^^ d) = feed n c ^^^ feed m d := by
  unfold feed; rw [xor_rot, dnK_xor]

theorem reg_over (l e : List UInt8) (h : l.length = e.length) (n m : Nat) : reg (n ^^^ m) (over l e) = reg n l ^^^ reg m e := by
  induction l generalizing e n m with
  | nil => cases e with
    | nil => rfl
    | cons _ _ => cases h
  | cons a l ih => cases e with
    | nil => cases h
    | cons b e =>
      show reg (feed (n ^^^ m) (a ^^^ b).toNat) (over l e) = _
      rw [UInt8.toNat_xor, feed_xor]
      exact ih e (by simpa using h) _ _

def zeros (k : Nat) : List UInt8 := List.replicate k 0

theorem reg_zeros (n k : Nat) : reg n (zeros k) = dnK (8 * k) n := by
  unfold zeros
  rw [reg_word, wordL_zeros (fun c hc => (List.mem_replicate.1 hc).2), Nat.xor_zero, List.length_replicate]

/-- What four bytes side by side at most, with noughts about them, leave in the register. -/
theorem reg_burst (k j : Nat) (f : List UInt8) (hf : f.length ≤ 4) : reg 0 (zeros k ++ f ++ zeros j) = 0 ↔ ∀ c ∈ f, c = 0 := by
  rw [reg_app, reg_app, reg_zeros, reg_zeros, dnK_zero, reg_word, Nat.zero_xor]
  constructor
  · intro h
    exact wordL_none (dnK_none _ (wordL_lt4 hf) (dnK_none _ (dnK_lt _ (wordL_lt4 hf)) h))
  · intro h
    rw [wordL_zeros h, dnK_zero, dnK_zero]

/-- Up to four other bytes side by side, anywhere, are told. -/
theorem burst (l : List UInt8) (k j : Nat) (f : List UInt8) (hf : f.length ≤ 4) (hl : l.length = k + f.length + j) (h4 : 4 ≤ l.length) (ho : opens l = true) :
    opens (over l (zeros k ++ f ++ zeros j)) = true ↔ ∀ c ∈ f, c = 0 := by
  have hlen : l.length = (zeros k ++ f ++ zeros j).length := by simp [zeros]; omega
  have ol : ∀ (l e : List UInt8), l.length = e.length → (over l e).length = l.length := by
    intro l
    induction l with
    | nil => intro e h; cases e with
      | nil => rfl
      | cons _ _ => cases h
    | cons a l ih => intro e h; cases e with
      | nil => cases h
      | cons b e => simp [over]; exact ih e (by simpa using h)
  rw [opens_iff _ (by rw [ol _ _ hlen]; exact h4)]
  rw [opens_iff l h4] at ho
  have e := reg_over l _ hlen 4294967295 0
  rw [Nat.xor_zero, ho] at e
  rw [e, ← reg_burst k j f hf]
  constructor
  · intro h
    have := congrArg (full ^^^ ·) h
    simpa [← Nat.xor_assoc, Nat.xor_self] using this
  · intro h; rw [h, Nat.xor_zero]

theorem crc_example : crcN [49, 50, 51, 52, 53, 54, 55, 56, 57] = 3808858755 := by decide +kernel
theorem crc_empty : crcN [] = 0 := by decide +kernel

end Go.Proofs.YtnbbijpmkhdgpaaGreat.Crc

/- CFour -/
namespace Go.Proofs.YtnbbijpmkhdgpaaGreat.Crc
open Go.RowKit

theorem low_bit (x : Nat) (h : x < 4294967296) : bits .and .u32 (x : Int) 1 = ((x % 2 : Nat) : Int) := by
  have := u32_and_nat x 1 h (by omega)
  rw [Nat.and_one_is_mod] at this
  exact this

theorem xor_u32 (x y : Nat) (h : x < 4294967296) (hy : y < 4294967296) : bits .xor .u32 (x : Int) (y : Int) = ((x ^^^ y : Nat) : Int) := u32_xor_nat x y h hy

theorem xor_byte (x : Nat) (c : UInt8) (h : x < 4294967296) : bits .xor .u32 (x : Int) ((c.toNat : Int) % 4294967296) = ((x ^^^ c.toNat : Nat) : Int) := by
  have hc := c.toNat_lt
  rw [show ((c.toNat : Int) % 4294967296) = (c.toNat : Int) by omega]
  exact xor_u32 x c.toNat h (by omega)

theorem dn_odd {x : Nat} (h : x < 4294967296) (hb : (bits .and .u32 (x : Int) 1 == 1) = true) : bits .xor .u32 ((x : Int) / 2) 2197175160 = (dn x : Nat) := by
  rw [low_bit x h] at hb
  have hb' : x % 2 = 1 := by have := beq_iff_eq.1 hb; omega
  have := xor_u32 (x / 2) 2197175160 (by omega) (by omega)
  unfold dn
  rw [if_pos hb', ← this]
  rfl

theorem dn_even {x : Nat} (h : x < 4294967296) (hb : (bits .and .u32 (x : Int) 1 == 1) = false) : (x : Int) / 2 = (dn x : Nat) := by
  rw [low_bit x h] at hb
  have hb' : ¬ x % 2 = 1 := by
    intro h1
    rw [h1] at hb
    cases hb
  unfold dn
  rw [if_neg hb']
  omega

set_option maxRecDepth 100000 in
set_option maxHeartbeats 400000 in
theorem four_calls (n : Nat) (w : World) (hn : n < 4294967296) :
    Calls Tryz.prog 128 #[.int .u32 n] w fun e w' => e = .returned (.int .u32 (dnK 4 n : Nat)) ∧ w = w' := by
  go_enter Tryz.func128, Tryz.ntmps128
  go_wp2
  go_loop [0, 4] (fun m k => ∃ j : Nat, j ≤ 4 ∧ k = .int .i64 j ∧ m = .int .u32 (dnK j n : Nat)) (fun _ k => 4 - (intOf k).toNat)
  case atStart => exact ⟨0, Nat.zero_le _, rfl, rfl⟩
  case round =>
    obtain ⟨j, hj, rfl, rfl⟩ := hrel
    have hlt := dnK_lt j hn
    by_cases h : j < 4
    · have HS : Hid (dnK (j + 1) n = dn (dnK j n)) := dnK_succ j n
      go_wp2
      all_goals
        go_round
        case rel => exact ⟨j + 1, by omega, by go_num, by rw [HS.out]; first | rw [dn_odd hlt (by assumption)] | rw [dn_even hlt (by assumption)]⟩
        case measure => simp [intOf]; omega
    · go_wp2
      go_ret
      obtain rfl : j = 4 := by omega
      exact ⟨rfl, rfl⟩

theorem take_snoc (s : ByteArray) (k : Nat) (h : k < s.size) : s.data.toList.take (k + 1) = s.data.toList.take k ++ [s[k]] := by
  rw [List.take_succ_eq_append_getElem (by simpa using h)]; rfl

theorem reg_snoc (n : Nat) (s : ByteArray) (k : Nat) (h : k < s.size) : reg n (s.data.toList.take (k + 1)) = dnK 8 (reg n (s.data.toList.take k) ^^^ s[k].toNat) := by
  rw [take_snoc s k h, reg_app]; rfl

theorem reg_all (n : Nat) (s : ByteArray) (k : Nat) (h : k = s.size) : reg n (s.data.toList.take k) = reg n s.data.toList := by
  rw [List.take_of_length_le (by simp; omega)]

theorem not_u32 (x : Nat) (h : x < 4294967296) : bits .xor .u32 IntKind.u32.max (x : Int) = ((4294967295 ^^^ x : Nat) : Int) := xor_u32 4294967295 x (by omega) h

theorem not_reg (s : ByteArray) (k : Nat) (h : k = s.size) : bits .xor .u32 IntKind.u32.max ((reg 4294967295 (s.data.toList.take k) : Nat) : Int) = (crcN s.data.toList : Nat) := by
  rw [reg_all _ s k h, not_u32 _ (reg_lt _ (by omega))]; rfl

end Go.Proofs.YtnbbijpmkhdgpaaGreat.Crc

/- CSync -/
namespace Go.Proofs.YtnbbijpmkhdgpaaGreat.Crc
open Go.RowKit

theorem disable (w : World) : (callFunc 143 #[]).run Tryz.prog w = .ok (.value (.tuple #[])) w := run_call_mark0 Tryz.func143 (by kernel_rfl) (by kernel_rfl) (by kernel_rfl) .disable (by kernel_rfl) w
theorem enable (w : World) : (callFunc 145 #[]).run Tryz.prog w = .ok (.value (.tuple #[])) w := run_call_mark0 Tryz.func145 (by kernel_rfl) (by kernel_rfl) (by kernel_rfl) .enable (by kernel_rfl) w
theorem acquire (a : Addr) (w : World) : (callFunc 146 #[.pointer (some a)]).run Tryz.prog w = .ok (.value (.tuple #[])) w := run_call_marked Tryz.func146 (by kernel_rfl) (by kernel_rfl) (by kernel_rfl) .acquire (by kernel_rfl) a w
theorem releaseMerge (a : Addr) (w : World) : (callFunc 148 #[.pointer (some a)]).run Tryz.prog w = .ok (.value (.tuple #[])) w := run_call_marked Tryz.func148 (by kernel_rfl) (by kernel_rfl) (by kernel_rfl) .releaseMerge (by kernel_rfl) a w

set_option maxRecDepth 100000 in
theorem store_deferred (a : Addr) (x : Value) (u : FrameMode) (w : World) (hc : w.cell? a = some x) (hz : w.frozen? a = false) :
    CallsD Tryz.prog 138 #[.pointer (some a), .bool true] u w fun e u' w' => u' = u ∧ (e = .returned (.tuple #[]) ∧ w' = w.drew.setCell a (.int .u32 1)) := by
  have hc' : w.drew.cell? a = some x := by go_simp
  have hz' : w.drew.frozen? a = false := by go_simp
  have hst := run_call_store (P := Tryz.prog) Tryz.func141 (by kernel_rfl) (by kernel_rfl) (by kernel_rfl) (by kernel_rfl) (k := .u32) (y := 1) hc' hz'
  go_enter_d Tryz.func138, Tryz.ntmps138
  go_wp2
  go_region_calls
  all_goals (go_end0; exact ⟨rfl, rfl⟩)

set_option maxRecDepth 100000 in
theorem unlock_deferred (a : Addr) (u : FrameMode) (w : World) (hc : w.cell? a = some (.int .i32 1)) (hz : w.frozen? a = false) :
    CallsD Tryz.prog 137 #[.pointer (some a)] u w fun e u' w' => u' = u ∧ (e = .returned (.tuple #[]) ∧ w' = w.setCell a (.int .i32 0)) := by
  have hd := disable
  have he := enable
  have hr := releaseMerge
  have hadd := run_call_add (P := Tryz.prog) Tryz.func149 (by kernel_rfl) (by kernel_rfl) (by kernel_rfl) .i32 (by kernel_rfl) (y := -1) (s := 0) hc hz (by simp [go_sem]; rfl)
  have hcv := run_convert_to_unsafe (P := Tryz.prog) (src := 185) (dst := 172) Tryz.underlying185 Tryz.underlying172 (by kernel_rfl) hc
  go_enter_d Tryz.func137, Tryz.ntmps137
  go_wp2
  go_end0
  go_wp2
  go_end0
  exact ⟨rfl, rfl⟩

set_option maxRecDepth 100000 in
theorem lock_free (a : Addr) (w : World) (hc : w.cell? a = some (.int .i32 0)) (hz : w.frozen? a = false) :
    Calls Tryz.prog 136 #[.pointer (some a)] w fun e w' => e = .returned (.tuple #[]) ∧ w' = w.setCell a (.int .i32 1) := by
  have hd := disable
  have he := enable
  have ha := acquire
  have hcas := run_call_cas_hit (P := Tryz.prog) Tryz.func144 (by kernel_rfl) (by kernel_rfl) (by kernel_rfl) .i32 (by kernel_rfl) (y := 1) hc hz
  have hc' : (w.setCell a (.int .i32 1)).cell? a = some (.int .i32 1) := World.cell?_setCell_same w a _ hc
  have hcv := run_convert_to_unsafe (P := Tryz.prog) (src := 185) (dst := 172) Tryz.underlying185 Tryz.underlying172 (by kernel_rfl) hc'
  go_enter Tryz.func136, Tryz.ntmps136
  go_wp2
  first | go_end0 | (simp only [Exit.inBlock, Exit.then]; refine bodyPost_ret (results_none rfl _ _ _) rfl ?_) | refine bodyPost_ret (results_none rfl _ _ _) rfl ?_
  go_wp2
  go_end0
  exact ⟨rfl, rfl⟩

/-- Nothing but block b has turned. -/
structure Only (b : Nat) (w w' : World) : Prop where
  os : w'.os = w.os
  tape : w'.tape = w.tape
  output : w'.output = w.output
  size : w'.heap.size = w.heap.size
  block : ∀ k, k ≠ b → w'.heap[k]? = w.heap[k]?

theorem Only.refl (b : Nat) (w : World) : Only b w w := ⟨rfl, rfl, rfl, rfl, fun _ _ => rfl⟩
theorem Only.trans {b : Nat} {u v w : World} (h : Only b u v) (k : Only b v w) : Only b u w :=
  ⟨k.os.trans h.os, k.tape.trans h.tape, k.output.trans h.output, k.size.trans h.size, fun i hi => (k.block i hi).trans (h.block i hi)⟩
theorem Only.drew {b : Nat} {u v : World} (h : Only b u v) : Only b u v.drew := ⟨h.os, h.tape, h.output, h.size, h.block⟩
theorem Only.setCell {b : Nat} {u v : World} (h : Only b u v) (a : Addr) (ha : a.block = b) (x : Value) : Only b u (v.setCell a x) :=
  h.trans ⟨rfl, rfl, rfl, by simp [World.setCell], fun k hk => Below.heap_setCell _ _ _ _ (by omega)⟩
theorem Only.below {b B : Nat} {w w' : World} (h : Only b w w') (hB : B ≤ b) : Below B w w' := ⟨h.os, h.tape, h.output, by rw [h.size]; exact Nat.le_refl _, fun k hk => h.block k (by omega)⟩
theorem Only.cell {b : Nat} {w w' : World} (h : Only b w w') {p : Addr} (hp : p.block ≠ b) : w'.cell? p = w.cell? p := World.cell?_of_block (w := w) (h.block p.block hp)
theorem Only.frozen {b : Nat} {w w' : World} (h : Only b w w') {p : Addr} (hp : p.block ≠ b) : w'.frozen? p = w.frozen? p := World.frozen?_of_block (w := w) (h.block p.block hp)

/-- The table in block b: its once's word, its lock's word, and its first k rows. -/
def TabK (w : World) (b : Nat) (d m : Int) (k : Nat) : Prop :=
  ∃ cur : Array Value, w.heap[b]? = some (.cells cur 169 (0, 0)) ∧ cur.size = 19 ∧ cur[0]? = some (.int .u32 d) ∧ cur[1]? = some (.int .i32 m) ∧ ∀ j, j < k → cur[3 + j]? = some (.int .u32 (dnK 4 j : Nat))

section
variable {w : World} {b : Nat} {d m : Int} {k : Nat}
theorem TabK.done (h : TabK w b d m k) : w.cell? ⟨b, 0, none⟩ = some (.int .u32 d) := by
  obtain ⟨cur, hb, _, h0, _⟩ := h
  rw [cell_of_row w b _ _ _ _ hb]; exact h0
theorem TabK.lock (h : TabK w b d m k) : w.cell? ⟨b, 1, none⟩ = some (.int .i32 m) := by
  obtain ⟨cur, hb, _, _, h0, _⟩ := h
  rw [cell_of_row w b _ _ _ _ hb]; exact h0
theorem TabK.row (h : TabK w b d m k) (j : Nat) (hj : j < k) : w.cell? ⟨b, 3 + j, none⟩ = some (.int .u32 (dnK 4 j : Nat)) := by
  obtain ⟨cur, hb, _, _, _, h0⟩ := h
  rw [cell_of_row w b _ _ _ _ hb]; exact h0 j hj
theorem TabK.some_ (h : TabK w b d m k) (i : Nat) (hi : i < 19) : ∃ v, w.cell? ⟨b, i, none⟩ = some v := by
  obtain ⟨cur, hb, hs, _⟩ := h
  rw [cell_of_row w b _ _ _ _ hb]; exact ⟨cur[i], by simp⟩
theorem TabK.free (h : TabK w b d m k) (i : Nat) : w.frozen? ⟨b, i, none⟩ = false := by
  obtain ⟨cur, hb, _⟩ := h
  simp [World.frozen?, hb]
theorem TabK.lt (h : TabK w b d m k) : b < w.heap.size := by
  obtain ⟨cur, hb, _⟩ := h
  exact (Array.getElem?_eq_some_iff.1 hb).1
theorem TabK.keep {w' : World} (h : TabK w b d m k) (e : w'.heap[b]? = w.heap[b]?) : TabK w' b d m k := by
  obtain ⟨cur, hb, r⟩ := h
  exact ⟨cur, e.trans hb, r⟩
theorem TabK.drew (h : TabK w b d m k) : TabK w.drew b d m k := h.keep rfl
theorem set_get {cur : Array Value} {i j : Nat} {x : Value} (hi : i < cur.size) : (cur.setIfInBounds i x)[j]? = if i = j then some x else cur[j]? := by
  rw [Array.getElem?_setIfInBounds]
  by_cases h : i = j
  · subst h; simp [hi]
  · simp [h]
theorem TabK.setRow (h : TabK w b d m k) (hk : k < 16) : TabK (w.setCell ⟨b, 3 + k, none⟩ (.int .u32 (dnK 4 k : Nat))) b d m (k + 1) := by
  obtain ⟨cur, hb, hs, h0, h1, hr⟩ := h
  refine ⟨_, heap_setCell_same w b _ cur 169 _ hb, by simpa using hs, ?_, ?_, fun j hj => ?_⟩
  · rw [set_get (by omega), if_neg (by omega)]; exact h0
  · rw [set_get (by omega), if_neg (by omega)]; exact h1
  · rw [set_get (by omega)]
    by_cases e : k = j
    · subst e; rw [if_pos rfl]
    · rw [if_neg (by omega)]; exact hr j (by omega)
theorem TabK.setDone (h : TabK w b d m k) (d' : Int) : TabK (w.setCell ⟨b, 0, none⟩ (.int .u32 d')) b d' m k := by
  obtain ⟨cur, hb, hs, h0, h1, hr⟩ := h
  refine ⟨_, heap_setCell_same w b _ cur 169 _ hb, by simpa using hs, ?_, ?_, fun j hj => ?_⟩
  · rw [set_get (by omega), if_pos rfl]
  · rw [set_get (by omega), if_neg (by omega)]; exact h1
  · rw [set_get (by omega), if_neg (by omega)]; exact hr j hj
theorem TabK.setLock (h : TabK w b d m k) (m' : Int) : TabK (w.setCell ⟨b, 1, none⟩ (.int .i32 m')) b d m' k := by
  obtain ⟨cur, hb, hs, h0, h1, hr⟩ := h
  refine ⟨_, heap_setCell_same w b _ cur 169 _ hb, by simpa using hs, ?_, ?_, fun j hj => ?_⟩
  · rw [set_get (by omega), if_neg (by omega)]; exact h0
  · rw [set_get (by omega), if_pos rfl]
  · rw [set_get (by omega), if_neg (by omega)]; exact hr j hj
end
end Go.Proofs.YtnbbijpmkhdgpaaGreat.Crc
