/- Contracts and plain mathematics that the statement's proof wants: no statement is proved here, nothing is assumed. -/
import Derived.Test.YtnbbijpmkhdgpaaGreatRows
import Derived.WalkKit
import Derived.Laws.BitsAllLaws
import Derived.Lib.Hide
import Derived.Laws.BytesArg
/- Str -/
namespace Go.Proofs.YtnbbijpmkhdgpaaGreat
open Go.RowKit

/-- Bytes as a string's. -/
def strB (l : List UInt8) : ByteArray := ⟨l.toArray⟩

theorem strB_size (l : List UInt8) : (strB l).size = l.length := by simp [strB, ByteArray.size]
theorem strB_data (l : List UInt8) : (strB l).data.toList = l := rfl
theorem strB_of (s : ByteArray) : strB s.data.toList = s := by cases s; rfl
theorem strB_toList (l : List UInt8) : (strB l).toList = l := by rw [ByteArray.toList_eq]; rfl
theorem len_data (s : ByteArray) : s.data.toList.length = s.size := by simp
theorem strB_append (l m : List UInt8) : strB l ++ strB m = strB (l ++ m) := by
  apply ByteArray.ext
  simp [strB]
theorem strB_extract (l : List UInt8) (a b : Nat) : (strB l).extract a b = strB ((l.take b).drop a) := by
  apply ByteArray.ext
  apply Array.toList_inj.1
  simp [strB, List.extract_eq_take_drop, List.drop_take]

theorem ret_bool {a b : Bool} (h : a = b) : Ending.returned (.bool a) = .returned (.bool b) := by rw [h]
theorem ret_str {a b : ByteArray} (h : a = b) : Ending.returned (.string a) = .returned (.string b) := by rw [h]
theorem ret_int {k : IntKind} {a b : Int} (h : a = b) : Ending.returned (.int k a) = .returned (.int k b) := by rw [h]
theorem below_two {a b c : World} (h : Below a.heap.size a b) (k : Below b.heap.size b c) : Below a.heap.size a c := h.trans (k.mono h.size)
theorem below_trans' {a b c : World} (h : Below a.heap.size a b) (k : Below b.heap.size b c) : Below a.heap.size a c := h.trans (k.mono h.size)
theorem below_one (w : World) (a : Obj) : Below w.heap.size w (w.alloc a) := (Below.refl _ _).alloc (Nat.le_refl _) _
theorem bdrew {B : Nat} {a w : World} (h : Below B a w) : Below B a w.drew := ⟨h.os, h.tape, h.output, h.size, h.block⟩
end Go.Proofs.YtnbbijpmkhdgpaaGreat

/- WPlain -/
namespace Go.Proofs.YtnbbijpmkhdgpaaGreat.Wire
open Go.RowKit

/-- A number's lowest byte. -/
def b8 (n : Int) : UInt8 := UInt8.ofNat (n % 256).toNat
def twoL (n : Int) : List UInt8 := [b8 (n / 256), b8 n]
def fourL (n : Int) : List UInt8 := twoL (n / 65536) ++ twoL n
def textL (l : List UInt8) : List UInt8 := twoL (min l.length 65535 : Nat) ++ l.take 65535

theorem twoL_len (n : Int) : (twoL n).length = 2 := rfl
theorem fourL_len (n : Int) : (fourL n).length = 4 := rfl
theorem textL_len (l : List UInt8) : (textL l).length = min l.length 65535 + 2 := by
  simp only [textL, List.length_append, twoL_len, List.length_take]; omega

theorem b8_toNat (n : Int) : (b8 n).toNat = (n % 256).toNat := by
  unfold b8
  rw [UInt8.toNat_ofNat']
  omega

/-- The number of so many bytes. -/
def numL (l : List UInt8) : Nat := l.foldl (fun n b => n * 256 + b.toNat) 0

theorem numL_two (a b : UInt8) : numL [a, b] = a.toNat * 256 + b.toNat := by simp [numL]
theorem numL_four (a b c d : UInt8) : numL [a, b, c, d] = ((a.toNat * 256 + b.toNat) * 256 + c.toNat) * 256 + d.toNat := by simp [numL]
theorem numL_snoc (l : List UInt8) (b : UInt8) : numL (l ++ [b]) = numL l * 256 + b.toNat := by simp [numL]
theorem numL_lt (l : List UInt8) : numL l < 256 ^ l.length := by
  suffices ∀ n, l.foldl (fun n b => n * 256 + b.toNat) n < (n + 1) * 256 ^ l.length by simpa [numL] using this 0
  induction l with
  | nil => intro n; simp
  | cons a l ih =>
    intro n
    have h := ih (n * 256 + a.toNat)
    have ha := a.toNat_lt
    simp only [List.foldl_cons, List.length_cons]
    refine Nat.lt_of_lt_of_le h ?_
    rw [Nat.pow_succ, Nat.mul_comm (256 ^ l.length) 256, ← Nat.mul_assoc]
    exact Nat.mul_le_mul_right _ (by omega)

theorem numL_twoL (n : Int) : (numL (twoL n) : Int) = n % 65536 := by
  unfold twoL
  rw [numL_two, b8_toNat, b8_toNat]
  omega
theorem numL_fourL (n : Int) : (numL (fourL n) : Int) = n % 4294967296 := by
  show (numL [b8 (n / 65536 / 256), b8 (n / 65536), b8 (n / 256), b8 n] : Int) = _
  rw [numL_four, b8_toNat, b8_toNat, b8_toNat, b8_toNat]
  omega

/-- A tape: what is left, and whether something went wrong. -/
structure TK where
  rest : List UInt8
  bad : Bool

def good (k : Nat) (t : TK) : Bool := !t.bad && decide (k ≤ t.rest.length)
def takeS (k : Nat) (t : TK) : TK := if good k t then ⟨t.rest.drop k, false⟩ else ⟨t.rest, true⟩
def takeV (k : Nat) (t : TK) : List UInt8 := if good k t then t.rest.take k else []
def inside (k : Nat) (low high : Int) (t : TK) : Bool := good k t && (decide (low ≤ (numL (t.rest.take k) : Int)) && decide ((numL (t.rest.take k) : Int) ≤ high))
def numV (k : Nat) (low high : Int) (t : TK) : Nat := if inside k low high t then numL (t.rest.take k) else 0
def numS (k : Nat) (low high : Int) (t : TK) : TK := if good k t then ⟨t.rest.drop k, !inside k low high t⟩ else ⟨t.rest, true⟩
def txtV (most : Int) (t : TK) : List UInt8 := if inside 2 0 most t then takeV (numV 2 0 most t) (numS 2 0 most t) else []
def txtS (most : Int) (t : TK) : TK := if inside 2 0 most t then takeS (numV 2 0 most t) (numS 2 0 most t) else numS 2 0 most t
def markS (m : List UInt8) (t : TK) : TK := if good m.length t then ⟨t.rest.drop m.length, !(t.rest.take m.length == m)⟩ else ⟨t.rest, true⟩
def doneV (t : TK) : Bool := !t.bad && (t.rest == [])

theorem numV_lt (k : Nat) (low high : Int) (t : TK) : numV k low high t < 256 ^ k := by
  unfold numV
  split
  · refine Nat.lt_of_lt_of_le (numL_lt _) (Nat.pow_le_pow_right (by omega) (by simp; omega))
  · exact Nat.pow_pos (by omega)

end Go.Proofs.YtnbbijpmkhdgpaaGreat.Wire

/- WWr -/
namespace Go.Proofs.YtnbbijpmkhdgpaaGreat.Wire
open Go.RowKit

theorem nums_two (n : Int) : strOfNums [n / 256 % 256, n % 256] = strB (twoL n) := by
  unfold strOfNums strB twoL b8
  simp only [List.map_cons, List.map_nil]

theorem conv2 (n : Int) (w1 : World) :
    Sem.run Tryz.prog (convert 76 9 (.slice (some ⟨w1.heap.size, 0, none⟩) 2 2)) (w1.alloc (.cells #[.int .u8 (n / 256 % 256), .int .u8 (n % 256)] 5)) =
      .ok (.string (strB (twoL n))) (w1.alloc (.cells #[.int .u8 (n / 256 % 256), .int .u8 (n % 256)] 5)) := by
  rw [← nums_two n]
  refine run_convert_bytes_arg _ 76 5 Tryz.underlying76 Tryz.underlying5 w1.heap.size 0 2 2 _ rfl ?_ 9 Tryz.underlying9
  intro i hi
  rw [cell_of_row _ _ _ _ _ _ (heap_alloc_new w1 _)]
  have : i = 0 ∨ i = 1 := by omega
  rcases this with rfl | rfl <;> rfl

set_option maxRecDepth 100000 in
set_option maxHeartbeats 1000000 in
theorem two_calls (n : Int) (w : World) :
    Calls Tryz.prog 65 #[.int .i64 n] w fun e w' => e = .returned (.string (strB (twoL n))) ∧ Below w.heap.size w w' := by
  have hcv := conv2 n
  go_enter Tryz.func65, Tryz.ntmps65
  go_wp2_with fail
  go_ret
  exact ⟨rfl, (Below.refl _ _).alloc (Nat.le_refl _) _⟩

theorem two_two (n : Int) : strB (twoL (n / 65536)) ++ strB (twoL n) = strB (fourL n) := strB_append _ _

set_option maxRecDepth 100000 in
set_option maxHeartbeats 1000000 in
theorem four_calls (n : Int) (w : World) :
    Calls Tryz.prog 115 #[.int .i64 n] w fun e w' => e = .returned (.string (strB (fourL n))) ∧ Below w.heap.size w w' := by
  have hz : ¬ 9223372036854775807 < (strB (twoL (n / 65536))).size + (strB (twoL n)).size := by rw [strB_size, strB_size, twoL_len, twoL_len]; omega
  go_enter Tryz.func115, Tryz.ntmps115
  go_wp2_with fail
  (with_reducible refine (two_calls (n / 65536) _).mono ?_)
  rintro e w1 ⟨rfl, hB1⟩
  go_wp2_with fail
  (with_reducible refine (two_calls n _).mono ?_)
  rintro e w2 ⟨rfl, hB2⟩
  go_wp2_with fail
  go_ret
  exact ⟨ret_str (two_two n), below_two hB1 hB2⟩

theorem text_is_short (l : List UInt8) (h : l.length ≤ 65535) : strB (twoL (l.length : Nat)) ++ strB l = strB (textL l) := by
  rw [strB_append]
  unfold textL
  rw [List.take_of_length_le h, show min l.length 65535 = l.length by omega]

theorem text_is_long (l : List UInt8) (h : 65535 < l.length) : strB (twoL (65535 : Nat)) ++ (strB l).extract 0 65535 = strB (textL l) := by
  rw [strB_extract, strB_append]
  unfold textL
  rw [show min l.length 65535 = 65535 by omega]
  rfl

end Go.Proofs.YtnbbijpmkhdgpaaGreat.Wire

/- WTape -/
namespace Go.Proofs.YtnbbijpmkhdgpaaGreat.Wire
open Go.RowKit

/-- Of what lay there nothing but block b has turned. -/
structure But (b : Nat) (w w' : World) : Prop where
  os : w'.os = w.os
  tape : w'.tape = w.tape
  output : w'.output = w.output
  size : w.heap.size ≤ w'.heap.size
  block : ∀ k, k < w.heap.size → k ≠ b → w'.heap[k]? = w.heap[k]?

section
variable {b B : Nat} {u v w w' : World}
theorem But.refl (b : Nat) (w : World) : But b w w := ⟨rfl, rfl, rfl, Nat.le_refl _, fun _ _ _ => rfl⟩
theorem But.trans (h : But b u v) (k : But b v w) : But b u w :=
  ⟨k.os.trans h.os, k.tape.trans h.tape, k.output.trans h.output, Nat.le_trans h.size k.size, fun i hi hb => (k.block i (Nat.lt_of_lt_of_le hi h.size) hb).trans (h.block i hi hb)⟩
theorem But.setCell (h : But b u v) (i : Nat) (x : Value) : But b u (v.setCell ⟨b, i, none⟩ x) :=
  h.trans ⟨rfl, rfl, rfl, by simp [World.setCell], fun k _ hk => Below.heap_setCell _ _ _ _ (by simpa using hk)⟩
theorem But.alloc (h : But b u v) (o : Obj) : But b u (v.alloc o) :=
  h.trans ⟨rfl, rfl, rfl, by simp, fun k hk _ => Below.heap_alloc v o k hk⟩
theorem But.drew (h : But b u v) : But b u v.drew := ⟨h.os, h.tape, h.output, h.size, h.block⟩
theorem But.of (b : Nat) (h : Below w.heap.size w w') : But b w w' := ⟨h.os, h.tape, h.output, h.size, fun k hk _ => h.block k hk⟩
theorem But.below (h : But b w w') (hB : B ≤ b) (hs : B ≤ w.heap.size) : Below B w w' := ⟨h.os, h.tape, h.output, h.size, fun k hk => h.block k (by omega) (by omega)⟩
end

/-- The tape t lies in block b. -/
def TP (ty : TypeId) (w : World) (b : Nat) (t : TK) : Prop := w.heap[b]? = some (.cells #[.string (strB t.rest), .bool t.bad] ty (0, 0))

section
variable {ty : TypeId} {w w' : World} {b : Nat} {t : TK}
theorem TP.rest (h : TP ty w b t) : w.cell? ⟨b, 0, none⟩ = some (.string (strB t.rest)) := by unfold TP at h; simp [World.cell?, h]
theorem TP.bad (h : TP ty w b t) : w.cell? ⟨b, 1, none⟩ = some (.bool t.bad) := by unfold TP at h; simp [World.cell?, h]
theorem TP.free (h : TP ty w b t) (i : Nat) : w.frozen? ⟨b, i, none⟩ = false := by unfold TP at h; simp [World.frozen?, h]
theorem TP.lt (h : TP ty w b t) : b < w.heap.size := (Array.getElem?_eq_some_iff.1 h).1
theorem TP.setBad (h : TP ty w b t) (x : Bool) : TP ty (w.setCell ⟨b, 1, none⟩ (.bool x)) b ⟨t.rest, x⟩ := by
  unfold TP at h
  exact heap_setCell_same w b 1 _ ty _ h
theorem TP.setRest (h : TP ty w b t) (l : List UInt8) : TP ty (w.setCell ⟨b, 0, none⟩ (.string (strB l))) b ⟨l, t.bad⟩ := by
  unfold TP at h
  exact heap_setCell_same w b 0 _ ty _ h
theorem TP.keep (h : TP ty w b t) (e : w'.heap[b]? = w.heap[b]?) : TP ty w' b t := Eq.trans e h
theorem TP.below (h : TP ty w b t) (hb : Below w.heap.size w w') : TP ty w' b t := h.keep (hb.block b h.lt)
theorem TP.but {c : Nat} (h : TP ty w b t) (hb : But c w w') (hc : b ≠ c) : TP ty w' b t := h.keep (hb.block b h.lt hc)
theorem TP.alloc (h : TP ty w b t) (o : Obj) : TP ty (w.alloc o) b t := h.keep (Below.heap_alloc w o b h.lt)
theorem TP.drew (h : TP ty w b t) : TP ty w.drew b t := h
theorem TP.new (ty : TypeId) (w : World) (l : List UInt8) (x : Bool) : TP ty (w.alloc (.cells #[.string (strB l), .bool x] ty)) w.heap.size ⟨l, x⟩ := heap_alloc_new w _
end

theorem drop_ext (l : List UInt8) (k : Nat) : (strB l).extract k (strB l).size = strB (l.drop k) := by
  rw [strB_extract, strB_size, List.take_length]
theorem take_ext (l : List UInt8) (k : Nat) : (strB l).extract 0 k = strB (l.take k) := by
  rw [strB_extract, List.drop_zero]

theorem ret_tup {a c : ByteArray} {x : Bool} (h : a = c) : Ending.returned (.tuple #[.string a, .bool x]) = .returned (.tuple #[.string c, .bool x]) := by rw [h]
theorem ret_take {a c : List UInt8} {x y : Bool} (h : a = c) (h2 : x = y) : Ending.returned (.tuple #[.string (strB a), .bool x]) = .returned (.tuple #[.string (strB c), .bool y]) := by rw [h, h2]

set_option maxRecDepth 100000 in
set_option maxHeartbeats 1000000 in
theorem take_bad (b : Nat) (k : Int) (l : List UInt8) (w : World) (ht : TP 114 w b ⟨l, true⟩) :
    Calls Tryz.prog 107 #[.pointer (some ⟨b, 0, none⟩), .int .i64 k] w fun e w' => e = .returned (.tuple #[.string (strB []), .bool false]) ∧ w = w' := by
  have c1 := ht.bad
  clear ht
  go_enter Tryz.func107, Tryz.ntmps107
  go_wp2_with fail
  go_ret2
  exact ⟨rfl, rfl⟩

set_option maxRecDepth 100000 in
set_option maxHeartbeats 1000000 in
theorem take_short (b k : Nat) (l : List UInt8) (w : World) (ht : TP 114 w b ⟨l, false⟩) (hk : l.length < k) :
    Calls Tryz.prog 107 #[.pointer (some ⟨b, 0, none⟩), .int .i64 k] w fun e w' => e = .returned (.tuple #[.string (strB []), .bool false]) ∧ w' = w.setCell ⟨b, 1, none⟩ (.bool true) := by
  have c0 := ht.rest
  have c1 := ht.bad
  have f1 := ht.free 1
  have g : ((strB l).size : Int) < k := by rw [strB_size]; omega
  clear ht hk
  go_enter Tryz.func107, Tryz.ntmps107
  go_wp2_with fail
  go_ret2
  exact ⟨rfl, rfl⟩

set_option maxRecDepth 100000 in
set_option maxHeartbeats 1000000 in
theorem take_good (b k : Nat) (l : List UInt8) (w : World) (ht : TP 114 w b ⟨l, false⟩) (hk : k ≤ l.length) :
    Calls Tryz.prog 107 #[.pointer (some ⟨b, 0, none⟩), .int .i64 k] w fun e w' => e = .returned (.tuple #[.string (strB (l.take k)), .bool true]) ∧ w' = w.setCell ⟨b, 0, none⟩ (.string (strB (l.drop k))) := by
  have c0 := ht.rest
  have c1 := ht.bad
  have f0 := ht.free 0
  have g : ¬ ((strB l).size : Int) < k := by rw [strB_size]; omega
  have g2 : k ≤ (strB l).size := by rw [strB_size]; omega
  have E1 := Lib.hid (take_ext l k)
  have E2 := Lib.hid (drop_ext l k)
  clear ht hk
  go_enter Tryz.func107, Tryz.ntmps107
  go_wp2_with fail
  go_ret2
  exact ⟨ret_tup E1.out, by rw [E2.out]⟩

theorem good_bad (k : Nat) (l : List UInt8) : good k ⟨l, true⟩ = false := rfl
theorem good_yes {k : Nat} {l : List UInt8} (h : k ≤ l.length) : good k ⟨l, false⟩ = true := by simp [good, h]
theorem good_no {k : Nat} {l : List UInt8} (h : l.length < k) : good k ⟨l, false⟩ = false := by simp [good, h]

theorem take_calls (b k : Nat) (t : TK) (w : World) (ht : TP 114 w b t) :
    Calls Tryz.prog 107 #[.pointer (some ⟨b, 0, none⟩), .int .i64 k] w fun e w' => e = .returned (.tuple #[.string (strB (takeV k t)), .bool (good k t)]) ∧ TP 114 w' b (takeS k t) ∧ But b w w' := by
  obtain ⟨l, bad⟩ := t
  cases bad with
  | true =>
    refine (take_bad b k l w ht).mono ?_
    rintro e w' ⟨rfl, rfl⟩
    exact ⟨rfl, ht, But.refl _ _⟩
  | false =>
    by_cases h : k ≤ l.length
    · refine (take_good b k l w ht h).mono ?_
      rintro e w' ⟨rfl, rfl⟩
      refine ⟨?_, ?_, (But.refl _ _).setCell _ _⟩
      · unfold takeV; rw [good_yes h]; rfl
      · unfold takeS; rw [good_yes h]; exact ht.setRest _
    · refine (take_short b k l w ht (by omega)).mono ?_
      rintro e w' ⟨rfl, rfl⟩
      refine ⟨?_, ?_, (But.refl _ _).setCell _ _⟩
      · unfold takeV; rw [good_no (by omega)]; rfl
      · unfold takeS; rw [good_no (by omega)]; exact ht.setBad _
end Go.Proofs.YtnbbijpmkhdgpaaGreat.Wire

/- WNumber -/
namespace Go.Proofs.YtnbbijpmkhdgpaaGreat.Wire
open Go.RowKit

theorem i64_or_nat (a b : Nat) (ha : a < 9223372036854775808) (hb : b < 9223372036854775808) : bits .or .i64 (a : Int) (b : Int) = ((a ||| b : Nat) : Int) := by
  have hx : a ||| b < 2 ^ 63 := Nat.or_lt_two_pow (by omega) (by omega)
  show IntKind.i64.wrap ((BitVec.ofInt 64 (a : Int) ||| BitVec.ofInt 64 (b : Int)).toNat : Int) = _
  rw [BitVec.toNat_or, ofInt_u64 a (by omega), ofInt_u64 b (by omega)]
  simp [IntKind.wrap, IntKind.bits, IntKind.signed]
  omega

theorem or_byte (x : Nat) (c : UInt8) (h : x < 16777216) : bits .or .i64 ((x : Int) * 256) (c.toNat : Int) = ((x * 256 + c.toNat : Nat) : Int) := by
  have hc := c.toNat_lt
  have h1 := i64_or_nat (x * 256) c.toNat (by omega) (by omega)
  have h2 : x * 256 ||| c.toNat = x * 256 + c.toNat := by
    have := Nat.two_pow_add_eq_or_of_lt (i := 8) (b := c.toNat) (by omega) x
    simp only [Nat.reducePow] at this
    rw [Nat.mul_comm, this]
  rw [h2] at h1
  rw [← h1]
  simp

theorem numL_step (s : List UInt8) (j : Nat) (h : j < s.length) : numL (s.take (j + 1)) = numL (s.take j) * 256 + s[j].toNat := by
  rw [List.take_succ_eq_append_getElem h, numL_snoc]

theorem numL_small (s : List UInt8) (j : Nat) (h : j < 4) : numL (s.take j) < 16777216 := by
  have h1 := numL_lt (s.take j)
  have h2 : 256 ^ (s.take j).length ≤ 256 ^ 3 := Nat.pow_le_pow_right (by omega) (by simp; omega)
  omega

theorem ret_num {x y : Nat} {p q : Bool} (h : y = x) (h2 : p = q) : Ending.returned (.tuple #[.int .i64 (x : Nat), .bool p]) = .returned (.tuple #[.int .i64 (y : Nat), .bool q]) := by rw [h, h2]

set_option maxRecDepth 100000 in
set_option maxHeartbeats 1000000 in
theorem number_no (b k : Nat) (low high : Int) (t : TK) (w : World) (ht : TP 114 w b t) (hg : good k t = false) :
    Calls Tryz.prog 108 #[.pointer (some ⟨b, 0, none⟩), .int .i64 k, .int .i64 low, .int .i64 high] w fun e w' => e = .returned (.tuple #[.int .i64 0, .bool false]) ∧ TP 114 w' b (takeS k t) ∧ But b w w' := by
  go_enter Tryz.func108, Tryz.ntmps108
  go_wp2_with fail
  (with_reducible refine (take_calls b k t _ ht).mono ?_)
  rintro e w1 ⟨rfl, hT, hB⟩
  have HT := Lib.hid hT
  clear ht hT
  go_wp2_with fail
  go_ret2
  exact ⟨rfl, HT.out, hB⟩

set_option maxRecDepth 100000 in
set_option maxHeartbeats 1600000 in
theorem number_yes (b k : Nat) (low high : Int) (l : List UInt8) (w : World) (ht : TP 114 w b ⟨l, false⟩) (hk : k ≤ l.length) (hk4 : k ≤ 4) :
    Calls Tryz.prog 108 #[.pointer (some ⟨b, 0, none⟩), .int .i64 k, .int .i64 low, .int .i64 high] w fun e w' => e = .returned (.tuple #[.int .i64 (numV k low high ⟨l, false⟩ : Nat), .bool (inside k low high ⟨l, false⟩)]) ∧ TP 114 w' b (numS k low high ⟨l, false⟩) ∧ But b w w' := by
  go_enter Tryz.func108, Tryz.ntmps108
  go_wp2_with fail
  (with_reducible refine (take_good b k l _ ht hk).mono ?_)
  rintro e w1 ⟨rfl, hw1⟩
  have HT : Hid (TP 114 w1 b ⟨l.drop k, false⟩) := by rw [hw1]; exact ht.setRest _
  have HB : Hid (But b w w1) := by rw [hw1]; exact (But.refl _ _).setCell _ _
  have hfr := HT.out.free 1
  have hcb := HT.out.bad
  have hlen : (strB (l.take k)).size = k := by rw [strB_size, List.length_take]; omega
  have HL : Hid ((l.take k).length = k) := by show (l.take k).length = k; rw [List.length_take]; omega
  have HV : Hid (∀ x, x = inside k low high ⟨l, false⟩ → numS k low high ⟨l, false⟩ = ⟨l.drop k, !x⟩) := by
    rintro x rfl
    unfold numS
    rw [good_yes hk, if_pos rfl]
  have HI : Hid (inside k low high ⟨l, false⟩ = (decide (low ≤ (numL (l.take k) : Int)) && decide ((numL (l.take k) : Int) ≤ high))) := by
    show inside k low high ⟨l, false⟩ = _
    unfold inside
    rw [good_yes hk, Bool.true_and]
  have HN : Hid (numV k low high ⟨l, false⟩ = if inside k low high ⟨l, false⟩ then numL (l.take k) else 0) := rfl
  clear ht hk hw1
  generalize l.take k = s at *
  go_wp2_with fail
  go_loop [12, 24] (fun n i => ∃ j : Nat, j ≤ k ∧ i = .int .i64 j ∧ n = .int .i64 (numL (s.take j) : Nat)) (fun _ i => k - (intOf i).toNat)
  case atStart => exact ⟨0, Nat.zero_le _, rfl, rfl⟩
  case round =>
    obtain ⟨j, hj, rfl, rfl⟩ := hrel
    by_cases h : j < k
    · have hjs : j < s.length := by rw [HL.out]; exact h
      have HS := Lib.hid (numL_step s j hjs)
      have hsm := numL_small s j (by omega)
      have hor := or_byte (numL (s.take j)) s[j] hsm
      have hc : s[j].toNat < 256 := s[j].toNat_lt
      have hat : ∀ h', (strB s)[j]'h' = s[j] := fun _ => rfl
      generalize numL (s.take j) = x at *
      go_wp2_with fail
      go_round
      case rel => exact ⟨j + 1, by omega, by go_num, by rw [HS.out]; exact congrArg (Value.int .i64) hor⟩
      case measure => simp [intOf]; omega
    · obtain rfl : j = k := by omega
      have HE : Hid (s.take j = s) := List.take_of_length_le (by rw [HL.out]; exact Nat.le_refl _)
      rw [HE.out]
      generalize numL s = x at *
      by_cases h1 : (x : Int) < low
      · have hi : inside j low high ⟨l, false⟩ = false := by rw [HI.out, decide_eq_false (by omega), Bool.false_and]
        go_wp2_with fail
        go_ret2
        exact ⟨ret_num (by rw [HN.out, hi]; rfl) rfl, by rw [HV.out false hi.symm]; exact HT.out.setBad _, HB.out.setCell _ _⟩
      · by_cases h2 : high < (x : Int)
        · have hi : inside j low high ⟨l, false⟩ = false := by rw [HI.out, decide_eq_false (p := (x : Int) ≤ high) (by omega), Bool.and_false]
          go_wp2_with fail
          go_ret2
          exact ⟨ret_num (by rw [HN.out, hi]; rfl) rfl, by rw [HV.out false hi.symm]; exact HT.out.setBad _, HB.out.setCell _ _⟩
        · have hi : inside j low high ⟨l, false⟩ = true := by rw [HI.out, decide_eq_true (by omega), decide_eq_true (by omega)]; rfl
          go_wp2_with fail
          go_ret2
          exact ⟨ret_num (by rw [HN.out, hi]; rfl) rfl, by rw [HV.out true hi.symm]; exact HT.out, HB.out⟩

theorem number_calls (b k : Nat) (low high : Int) (t : TK) (w : World) (ht : TP 114 w b t) (hk4 : k ≤ 4) :
    Calls Tryz.prog 108 #[.pointer (some ⟨b, 0, none⟩), .int .i64 k, .int .i64 low, .int .i64 high] w fun e w' => e = .returned (.tuple #[.int .i64 (numV k low high t : Nat), .bool (inside k low high t)]) ∧ TP 114 w' b (numS k low high t) ∧ But b w w' := by
  cases hg : good k t with
  | false =>
    refine (number_no b k low high t w ht hg).mono ?_
    rintro e w' ⟨rfl, hT, hB⟩
    have hi : inside k low high t = false := by unfold inside; rw [hg]; rfl
    refine ⟨?_, ?_, hB⟩
    · unfold numV; rw [hi]; rfl
    · unfold numS; unfold takeS at hT; rw [hg] at hT ⊢; exact hT
  | true =>
    obtain ⟨l, bad⟩ := t
    cases bad with
    | true => cases hg
    | false => exact number_yes b k low high l w ht (by simpa [good] using hg) hk4

theorem number2 (b : Nat) (low high : Int) (t : TK) (w : World) (ht : TP 114 w b t) :
    Calls Tryz.prog 108 #[.pointer (some ⟨b, 0, none⟩), .int .i64 2, .int .i64 low, .int .i64 high] w fun e w' => e = .returned (.tuple #[.int .i64 (numV 2 low high t : Nat), .bool (inside 2 low high t)]) ∧ TP 114 w' b (numS 2 low high t) ∧ But b w w' :=
  number_calls b 2 low high t w ht (by omega)
theorem number4 (b : Nat) (low high : Int) (t : TK) (w : World) (ht : TP 114 w b t) :
    Calls Tryz.prog 108 #[.pointer (some ⟨b, 0, none⟩), .int .i64 4, .int .i64 low, .int .i64 high] w fun e w' => e = .returned (.tuple #[.int .i64 (numV 4 low high t : Nat), .bool (inside 4 low high t)]) ∧ TP 114 w' b (numS 4 low high t) ∧ But b w w' :=
  number_calls b 4 low high t w ht (by omega)

set_option maxRecDepth 100000 in
set_option maxHeartbeats 1000000 in
theorem ttwo_calls (b : Nat) (low high : Int) (t : TK) (w : World) (ht : TP 114 w b t) :
    Calls Tryz.prog 83 #[.pointer (some ⟨b, 0, none⟩), .int .i64 low, .int .i64 high] w fun e w' => e = .returned (.int .i64 (numV 2 low high t : Nat)) ∧ TP 114 w' b (numS 2 low high t) ∧ But b w w' := by
  go_enter Tryz.func83, Tryz.ntmps83
  go_wp2_with fail
  (with_reducible refine (number2 b low high t _ ht).mono ?_)
  rintro e w1 ⟨rfl, hT, hB⟩
  have HT := Lib.hid hT
  have HB := Lib.hid hB
  clear ht hT hB
  go_wp2_with fail
  go_ret
  exact ⟨rfl, HT.out, HB.out⟩

set_option maxRecDepth 100000 in
set_option maxHeartbeats 1000000 in
theorem tfour_calls (b : Nat) (low high : Int) (t : TK) (w : World) (ht : TP 114 w b t) :
    Calls Tryz.prog 125 #[.pointer (some ⟨b, 0, none⟩), .int .i64 low, .int .i64 high] w fun e w' => e = .returned (.int .i64 (numV 4 low high t : Nat)) ∧ TP 114 w' b (numS 4 low high t) ∧ But b w w' := by
  go_enter Tryz.func125, Tryz.ntmps125
  go_wp2_with fail
  (with_reducible refine (number4 b low high t _ ht).mono ?_)
  rintro e w1 ⟨rfl, hT, hB⟩
  have HT := Lib.hid hT
  have HB := Lib.hid hB
  clear ht hT hB
  go_wp2_with fail
  go_ret
  exact ⟨rfl, HT.out, HB.out⟩

end Go.Proofs.YtnbbijpmkhdgpaaGreat.Wire

/- WMark -/
namespace Go.Proofs.YtnbbijpmkhdgpaaGreat.Wire
open Go.RowKit

theorem take_len (b : Nat) (m : List UInt8) (t : TK) (w : World) (ht : TP 114 w b t) :
    Calls Tryz.prog 107 #[.pointer (some ⟨b, 0, none⟩), .int .i64 ((strB m).size : Nat)] w fun e w' => e = .returned (.tuple #[.string (strB (takeV m.length t)), .bool (good m.length t)]) ∧ TP 114 w' b (takeS m.length t) ∧ But b w w' := by
  rw [strB_size]
  exact take_calls b m.length t w ht

set_option maxRecDepth 100000 in
set_option maxHeartbeats 1000000 in
theorem mark_no (b : Nat) (m : List UInt8) (t : TK) (w : World) (ht : TP 114 w b t) (hg : good m.length t = false) :
    Calls Tryz.prog 82 #[.pointer (some ⟨b, 0, none⟩), .string (strB m)] w fun e w' => e = .returned (.tuple #[]) ∧ TP 114 w' b (takeS m.length t) ∧ But b w w' := by
  go_enter Tryz.func82, Tryz.ntmps82
  go_wp2_with fail
  (with_reducible refine (take_len b m t _ ht).mono ?_)
  rintro e w1 ⟨rfl, hT, hB⟩
  have HT := Lib.hid hT
  have HB := Lib.hid hB
  clear ht hT hB
  go_wp2_with fail
  go_end0
  exact ⟨rfl, HT.out, HB.out⟩

set_option maxRecDepth 100000 in
set_option maxHeartbeats 1000000 in
theorem mark_yes (b : Nat) (m : List UInt8) (t : TK) (w : World) (ht : TP 114 w b t) (hg : good m.length t = true) (he : (strB (takeV m.length t)).toList == (strB m).toList) :
    Calls Tryz.prog 82 #[.pointer (some ⟨b, 0, none⟩), .string (strB m)] w fun e w' => e = .returned (.tuple #[]) ∧ TP 114 w' b (takeS m.length t) ∧ But b w w' := by
  go_enter Tryz.func82, Tryz.ntmps82
  go_wp2_with fail
  (with_reducible refine (take_len b m t _ ht).mono ?_)
  rintro e w1 ⟨rfl, hT, hB⟩
  have HT := Lib.hid hT
  have HB := Lib.hid hB
  clear ht hT hB
  go_wp2_with fail
  go_end0
  exact ⟨rfl, HT.out, HB.out⟩

set_option maxRecDepth 100000 in
set_option maxHeartbeats 1000000 in
theorem mark_other (b : Nat) (m : List UInt8) (t : TK) (w : World) (ht : TP 114 w b t) (hg : good m.length t = true) (he : ((strB (takeV m.length t)).toList == (strB m).toList) = false) :
    Calls Tryz.prog 82 #[.pointer (some ⟨b, 0, none⟩), .string (strB m)] w fun e w' => e = .returned (.tuple #[]) ∧ TP 114 w' b ⟨(takeS m.length t).rest, true⟩ ∧ But b w w' := by
  go_enter Tryz.func82, Tryz.ntmps82
  go_wp2_with fail
  (with_reducible refine (take_len b m t _ ht).mono ?_)
  rintro e w1 ⟨rfl, hT, hB⟩
  have c1 := hT.bad
  have f1 := hT.free 1
  have HT := Lib.hid hT
  have HB := Lib.hid hB
  clear ht hT hB
  go_wp2_with fail
  go_end0
  exact ⟨rfl, HT.out.setBad _, HB.out.setCell _ _⟩

theorem mark_calls (b : Nat) (m : List UInt8) (t : TK) (w : World) (ht : TP 114 w b t) :
    Calls Tryz.prog 82 #[.pointer (some ⟨b, 0, none⟩), .string (strB m)] w fun e w' => e = .returned (.tuple #[]) ∧ TP 114 w' b (markS m t) ∧ But b w w' := by
  cases hg : good m.length t with
  | false =>
    have e : markS m t = takeS m.length t := by unfold markS takeS; rw [hg]; rfl
    rw [e]
    exact mark_no b m t w ht hg
  | true =>
    have e1 : takeV m.length t = t.rest.take m.length := by unfold takeV; rw [hg]; rfl
    have e2 : takeS m.length t = ⟨t.rest.drop m.length, false⟩ := by unfold takeS; rw [hg]; rfl
    have e3 : markS m t = ⟨t.rest.drop m.length, !(t.rest.take m.length == m)⟩ := by unfold markS; rw [hg]; rfl
    cases he : (t.rest.take m.length == m) with
    | true =>
      have h := mark_yes b m t w ht hg (by rw [e1, strB_toList, strB_toList]; exact he)
      rw [e2] at h
      rw [e3, he]
      exact h
    | false =>
      have h := mark_other b m t w ht hg (by rw [e1, strB_toList, strB_toList]; exact he)
      rw [e2] at h
      rw [e3, he]
      exact h

end Go.Proofs.YtnbbijpmkhdgpaaGreat.Wire

/- WBack -/
namespace Go.Proofs.YtnbbijpmkhdgpaaGreat.Wire
open Go.RowKit

theorem take_app (a r : List UInt8) (k : Nat) (h : a.length = k) : (a ++ r).take k = a := by subst h; exact List.take_left
theorem drop_app (a r : List UInt8) (k : Nat) (h : a.length = k) : (a ++ r).drop k = r := by subst h; exact List.drop_left
theorem good_app (a r : List UInt8) (k : Nat) (h : a.length = k) : good k ⟨a ++ r, false⟩ = true := good_yes (by simp; omega)

theorem inside_app (a r : List UInt8) (k : Nat) (low high : Int) (h : a.length = k) : inside k low high ⟨a ++ r, false⟩ = (decide (low ≤ (numL a : Int)) && decide ((numL a : Int) ≤ high)) := by
  unfold inside
  rw [good_app a r k h, Bool.true_and]
  show (decide (low ≤ (numL ((a ++ r).take k) : Int)) && _) = _
  rw [take_app a r k h]

theorem numV_app (a r : List UInt8) (k : Nat) (low high : Int) (h : a.length = k) (h1 : low ≤ (numL a : Int)) (h2 : (numL a : Int) ≤ high) : numV k low high ⟨a ++ r, false⟩ = numL a := by
  unfold numV
  rw [inside_app a r k low high h, decide_eq_true h1, decide_eq_true h2]
  show numL ((a ++ r).take k) = _
  rw [take_app a r k h]
theorem numS_app (a r : List UInt8) (k : Nat) (low high : Int) (h : a.length = k) (h1 : low ≤ (numL a : Int)) (h2 : (numL a : Int) ≤ high) : numS k low high ⟨a ++ r, false⟩ = ⟨r, false⟩ := by
  unfold numS
  rw [inside_app a r k low high h, decide_eq_true h1, decide_eq_true h2, good_app a r k h]
  show TK.mk ((a ++ r).drop k) false = _
  rw [drop_app a r k h]

theorem num_two (n : Nat) (h : n < 65536) : numL (twoL (n : Nat)) = n := by
  have := numL_twoL n
  omega
theorem num_four (n : Nat) (h : n < 4294967296) : numL (fourL (n : Nat)) = n := by
  have := numL_fourL n
  omega

theorem textL_is (l : List UInt8) (h : l.length ≤ 65535) : textL l = twoL (l.length : Nat) ++ l := by
  unfold textL
  rw [List.take_of_length_le h, show min l.length 65535 = l.length by omega]

theorem txt_app (l r : List UInt8) (most : Int) (h : l.length ≤ 65535) (hm : (l.length : Int) ≤ most) : txtV most ⟨textL l ++ r, false⟩ = l ∧ txtS most ⟨textL l ++ r, false⟩ = ⟨r, false⟩ := by
  have hn := num_two l.length (by omega)
  have i1 : inside 2 0 most ⟨twoL (l.length : Nat) ++ (l ++ r), false⟩ = true := by
    rw [inside_app _ _ 2 0 most rfl, hn, decide_eq_true (by omega), decide_eq_true hm]; rfl
  have i2 := numV_app (twoL (l.length : Nat)) (l ++ r) 2 0 most rfl (by omega) (by rw [hn]; exact hm)
  have i3 := numS_app (twoL (l.length : Nat)) (l ++ r) 2 0 most rfl (by omega) (by rw [hn]; exact hm)
  rw [hn] at i2
  rw [textL_is l h, List.append_assoc]
  unfold txtV txtS
  rw [i1, i2, i3, if_pos rfl, if_pos rfl]
  unfold takeV takeS
  rw [good_app l r l.length rfl, if_pos rfl, if_pos rfl]
  exact ⟨take_app l r _ rfl, by show TK.mk ((l ++ r).drop l.length) false = _; rw [drop_app l r _ rfl]⟩

theorem txt_less (l : List UInt8) (h : l.length ≤ 65535) : txtV ((l.length : Int) - 1) ⟨textL l, false⟩ = [] ∧ txtS ((l.length : Int) - 1) ⟨textL l, false⟩ = ⟨l, true⟩ := by
  have hn := num_two l.length (by omega)
  have i1 : inside 2 0 ((l.length : Int) - 1) ⟨twoL (l.length : Nat) ++ l, false⟩ = false := by
    rw [inside_app _ _ 2 0 _ rfl, hn, decide_eq_false (p := (l.length : Int) ≤ (l.length : Int) - 1) (by omega), Bool.and_false]
  rw [textL_is l h]
  unfold txtV txtS
  rw [i1]
  refine ⟨rfl, ?_⟩
  show numS 2 0 ((l.length : Int) - 1) ⟨twoL (l.length : Nat) ++ l, false⟩ = _
  unfold numS
  rw [i1, good_app _ _ 2 rfl]
  rfl

end Go.Proofs.YtnbbijpmkhdgpaaGreat.Wire
