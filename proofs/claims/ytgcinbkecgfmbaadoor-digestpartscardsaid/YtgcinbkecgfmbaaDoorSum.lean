/- The number on its way: atomic store and load, take, sumOf, Sum, and the document's: what each call does. No statement is proved here. -/
import Derived.Test.YtgcinbkecgfmbaaDoorPlain
import Derived.Tactics
import Derived.Tactics2
import Derived.Laws.LoneSync
import Derived.Laws.NewBlocks
import Derived.RegionTactic
import Derived.RegionCalls
import Derived.Deep.RegionWith
import Derived.BigRegion
import Derived.BigQuiet
namespace Go.Proofs.YtgcinbkecgfmbaaDoor
open Go.RowKit

/-- The number n lies in block b. -/
def NumAt (w : World) (b n : Nat) : Prop := w.heap[b]? = some (.cells #[.int .u64 (n : Nat)] 43 (0, 0))
section
variable {w w' : World} {b n : Nat}
theorem NumAt.cell (h : NumAt w b n) : w.cell? ⟨b, 0, none⟩ = some (.int .u64 (n : Nat)) := by unfold NumAt at h; simp [World.cell?, h]
theorem NumAt.free (h : NumAt w b n) : w.frozen? ⟨b, 0, none⟩ = false := by unfold NumAt at h; simp [World.frozen?, h]
theorem NumAt.lt (h : NumAt w b n) : b < w.heap.size := (Array.getElem?_eq_some_iff.1 h).1
theorem NumAt.set (h : NumAt w b n) (m : Nat) : NumAt (w.setCell ⟨b, 0, none⟩ (.int .u64 (m : Nat))) b m := by
  unfold NumAt at h
  exact heap_setCell_same w b 0 _ 43 _ h
theorem NumAt.drew (h : NumAt w b n) : NumAt w.drew b n := h
theorem NumAt.new (w : World) (n : Nat) : NumAt (w.alloc (.cells #[.int .u64 (n : Nat)] 43)) w.heap.size n := heap_alloc_new w _
end

/-- Of what lay there nothing but block b has turned. -/
structure But (b : Nat) (w w' : World) : Prop where
  os : w'.os = w.os
  tape : w'.tape = w.tape
  output : w'.output = w.output
  size : w.heap.size ≤ w'.heap.size
  block : ∀ k, k < w.heap.size → k ≠ b → w'.heap[k]? = w.heap[k]?

section
variable {b B : Nat} {u v w w' : World}
theorem But.refl (b : Nat) (w : World) : But b w w := ⟨rfl, rfl, rfl, Nat.le_refl _, fun _ _ _ => rfl⟩
theorem But.trans (h : But b u v) (k : But b v w) : But b u w :=
  ⟨k.os.trans h.os, k.tape.trans h.tape, k.output.trans h.output, Nat.le_trans h.size k.size, fun i hi hb => (k.block i (Nat.lt_of_lt_of_le hi h.size) hb).trans (h.block i hi hb)⟩
theorem But.setCell (h : But b u v) (i : Nat) (x : Value) : But b u (v.setCell ⟨b, i, none⟩ x) :=
  h.trans ⟨rfl, rfl, rfl, by simp [World.setCell], fun k _ hk => Below.heap_setCell _ _ _ _ (by simpa using hk)⟩
theorem But.drew (h : But b u v) : But b u v.drew := ⟨h.os, h.tape, h.output, h.size, h.block⟩
theorem But.below (h : But b w w') (hB : B ≤ b) (hs : B ≤ w.heap.size) : Below B w w' := ⟨h.os, h.tape, h.output, h.size, fun k hk => h.block k (by omega) (by omega)⟩
end

theorem store_calls (b n m : Nat) (w : World) (h : NumAt w b n) :
    Calls Tryd.prog 17 #[.pointer (some ⟨b, 0, none⟩), .int .u64 (m : Nat)] w fun e w' => e = .returned (.tuple #[]) ∧ w' = w.setCell ⟨b, 0, none⟩ (.int .u64 (m : Nat)) := by
  have hst := run_call_store (P := Tryd.prog) Tryd.func21 (by kernel_rfl) (by kernel_rfl) (by kernel_rfl) (by kernel_rfl) (k := .u64) (y := m) h.cell h.free
  go_enter Tryd.func17, Tryd.ntmps17
  go_wp2
  go_end0
  exact ⟨rfl, rfl⟩

theorem load_calls (b n : Nat) (w : World) (h : NumAt w b n) :
    Calls Tryd.prog 19 #[.pointer (some ⟨b, 0, none⟩)] w fun e w' => e = .returned (.int .u64 (n : Nat)) ∧ w' = w := by
  have hl := run_call_load (P := Tryd.prog) Tryd.func22 (by kernel_rfl) (by kernel_rfl) (by kernel_rfl) .u64 (by kernel_rfl) h.cell
  go_enter Tryd.func19, Tryd.ntmps19
  go_wp2
  go_ret
  exact ⟨rfl, rfl⟩

theorem xor_u64 (n : Nat) (b : UInt8) (h : n < 18446744073709551616) : bits .xor .u64 (n : Int) ((b.toNat : Nat) : Int) = ((n ^^^ b.toNat : Nat) : Int) := by
  have := b.toNat_lt
  exact u64_xor_nat _ _ h (by omega)

theorem wrap_byte (b : UInt8) : IntKind.u64.wrap ((b.toNat : Nat) : Int) = ((b.toNat : Nat) : Int) := by
  have := b.toNat_lt
  simp [IntKind.wrap, IntKind.bits, IntKind.signed]
  omega
theorem st_u64 (n : Nat) (b : UInt8) (h : n < 18446744073709551616) : IntKind.u64.wrap (bits .xor .u64 (n : Int) (IntKind.u64.wrap ((b.toNat : Nat) : Int)) * 1099511628211) = ((st n b : Nat) : Int) := by
  rw [wrap_byte, xor_u64 n b h]
  unfold st
  simp [IntKind.wrap, IntKind.bits, IntKind.signed]

set_option maxHeartbeats 1000000 in
theorem rsum_calls (l : List UInt8) (w : World) (hL : l.length ≤ 100000) :
    Calls Tryd.prog 8 #[.string (strB l)] w fun e w' => e = .returned (.int .u64 (sumL l : Nat)) ∧ w' = w := by
  have hs := strB_size l
  go_enter Tryd.func8, Tryd.ntmps8
  go_wp2_with fail
  go_loop [3, 4] (fun vn vi => ∃ k : Nat, k ≤ l.length ∧ vi = .int .i64 k ∧ vn = .int .u64 (reg 14695981039346656037 (l.take k) : Nat)) (fun _ vi => l.length - (intOf vi).toNat)
  case atStart => exact ⟨0, Nat.zero_le _, rfl, by rw [List.take_zero, reg_nil]; rfl⟩
  case round =>
    obtain ⟨k, hk, rfl, rfl⟩ := hrel
    by_cases h : k < l.length
    · have g : (k : Int) < (strB l).size := by omega
      obtain ⟨x, hx⟩ : ∃ x, x = l.getD k 0 := ⟨_, rfl⟩
      have ha : ∀ h', (strB l)[k]'h' = x := fun h' => (at_strB l k h').trans hx.symm
      have HS := Lib.hid (reg_snoc 14695981039346656037 l k h)
      rw [← hx] at HS
      have hlt := reg_lt (n := 14695981039346656037) (l.take k) (by decide)
      obtain ⟨n, hn⟩ : ∃ n, n = reg 14695981039346656037 (l.take k) := ⟨_, rfl⟩
      rw [← hn] at HS hlt ⊢
      have hst := st_u64 n x hlt
      clear hx hn
      go_wp2_with fail
      go_round
      case rel => exact ⟨k + 1, by omega, by go_num, by rw [HS.out]⟩
      case measure => simp [intOf]; omega
    · obtain rfl : k = l.length := by omega
      go_wp2_with fail
      go_ret
      exact ⟨rfl, rfl⟩

set_option maxHeartbeats 2000000 in
theorem take_calls (b n : Nat) (l : List UInt8) (w : World) (hn : n < 18446744073709551616) (hb : NumAt w b n) (hL : l.length ≤ 100000) :
    Calls Tryd.prog 18 #[.pointer (some ⟨b, 0, none⟩), .string (strB l)] w fun e w' => e = .returned (.tuple #[]) ∧ NumAt w' b (reg n l) ∧ But b w w' := by
  have hs := strB_size l
  go_enter Tryd.func18, Tryd.ntmps18
  go_wp2_with fail
  go_loopw [7] (fun vi wr => ∃ k : Nat, k ≤ l.length ∧ vi = .int .i64 k ∧ Hid (NumAt wr b (reg n (l.take k))) ∧ Hid (But b w wr)) (fun vi _ => l.length - (intOf vi).toNat)
  case atStart => exact ⟨0, Nat.zero_le _, rfl, Lib.hid (by rw [List.take_zero, reg_nil]; exact hb), Lib.hid (But.refl _ _)⟩
  case round =>
    obtain ⟨k, hk, rfl, HN, HB⟩ := hrel
    by_cases h : k < l.length
    · have g : (k : Int) < (strB l).size := by omega
      obtain ⟨x, hx⟩ : ∃ x, x = l.getD k 0 := ⟨_, rfl⟩
      have ha : ∀ h', (strB l)[k]'h' = x := fun h' => (at_strB l k h').trans hx.symm
      have HS := Lib.hid (reg_snoc n l k h)
      rw [← hx] at HS
      have hlt := reg_lt (n := n) (l.take k) hn
      obtain ⟨m, hm⟩ : ∃ m, m = reg n (l.take k) := ⟨_, rfl⟩
      rw [← hm] at HS hlt HN
      have hst := st_u64 m x hlt
      clear hx hm
      go_wp2_with fail
      go_region_with (first | (go_at_call 19; (with_reducible refine (load_calls b m _ HN.out.drew).mono ?_); rintro e w' ⟨rfl, rfl⟩) | (go_at_call 17; (with_reducible refine (store_calls b m (st m x) _ HN.out.drew).mono ?_); rintro e w' ⟨rfl, rfl⟩))
      all_goals (go_wp2_with fail; exact ⟨⟨k + 1, by omega, by go_num, Lib.hid (by rw [HS.out]; exact (HN.out.set _).drew), Lib.hid (HB.out.setCell 0 _).drew⟩, by simp [intOf]; omega⟩)
    · obtain rfl : k = l.length := by omega
      go_wp2_with fail
      go_end0
      exact ⟨rfl, by rw [← List.take_length (l := l)]; exact HN.out, HB.out⟩

theorem store_in (b n m : Nat) (w : World) (h : NumAt w b n) :
    Calls Tryd.prog 17 #[.pointer (some ⟨b, 0, none⟩), .int .u64 (m : Nat)] w fun e w' => e = .returned (.tuple #[]) ∧ NumAt w' b m ∧ But b w w' := by
  refine (store_calls b n m w h).mono ?_
  rintro e w' ⟨rfl, rfl⟩
  exact ⟨rfl, h.set m, (But.refl _ _).setCell 0 _⟩

theorem store_new (w : World) :
    Calls Tryd.prog 17 #[.pointer (some ⟨w.heap.size, 0, none⟩), .int .u64 14695981039346656037] (w.alloc (.cells #[.int .u64 0] 43)) fun e w' => e = .returned (.tuple #[]) ∧ NumAt w' w.heap.size 14695981039346656037 ∧ But w.heap.size (w.alloc (.cells #[.int .u64 0] 43)) w' :=
  store_in w.heap.size 0 14695981039346656037 _ (NumAt.new w 0)

/-- The texts ls lie where the slice A points. -/
def StrsIn (w : World) (A : Option Addr) (ls : List (List UInt8)) : Prop :=
  0 < ls.length → ∃ b off, A = some ⟨b, off, none⟩ ∧ b < w.heap.size ∧ ∀ j, j < ls.length → w.cell? ⟨b, off + j, none⟩ = some (.string (strB (ls.getD j [])))
theorem StrsIn.below {w w' : World} {A : Option Addr} {ls : List (List UInt8)} (h : StrsIn w A ls) (hb : Below w.heap.size w w') : StrsIn w' A ls := by
  intro hl
  obtain ⟨b, off, rfl, hlt, hc⟩ := h hl
  exact ⟨b, off, rfl, Nat.lt_of_lt_of_le hlt hb.size, fun j hj => (hb.cell hlt).trans (hc j hj)⟩

theorem flat_take (ls : List (List UInt8)) (k : Nat) (h : k < ls.length) : (ls.take (k + 1)).flatten = (ls.take k).flatten ++ ls.getD k [] := by
  have e : ls.take (k + 1) = ls.take k ++ [ls.getD k []] := by
    rw [List.take_add_one, List.getElem?_eq_getElem h, List.getD_eq_getElem?_getD, List.getElem?_eq_getElem h]
    rfl
  rw [e, List.flatten_append, List.flatten_cons, List.flatten_nil, List.append_nil]
theorem part_le (ls : List (List UInt8)) (k : Nat) (h : k < ls.length) : (ls.getD k []).length ≤ ls.flatten.length := by
  rw [List.getD_eq_getElem?_getD, List.getElem?_eq_getElem h]
  exact (List.sublist_flatten_of_mem (List.getElem_mem h)).length_le

set_option maxHeartbeats 2000000 in
theorem sumOf_calls (A : Option Addr) (n cap : Nat) (ls : List (List UInt8)) (w : World) (hA : StrsIn w A ls) (hln : ls.length = n) (hn : n ≤ 100000) (hL : ls.flatten.length ≤ 100000) :
    Calls Tryd.prog 13 #[.slice A n cap] w fun e w' => e = .returned (.int .u64 (sumL ls.flatten : Nat)) ∧ Below w.heap.size w w' := by
  have HA := Lib.hid hA
  clear hA
  subst hln
  go_enter Tryd.func13, Tryd.ntmps13
  go_wp2_with fail
  (with_reducible refine (store_new w).mono ?_)
  rintro e w1 ⟨rfl, hN, hB⟩
  have HN := Lib.hid hN
  have HB : Hid (Below w.heap.size w w1) := Lib.hid (((Below.refl w.heap.size w).alloc (Nat.le_refl _) _).trans (hB.below (Nat.le_refl _) (by simp)))
  clear hN hB
  go_wp2_with fail
  go_loopw [10] (fun vi wr => ∃ k : Nat, k ≤ ls.length ∧ vi = .int .i64 k ∧ Hid (NumAt wr w.heap.size (reg 14695981039346656037 (ls.take k).flatten)) ∧ Hid (Below w.heap.size w wr)) (fun vi _ => ls.length - (intOf vi).toNat)
  case atStart => exact ⟨0, Nat.zero_le _, rfl, Lib.hid (by rw [List.take_zero, List.flatten_nil, reg_nil]; exact HN.out), HB⟩
  case round =>
    obtain ⟨k, hk, rfl, HN, HB⟩ := hrel
    by_cases h : k < ls.length
    · have g : (k : Int) < ls.length := by omega
      obtain ⟨b, off, rfl, hlt, hc⟩ := HA.out (by omega)
      have hc' := (HB.out.cell (p := ⟨b, off + k, none⟩) hlt).trans (hc k h)
      have HF := Lib.hid (flat_take ls k h)
      have HP := Lib.hid (part_le ls k h)
      obtain ⟨x, hx⟩ : ∃ x, x = ls.getD k [] := ⟨_, rfl⟩
      rw [← hx] at hc' HF HP
      clear hx hc
      go_wp2_with fail
      (with_reducible refine (take_calls w.heap.size _ x _ (reg_lt _ (by decide)) HN.out (by have := HP.out; omega)).mono ?_)
      rintro e w2 ⟨rfl, hN2, hB2⟩
      have HN2 := Lib.hid hN2
      have HB2 : Hid (Below w.heap.size w w2) := Lib.hid (HB.out.trans (hB2.below (Nat.le_refl _) HB.out.size))
      clear hN2 hB2
      go_wp2_with fail
      go_roundw
      case rel => exact ⟨k + 1, by omega, by go_num, Lib.hid (by rw [HF.out, reg_append]; exact HN2.out), HB2⟩
      case measure => simp [intOf]; omega
    · obtain rfl : k = ls.length := by omega
      go_wp2_with fail
      (with_reducible refine (load_calls w.heap.size _ _ HN.out).mono ?_)
      rintro e w2 ⟨rfl, rfl⟩
      go_wp2_with fail
      go_ret
      exact ⟨by simp [sumL], HB.out⟩

theorem two_below {a b c : World} (h : Below a.heap.size a b) (k : Below b.heap.size b c) : Below a.heap.size a c := h.trans (k.mono h.size)

set_option maxHeartbeats 1000000 in
theorem sum_calls (l : List UInt8) (w : World) (hL : l.length ≤ 100000) :
    Calls Tryd.prog 7 #[.string (strB l)] w fun e w' => e = .returned (.int .u64 (sumL l : Nat)) ∧ Below w.heap.size w w' := by
  have HS : Hid (StrsIn (w.alloc (.cells #[.string (strB l)] 9)) (some ⟨w.heap.size, 0, none⟩) [l]) := Lib.hid fun _ => ⟨w.heap.size, 0, rfl, by simp, fun j hj => by
    obtain rfl : j = 0 := by simpa using hj
    rw [cell_of_row _ _ _ _ _ _ (heap_alloc_new w _)]; rfl⟩
  have HE : Hid (sumL [l].flatten = sumL l) := Lib.hid (by simp)
  go_enter Tryd.func7, Tryd.ntmps7
  go_wp2_with fail
  (with_reducible refine (sumOf_calls (some ⟨w.heap.size, 0, none⟩) 1 1 [l] _ HS.out rfl (by decide) (by simpa using hL)).mono ?_)
  rintro e w2 ⟨rfl, hB⟩
  rw [HE.out]
  go_wp2_with fail
  go_ret
  exact ⟨rfl, two_below ((Below.refl w.heap.size w).alloc (Nat.le_refl _) _) hB⟩
end Go.Proofs.YtgcinbkecgfmbaaDoor
