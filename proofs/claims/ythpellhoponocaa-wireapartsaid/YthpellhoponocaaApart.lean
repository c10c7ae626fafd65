/- WireApart: the walk. No statement is proved here. -/
import Derived.Test.YthpellhoponocaaBack
import Derived.BigQuiet
namespace Go.Proofs.Ythpellhoponocaa
open Go.RowKit

theorem b8_lt (x y : Int) : (b8 x < b8 y) ↔ x % 256 < y % 256 := by
  rw [UInt8.lt_iff_toNat_lt, b8_toNat, b8_toNat]
  omega
theorem b8_eq (x y : Int) : (b8 x = b8 y) ↔ x % 256 = y % 256 := by
  rw [← UInt8.toNat_inj, b8_toNat, b8_toNat]
  omega

theorem two_lt (x y : Nat) (hx : x < 65536) (hy : y < 65536) : Op.bytesLess (twoL (x : Nat)) (twoL (y : Nat)) = decide (x < y) := by
  unfold twoL
  simp only [Op.bytesLess, Bool.and_false, Bool.or_false]
  rw [Bool.eq_iff_iff, Bool.or_eq_true, Bool.and_eq_true, decide_eq_true_iff, decide_eq_true_iff, decide_eq_true_iff, beq_iff_eq, b8_lt, b8_lt, b8_eq]
  omega

theorem four_lt (x y : Nat) (hx : x < 65536) (hy : y < 65536) : Op.bytesLess (fourL (x : Nat)) (fourL (y : Nat)) = decide (x < y) := by
  have h0 (n : Nat) (hn : n < 65536) : fourL (n : Nat) = 0 :: 0 :: twoL (n : Nat) := by
    unfold fourL
    rw [show ((n : Int) / 65536) = 0 by omega]
    rfl
  rw [h0 x hx, h0 y hy]
  simp only [Op.bytesLess, beq_self_eq_true, Bool.true_and]
  rw [two_lt x y hx hy]
  rfl

theorem twoL_inj (x y : Nat) (hx : x < 65536) (hy : y < 65536) (h : twoL (x : Nat) = twoL (y : Nat)) : x = y := by
  rw [← num_two x hx, h, num_two y hy]

theorem text_begins (l m : List UInt8) (hl : l.length ≤ 500) (hm : m.length ≤ 500) (h : (textL m).take (textL l).length = textL l) : l = m := by
  rw [textL_is l (by omega), textL_is m (by omega)] at h
  have h2 := congrArg (List.take 2) h
  rw [List.take_take, take_app _ l 2 rfl, show min 2 (twoL (l.length : Nat) ++ l).length = 2 by simp [twoL_len], take_app _ m 2 rfl] at h2
  have hlen : m.length = l.length := twoL_inj _ _ (by omega) (by omega) h2
  rw [List.take_of_length_le (by simp [twoL_len]; omega), hlen] at h
  exact (List.append_cancel_left h).symm

theorem ap_yes (l m : List UInt8) (hl : l.length ≤ 500) (hm : m.length ≤ 500) : (((strB (textL m)).extract 0 (strB (textL l)).size).toList == (strB (textL l)).toList) = ((strB l).toList == (strB m).toList) := by
  rw [strB_size, take_ext, strB_toList, strB_toList, strB_toList, strB_toList, Bool.eq_iff_iff, beq_iff_eq, beq_iff_eq]
  constructor
  · exact text_begins l m hl hm
  · rintro rfl
    exact List.take_length

theorem ap_no (l m : List UInt8) (h : ¬ (strB (textL l)).size ≤ (strB (textL m)).size) : ((strB l).toList == (strB m).toList) = false := by
  rw [strB_toList, strB_toList, beq_eq_false_iff_ne]
  rintro rfl
  omega

theorem below_q {w u : World} {o : Obj} {n : Nat} (h : Below ((w.alloc o).drewN n).heap.size ((w.alloc o).drewN n) u) : Below w.heap.size w u :=
  Below.trans ((Below.refl w.heap.size w).alloc (Nat.le_refl _) o) ((show Below (w.alloc o).heap.size (w.alloc o) u from ⟨h.os, h.tape, h.output, h.size, h.block⟩).mono (by simp))

set_option maxRecDepth 100000 in
set_option maxHeartbeats 1600000 in
theorem apart_few (x y : Nat) (l m : List UInt8) (w : World) (hx : x < 65536) (hy : y < 65536) (hl : l.length ≤ 500) (hm : m.length ≤ 500) :
    Calls Try.prog 6 #[.int .u16 (x : Nat), .int .u16 (y : Nat), .agg #[.string (strB l), .string (strB m)]] w fun e w' => e = .returned (.bool true) ∧ Below w.heap.size w w' := by
  have g1 : ¬ (500 : Int) < (strB l).size := by rw [strB_size]; omega
  have g2 : ¬ (500 : Int) < (strB m).size := by rw [strB_size]; omega
  have hY := Lib.hid (ap_yes l m hl hm)
  have hN := Lib.hid (ap_no l m)
  have l2 : Op.bytesLess (strB (twoL (x : Nat))).toList (strB (twoL (y : Nat))).toList = decide (x < y) := by rw [strB_toList, strB_toList]; exact two_lt x y hx hy
  have l4 : Op.bytesLess (strB (fourL (x : Nat))).toList (strB (fourL (y : Nat))).toList = decide (x < y) := by rw [strB_toList, strB_toList]; exact four_lt x y hx hy
  have c0 : (w.alloc (.cells #[.string (strB l), .string (strB m)] 39)).cell? ⟨w.heap.size, 0, none⟩ = some (.string (strB l)) := by rw [cell_of_row _ _ _ _ _ _ (heap_alloc_new w _)]; rfl
  have c1 : (w.alloc (.cells #[.string (strB l), .string (strB m)] 39)).cell? ⟨w.heap.size, 1, none⟩ = some (.string (strB m)) := by rw [cell_of_row _ _ _ _ _ _ (heap_alloc_new w _)]; rfl
  clear hl hm
  go_enter Try.func6, Try.ntmps6
  go_wp2_with fail
  go_quiet (fail)
  go_wp2_with fail
  (with_reducible refine (text_calls l _).mono ?_)
  rintro e w1 ⟨rfl, B1⟩
  have HB1 := Lib.hid (below_q B1)
  clear B1
  go_wp2_with fail
  (with_reducible refine (text_calls m _).mono ?_)
  rintro e w2 ⟨rfl, B2⟩
  have HB2 := Lib.hid (below_two HB1.out B2)
  clear B2 HB1
  by_cases hz : (strB (textL l)).size ≤ (strB (textL m)).size
  · have hz' : ((strB (textL l)).size : Int) ≤ (strB (textL m)).size := by omega
    have hi := hY.out
    go_wp2_with fail
    (with_reducible refine (awake_true _).mono ?_)
    rintro e w3 ⟨rfl, B3⟩
    go_wp2_with fail
    (with_reducible refine (two_calls (x : Nat) _).mono ?_)
    rintro e w4 ⟨rfl, B4⟩
    go_wp2_with fail
    (with_reducible refine (two_calls (y : Nat) _).mono ?_)
    rintro e w5 ⟨rfl, B5⟩
    go_wp2_with fail
    (with_reducible refine (four_calls (x : Nat) _).mono ?_)
    rintro e w6 ⟨rfl, B6⟩
    go_wp2_with fail
    (with_reducible refine (four_calls (y : Nat) _).mono ?_)
    rintro e w7 ⟨rfl, B7⟩
    go_wp2_with fail
    go_ret
    exact ⟨rfl, below_two (below_two (below_two (below_two (below_two HB2.out B3) B4) B5) B6) B7⟩
  · have hz' : ¬ ((strB (textL l)).size : Int) ≤ (strB (textL m)).size := by omega
    have hi := hN.out hz
    go_wp2_with fail
    (with_reducible refine (awake_true _).mono ?_)
    rintro e w3 ⟨rfl, B3⟩
    go_wp2_with fail
    (with_reducible refine (two_calls (x : Nat) _).mono ?_)
    rintro e w4 ⟨rfl, B4⟩
    go_wp2_with fail
    (with_reducible refine (two_calls (y : Nat) _).mono ?_)
    rintro e w5 ⟨rfl, B5⟩
    go_wp2_with fail
    (with_reducible refine (four_calls (x : Nat) _).mono ?_)
    rintro e w6 ⟨rfl, B6⟩
    go_wp2_with fail
    (with_reducible refine (four_calls (y : Nat) _).mono ?_)
    rintro e w7 ⟨rfl, B7⟩
    go_wp2_with fail
    go_ret
    exact ⟨rfl, below_two (below_two (below_two (below_two (below_two HB2.out B3) B4) B5) B6) B7⟩

set_option maxRecDepth 100000 in
set_option maxHeartbeats 1600000 in
theorem apart_calls (x y : Nat) (s t : ByteArray) (w : World) (hx : x < 65536) (hy : y < 65536) : Calls Try.prog 6 #[.int .u16 (x : Nat), .int .u16 (y : Nat), .agg #[.string s, .string t]] w fun e w' => e = .returned (.bool true) ∧ Below w.heap.size w w' := by
  by_cases h1 : s.size ≤ 500
  · by_cases h2 : t.size ≤ 500
    · have h := apart_few x y s.data.toList t.data.toList w hx hy (by rw [len_data]; exact h1) (by rw [len_data]; exact h2)
      rw [strB_of, strB_of] at h
      exact h
    · have g1 : ¬ (500 : Int) < s.size := by omega
      have g2 : (500 : Int) < t.size := by omega
      have c0 : (w.alloc (.cells #[.string s, .string t] 39)).cell? ⟨w.heap.size, 0, none⟩ = some (.string s) := by rw [cell_of_row _ _ _ _ _ _ (heap_alloc_new w _)]; rfl
      have c1 : (w.alloc (.cells #[.string s, .string t] 39)).cell? ⟨w.heap.size, 1, none⟩ = some (.string t) := by rw [cell_of_row _ _ _ _ _ _ (heap_alloc_new w _)]; rfl
      go_enter Try.func6, Try.ntmps6
      go_wp2_with fail
      go_quiet (fail)
      go_wp2_with fail
      (with_reducible refine (awake_true _).mono ?_)
      rintro e w3 ⟨rfl, hB3⟩
      go_wp2_with fail
      go_ret
      exact ⟨rfl, below_q hB3⟩
  · have g1 : (500 : Int) < s.size := by omega
    have c0 : (w.alloc (.cells #[.string s, .string t] 39)).cell? ⟨w.heap.size, 0, none⟩ = some (.string s) := by rw [cell_of_row _ _ _ _ _ _ (heap_alloc_new w _)]; rfl
    have c1 : (w.alloc (.cells #[.string s, .string t] 39)).cell? ⟨w.heap.size, 1, none⟩ = some (.string t) := by rw [cell_of_row _ _ _ _ _ _ (heap_alloc_new w _)]; rfl
    go_enter Try.func6, Try.ntmps6
    go_wp2_with fail
    go_quiet (fail)
    go_wp2_with fail
    (with_reducible refine (awake_true _).mono ?_)
    rintro e w3 ⟨rfl, hB3⟩
    go_wp2_with fail
    go_ret
    exact ⟨rfl, below_q hB3⟩
end Go.Proofs.Ythpellhoponocaa
