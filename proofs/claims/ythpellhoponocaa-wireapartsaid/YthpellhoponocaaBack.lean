/- WireBack: what is written is read as it was; the walk. No statement is proved here. -/
import Derived.Test.YthpellhoponocaaAwake
namespace Go.Proofs.Ythpellhoponocaa
open Go.RowKit

theorem take_app (a r : List UInt8) (k : Nat) (h : a.length = k) : (a ++ r).take k = a := by subst h; exact List.take_left
theorem drop_app (a r : List UInt8) (k : Nat) (h : a.length = k) : (a ++ r).drop k = r := by subst h; exact List.drop_left
theorem good_app (a r : List UInt8) (k : Nat) (h : a.length = k) : good k ⟨a ++ r, false⟩ = true := good_yes (by simp; omega)

theorem inside_app (a r : List UInt8) (k : Nat) (low high : Int) (h : a.length = k) : inside k low high ⟨a ++ r, false⟩ = (decide (low ≤ (numL a : Int)) && decide ((numL a : Int) ≤ high)) := by
  unfold inside
  rw [good_app a r k h, Bool.true_and]
  show (decide (low ≤ (numL ((a ++ r).take k) : Int)) && _) = _
  rw [take_app a r k h]

theorem numV_app (a r : List UInt8) (k : Nat) (low high : Int) (h : a.length = k) (h1 : low ≤ (numL a : Int)) (h2 : (numL a : Int) ≤ high) : numV k low high ⟨a ++ r, false⟩ = numL a := by
  unfold numV
  rw [inside_app a r k low high h, decide_eq_true h1, decide_eq_true h2]
  show numL ((a ++ r).take k) = _
  rw [take_app a r k h]
theorem numS_app (a r : List UInt8) (k : Nat) (low high : Int) (h : a.length = k) (h1 : low ≤ (numL a : Int)) (h2 : (numL a : Int) ≤ high) : numS k low high ⟨a ++ r, false⟩ = ⟨r, false⟩ := by
  unfold numS
  rw [inside_app a r k low high h, decide_eq_true h1, decide_eq_true h2, good_app a r k h]
  show TK.mk ((a ++ r).drop k) false = _
  rw [drop_app a r k h]

theorem num_two (n : Nat) (h : n < 65536) : numL (twoL (n : Nat)) = n := by
  have := numL_twoL n
  omega
theorem num_four (n : Nat) (h : n < 4294967296) : numL (fourL (n : Nat)) = n := by
  have := numL_fourL n
  omega

theorem textL_is (l : List UInt8) (h : l.length ≤ 65535) : textL l = twoL (l.length : Nat) ++ l := by
  unfold textL
  rw [List.take_of_length_le h, show min l.length 65535 = l.length by omega]

theorem txt_app (l r : List UInt8) (most : Int) (h : l.length ≤ 65535) (hm : (l.length : Int) ≤ most) : txtV most ⟨textL l ++ r, false⟩ = l ∧ txtS most ⟨textL l ++ r, false⟩ = ⟨r, false⟩ := by
  have hn := num_two l.length (by omega)
  have i1 : inside 2 0 most ⟨twoL (l.length : Nat) ++ (l ++ r), false⟩ = true := by
    rw [inside_app _ _ 2 0 most rfl, hn, decide_eq_true (by omega), decide_eq_true hm]; rfl
  have i2 := numV_app (twoL (l.length : Nat)) (l ++ r) 2 0 most rfl (by omega) (by rw [hn]; exact hm)
  have i3 := numS_app (twoL (l.length : Nat)) (l ++ r) 2 0 most rfl (by omega) (by rw [hn]; exact hm)
  rw [hn] at i2
  rw [textL_is l h, List.append_assoc]
  unfold txtV txtS
  rw [i1, i2, i3, if_pos rfl, if_pos rfl]
  unfold takeV takeS
  rw [good_app l r l.length rfl, if_pos rfl, if_pos rfl]
  exact ⟨take_app l r _ rfl, by show TK.mk ((l ++ r).drop l.length) false = _; rw [drop_app l r _ rfl]⟩

theorem txt_less (l : List UInt8) (h : l.length ≤ 65535) : txtV ((l.length : Int) - 1) ⟨textL l, false⟩ = [] ∧ txtS ((l.length : Int) - 1) ⟨textL l, false⟩ = ⟨l, true⟩ := by
  have hn := num_two l.length (by omega)
  have i1 : inside 2 0 ((l.length : Int) - 1) ⟨twoL (l.length : Nat) ++ l, false⟩ = false := by
    rw [inside_app _ _ 2 0 _ rfl, hn, decide_eq_false (p := (l.length : Int) ≤ (l.length : Int) - 1) (by omega), Bool.and_false]
  rw [textL_is l h]
  unfold txtV txtS
  rw [i1]
  refine ⟨rfl, ?_⟩
  show numS 2 0 ((l.length : Int) - 1) ⟨twoL (l.length : Nat) ++ l, false⟩ = _
  unfold numS
  rw [i1, good_app _ _ 2 rfl]
  rfl

section
variable (b : Nat) (w : World)
theorem bk_two (n : Nat) (r : List UInt8) (hn : n < 65536) (h : TP 29 w b ⟨twoL (n : Nat) ++ r, false⟩) :
    Calls Try.prog 15 #[.pointer (some ⟨b, 0, none⟩), .int .i64 0, .int .i64 65535] w fun e w' => e = .returned (.int .i64 (n : Nat)) ∧ TP 29 w' b ⟨r, false⟩ ∧ But b w w' := by
  have h := ttwo_calls b 0 65535 _ w h
  have e := num_two n hn
  rw [numV_app (twoL (n : Nat)) r 2 0 65535 rfl (by omega) (by omega), numS_app (twoL (n : Nat)) r 2 0 65535 rfl (by omega) (by omega), e] at h
  exact h
theorem bk_four (n : Nat) (r : List UInt8) (hn : n < 4294967296) (h : TP 29 w b ⟨fourL (n : Nat) ++ r, false⟩) :
    Calls Try.prog 17 #[.pointer (some ⟨b, 0, none⟩), .int .i64 0, .int .i64 4294967295] w fun e w' => e = .returned (.int .i64 (n : Nat)) ∧ TP 29 w' b ⟨r, false⟩ ∧ But b w w' := by
  have h := tfour_calls b 0 4294967295 _ w h
  have e := num_four n hn
  rw [numV_app (fourL (n : Nat)) r 4 0 4294967295 rfl (by omega) (by omega), numS_app (fourL (n : Nat)) r 4 0 4294967295 rfl (by omega) (by omega), e] at h
  exact h
theorem bk_text (l r : List UInt8) (hl : l.length ≤ 65535) (h : TP 29 w b ⟨textL l ++ r, false⟩) :
    Calls Try.prog 19 #[.pointer (some ⟨b, 0, none⟩), .int .i64 ((strB l).size : Nat)] w fun e w' => e = .returned (.string (strB l)) ∧ TP 29 w' b ⟨r, false⟩ ∧ But b w w' := by
  have h := ttext_calls b ((strB l).size : Nat) _ w h
  have e := txt_app l r ((strB l).size : Nat) hl (by rw [strB_size]; exact Int.le_refl _)
  rw [e.1, e.2] at h
  exact h
theorem bk_less (l : List UInt8) (hl : l.length ≤ 65535) (h : TP 29 w b ⟨textL l, false⟩) :
    Calls Try.prog 19 #[.pointer (some ⟨b, 0, none⟩), .int .i64 (((strB l).size : Int) - 1)] w fun e w' => e = .returned (.string ⟨#[]⟩) ∧ TP 29 w' b ⟨l, true⟩ ∧ But b w w' := by
  have h := ttext_calls b (((strB l).size : Int) - 1) _ w h
  have e := txt_less l hl
  rw [strB_size] at h ⊢
  rw [e.1, e.2] at h
  exact h
theorem bk_mark (h : TP 29 w b ⟨[33], false⟩) :
    Calls Try.prog 21 #[.pointer (some ⟨b, 0, none⟩), .string ⟨#[33]⟩] w fun e w' => e = .returned (.tuple #[]) ∧ TP 29 w' b ⟨[], false⟩ ∧ But b w w' := by
  have h := mark_calls b [33] _ w h
  rw [show markS [33] ⟨[33], false⟩ = ⟨[], false⟩ by kernel_rfl] at h
  exact h
theorem bk_done (h : TP 29 w b ⟨[33], false⟩) :
    Calls Try.prog 23 #[.pointer (some ⟨b, 0, none⟩)] w fun e w' => e = .returned (.bool false) ∧ w = w' := done_calls b _ w h
end

theorem bk_all (n m : Nat) (l : List UInt8) : strB (twoL (n : Nat)) ++ strB (fourL (m : Nat)) ++ strB (textL l) ++ ⟨#[33]⟩ = strB (twoL (n : Nat) ++ (fourL (m : Nat) ++ (textL l ++ [33]))) := by
  rw [strB_append, strB_append, show (⟨#[33]⟩ : ByteArray) = strB [33] from rfl, strB_append, List.append_assoc, List.append_assoc]

theorem bk_new (n m : Nat) (l : List UInt8) (w : World) : TP 29 (w.alloc (.cells #[.string (strB (twoL (n : Nat)) ++ strB (fourL (m : Nat)) ++ strB (textL l) ++ ⟨#[33]⟩), .bool false] 29)) w.heap.size ⟨twoL (n : Nat) ++ (fourL (m : Nat) ++ (textL l ++ [33])), false⟩ := by
  rw [bk_all]
  exact TP.new 29 w _ false

set_option maxRecDepth 100000 in
set_option maxHeartbeats 1600000 in
theorem back_few (n m : Nat) (l : List UInt8) (w : World) (hn : n < 65536) (hm : m < 4294967296) (hl : l.length ≤ 500) :
    Calls Try.prog 5 #[.int .u16 (n : Nat), .int .u32 (m : Nat), .string (strB l)] w fun e w' => e = .returned (.bool true) ∧ Below w.heap.size w w' := by
  have g1 : ¬ (500 : Int) < (strB l).size := by rw [strB_size]; omega
  have g2 : (strB l).size ≤ 500 := by rw [strB_size]; omega
  have HL : Hid (l.length ≤ 65535) := by show l.length ≤ 65535; omega
  have s1 : (strB (twoL (n : Nat))).size = 2 := by rw [strB_size, twoL_len]
  have s2 : (strB (fourL (m : Nat))).size = 4 := by rw [strB_size, fourL_len]
  have s3 : (strB (textL l)).size ≤ 502 := by rw [strB_size, textL_len]; omega
  have NN := fun w => Lib.hid (bk_new n m l w)
  clear hl
  go_enter Try.func5, Try.ntmps5
  go_wp2_with fail
  (with_reducible refine (two_calls (n : Nat) _).mono ?_)
  rintro e w1 ⟨rfl, B1⟩
  have HB1 := Lib.hid B1
  clear B1
  go_wp2_with fail
  (with_reducible refine (four_calls (m : Nat) _).mono ?_)
  rintro e w2 ⟨rfl, B2⟩
  have HB2 := Lib.hid (below_two HB1.out B2)
  clear B2 HB1
  go_wp2_with fail
  (with_reducible refine (text_calls l _).mono ?_)
  rintro e w3 ⟨rfl, B3⟩
  have HB3 := Lib.hid (below_two HB2.out B3)
  clear B3 HB2
  go_wp2_with fail
  (with_reducible refine (bk_two w3.heap.size _ n _ hn (NN w3).out).mono ?_)
  rintro e w4 ⟨rfl, T4, B4⟩
  have HT4 := Lib.hid T4
  have HB4 := Lib.hid (below_but (below_new HB3.out _) B4 HB3.out.size)
  clear T4 B4
  go_wp2_with fail
  (with_reducible refine (bk_four w3.heap.size _ m _ hm HT4.out).mono ?_)
  rintro e w5 ⟨rfl, T5, B5⟩
  have HT5 := Lib.hid T5
  have HB5 := Lib.hid (below_but HB4.out B5 HB3.out.size)
  clear T5 B5 HT4 HB4
  go_wp2_with fail
  (with_reducible refine (bk_text w3.heap.size _ l _ HL.out HT5.out).mono ?_)
  rintro e w6 ⟨rfl, T6, B6⟩
  have HT6 := Lib.hid T6
  have HB6 := Lib.hid (below_but HB5.out B6 HB3.out.size)
  have c0 : w6.cell? ⟨w3.heap.size, 0, none⟩ = some (.string ⟨#[33]⟩) := T6.rest
  have c1 := T6.bad
  clear T6 B6 HT5 HB5
  go_wp2_with fail
  (with_reducible refine (bk_done w3.heap.size _ HT6.out).mono ?_)
  rintro e w6' ⟨rfl, rfl⟩
  go_wp2_with fail
  (with_reducible refine (bk_mark w3.heap.size _ HT6.out).mono ?_)
  rintro e w7 ⟨rfl, T7, B7⟩
  have HT7 := Lib.hid T7
  have HB7 := Lib.hid (below_but HB6.out B7 HB3.out.size)
  clear T7 B7 HT6 HB6 c0 c1
  go_wp2_with fail
  (with_reducible refine (text_calls l _).mono ?_)
  rintro e w8 ⟨rfl, B8⟩
  have HT8 := Lib.hid (HT7.out.below B8)
  have HB8 := Lib.hid (below_two HB7.out B8)
  clear B8 HT7 HB7
  go_wp2_with fail
  (with_reducible refine (bk_less w8.heap.size _ l HL.out (TP.new 29 w8 (textL l) false)).mono ?_)
  rintro e w9 ⟨rfl, T9, B9⟩
  have HU9 := Lib.hid T9
  have HT9 := Lib.hid ((HT8.out.alloc (.cells #[.string (strB (textL l)), .bool false] 29)).but B9 (Nat.ne_of_lt HT8.out.lt))
  have HB9 := Lib.hid (below_but (below_new HB8.out _) B9 HB8.out.size)
  clear T9 B9 HT8
  go_wp2_with fail
  (with_reducible refine (awake_true _).mono ?_)
  rintro e wa ⟨rfl, Ba⟩
  have HUa := Lib.hid (HU9.out.below Ba)
  have HTa := Lib.hid (HT9.out.below Ba)
  have HBa := Lib.hid (below_two HB9.out Ba)
  clear Ba HU9 HT9 HB9
  go_wp2_with fail
  (with_reducible refine (aw_done w3.heap.size _ HTa.out).mono ?_)
  rintro e wa' ⟨rfl, rfl⟩
  have c1 := HUa.out.bad
  go_wp2_with fail
  go_ret
  exact ⟨rfl, HBa.out⟩

set_option maxRecDepth 100000 in
set_option maxHeartbeats 1600000 in
theorem back_calls (n m : Nat) (s : ByteArray) (w : World) (hn : n < 65536) (hm : m < 4294967296) : Calls Try.prog 5 #[.int .u16 (n : Nat), .int .u32 (m : Nat), .string s] w fun e w' => e = .returned (.bool true) ∧ Below w.heap.size w w' := by
  by_cases h1 : s.size ≤ 500
  · have h := back_few n m s.data.toList w hn hm (by rw [len_data]; exact h1)
    rw [strB_of] at h
    exact h
  · have g1 : (500 : Int) < s.size := by omega
    go_enter Try.func5, Try.ntmps5
    go_wp2_with fail
    (with_reducible refine (awake_true _).mono ?_)
    rintro e w3 ⟨rfl, hB3⟩
    go_wp2_with fail
    go_ret
    exact ⟨rfl, hB3⟩
end Go.Proofs.Ythpellhoponocaa
