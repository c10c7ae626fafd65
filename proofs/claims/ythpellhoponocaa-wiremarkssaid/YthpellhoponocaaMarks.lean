/- WireMarks: the walk. No statement is proved here. -/
import Derived.Test.YthpellhoponocaaBack
namespace Go.Proofs.Ythpellhoponocaa
open Go.RowKit

/-- Whether m stands at the beginning. -/
def starts (l m : List UInt8) : Bool := decide (m.length ≤ l.length) && (l.take m.length == m)

theorem mk_there (m r : List UInt8) : markS m ⟨m ++ r, false⟩ = ⟨r, false⟩ := by
  unfold markS
  rw [good_app m r m.length rfl, if_pos rfl]
  show TK.mk ((m ++ r).drop m.length) (!((m ++ r).take m.length == m)) = _
  rw [take_app m r _ rfl, drop_app m r _ rfl, beq_self_eq_true]; rfl

theorem mk_bad (l m : List UInt8) : (markS m ⟨l, false⟩).bad = !starts l m := by
  unfold markS starts
  by_cases h : m.length ≤ l.length
  · rw [good_yes h, if_pos rfl, decide_eq_true h, Bool.true_and]
  · rw [good_no (by omega), decide_eq_false h]; rfl

section
variable (b : Nat) (w : World)
theorem mk_mark (m r : List UInt8) (h : TP 29 w b ⟨m ++ r, false⟩) :
    Calls Try.prog 21 #[.pointer (some ⟨b, 0, none⟩), .string (strB m)] w fun e w' => e = .returned (.tuple #[]) ∧ TP 29 w' b ⟨r, false⟩ ∧ But b w w' := by
  have h := mark_calls b m _ w h
  rw [mk_there] at h
  exact h
theorem mk_two (l : List UInt8) (h : TP 29 w b ⟨l, true⟩) :
    Calls Try.prog 15 #[.pointer (some ⟨b, 0, none⟩), .int .i64 0, .int .i64 65535] w fun e w' => e = .returned (.int .i64 0) ∧ TP 29 w' b ⟨l, true⟩ ∧ But b w w' := ttwo_calls b 0 65535 _ w h
theorem mk_four (l : List UInt8) (h : TP 29 w b ⟨l, true⟩) :
    Calls Try.prog 17 #[.pointer (some ⟨b, 0, none⟩), .int .i64 0, .int .i64 4294967295] w fun e w' => e = .returned (.int .i64 0) ∧ TP 29 w' b ⟨l, true⟩ ∧ But b w w' := tfour_calls b 0 4294967295 _ w h
theorem mk_text (l : List UInt8) (h : TP 29 w b ⟨l, true⟩) :
    Calls Try.prog 19 #[.pointer (some ⟨b, 0, none⟩), .int .i64 100] w fun e w' => e = .returned (.string ⟨#[]⟩) ∧ TP 29 w' b ⟨l, true⟩ ∧ But b w w' := ttext_calls b 100 _ w h
theorem mk_done (l : List UInt8) (h : TP 29 w b ⟨l, true⟩) :
    Calls Try.prog 23 #[.pointer (some ⟨b, 0, none⟩)] w fun e w' => e = .returned (.bool false) ∧ w = w' := done_calls b _ w h
end

theorem mk_new (n : Nat) (l m : List UInt8) (w : World) : TP 29 (w.alloc (.cells #[.string (strB m ++ strB (twoL (n : Nat)) ++ strB l), .bool false] 29)) w.heap.size ⟨m ++ (twoL (n : Nat) ++ l), false⟩ := by
  rw [strB_append, strB_append, List.append_assoc]
  exact TP.new 29 w _ false

/-- What the walk says of the beginning. -/
theorem mk_is (l m : List UInt8) (h : m.length ≤ l.length) : (((strB l).extract 0 (strB m).size).toList == (strB m).toList) = starts l m := by
  unfold starts
  rw [strB_size, take_ext, strB_toList, strB_toList, decide_eq_true h, Bool.true_and]

set_option maxRecDepth 100000 in
set_option maxHeartbeats 1600000 in
theorem marks_few (n : Nat) (l m : List UInt8) (w : World) (hn : n < 65536) (hl : l.length ≤ 200) (hm : m.length ≤ 50) :
    Calls Try.prog 7 #[.string (strB l), .string (strB m), .int .u16 (n : Nat)] w fun e w' => e = .returned (.bool true) ∧ Below w.heap.size w w' := by
  have g1 : ¬ (200 : Int) < (strB l).size := by rw [strB_size]; omega
  have g2 : ¬ (50 : Int) < (strB m).size := by rw [strB_size]; omega
  have g1' : (strB l).size ≤ 200 := by rw [strB_size]; omega
  have g2' : (strB m).size ≤ 50 := by rw [strB_size]; omega
  have s1 : (strB (twoL (n : Nat))).size = 2 := by rw [strB_size, twoL_len]
  have NN := fun w => Lib.hid (mk_new n l m w)
  have HS := Lib.hid (mk_bad l m)
  have HI := Lib.hid (mk_is l m)
  have HZ : Hid (m.length ≤ l.length ↔ (strB m).size ≤ (strB l).size) := by show _ ↔ _; rw [strB_size, strB_size]
  have HN : Hid (¬ m.length ≤ l.length → starts l m = false) := by
    intro h
    unfold starts
    rw [decide_eq_false h]; rfl
  clear hl hm
  go_enter Try.func7, Try.ntmps7
  go_wp2_with fail
  (with_reducible refine (two_calls (n : Nat) _).mono ?_)
  rintro e w1 ⟨rfl, B1⟩
  have HB1 := Lib.hid B1
  clear B1
  go_wp2_with fail
  (with_reducible refine (mk_mark w1.heap.size _ m _ (NN w1).out).mono ?_)
  rintro e w2 ⟨rfl, T2, B2⟩
  have HT2 := Lib.hid T2
  have HB2 := Lib.hid (below_but (below_new HB1.out _) B2 HB1.out.size)
  clear T2 B2
  go_wp2_with fail
  (with_reducible refine (bk_two w1.heap.size _ n _ hn HT2.out).mono ?_)
  rintro e w3 ⟨rfl, T3, B3⟩
  have c0 := T3.rest
  have c1 := T3.bad
  have HB3 := Lib.hid (below_but HB2.out B3 HB1.out.size)
  clear T3 B3 HT2 HB2
  go_wp2_with fail
  (with_reducible refine (mark_calls w3.heap.size m ⟨l, false⟩ _ (TP.new 29 w3 l false)).mono ?_)
  rintro e w4 ⟨rfl, T4, B4⟩
  have HU4 := Lib.hid T4
  have HB4 := Lib.hid (below_but (below_new HB3.out _) B4 HB3.out.size)
  clear T4 B4 c0 c1
  by_cases hz : (strB m).size ≤ (strB l).size
  · have hz' : ((strB m).size : Int) ≤ (strB l).size := by omega
    have hi := HI.out (HZ.out.2 hz)
    go_wp2_with fail
    (with_reducible refine (mk_two w4.heap.size _ l (TP.new 29 w4 l true)).mono ?_)
    rintro e w5 ⟨rfl, T5, B5⟩
    have HT5 := Lib.hid T5
    have HU5 := Lib.hid ((HU4.out.alloc (.cells #[.string (strB l), .bool true] 29)).but B5 (Nat.ne_of_lt HU4.out.lt))
    have HB5 := Lib.hid (below_but (below_new HB4.out _) B5 HB4.out.size)
    have HNE : Hid (w3.heap.size ≠ w4.heap.size) := Nat.ne_of_lt HU4.out.lt
    clear T5 B5 HU4
    go_wp2_with fail
    (with_reducible refine (mk_four w4.heap.size _ l HT5.out).mono ?_)
    rintro e w6 ⟨rfl, T6, B6⟩
    have HT6 := Lib.hid T6
    have HU6 := Lib.hid (HU5.out.but B6 HNE.out)
    have HB6 := Lib.hid (below_but HB5.out B6 HB4.out.size)
    clear T6 B6 HT5 HU5 HB5
    go_wp2_with fail
    (with_reducible refine (mk_text w4.heap.size _ l HT6.out).mono ?_)
    rintro e w7 ⟨rfl, T7, B7⟩
    have HT7 := Lib.hid T7
    have HU7 := Lib.hid (HU6.out.but B7 HNE.out)
    have HB7 := Lib.hid (below_but HB6.out B7 HB4.out.size)
    clear T7 B7 HT6 HU6 HB6
    go_wp2_with fail
    (with_reducible refine (awake_true _).mono ?_)
    rintro e w8 ⟨rfl, B8⟩
    have HT8 := Lib.hid (HT7.out.below B8)
    have HU8 := Lib.hid (HU7.out.below B8)
    have HB8 := Lib.hid (below_two HB7.out B8)
    have c1 := HT8.out.bad
    have c2 := HU8.out.bad
    rw [HS.out] at c2
    clear B8 HT7 HU7 HB7
    go_wp2_with fail
    (with_reducible refine (mk_done w4.heap.size _ l HT8.out).mono ?_)
    rintro e w9 ⟨rfl, rfl⟩
    go_wp2_with fail
    go_ret
    exact ⟨rfl, HB8.out⟩
  · have hz' : ¬ ((strB m).size : Int) ≤ (strB l).size := by omega
    have HS2 := HN.out (fun h => hz (HZ.out.1 h))
    go_wp2_with fail
    (with_reducible refine (mk_two w4.heap.size _ l (TP.new 29 w4 l true)).mono ?_)
    rintro e w5 ⟨rfl, T5, B5⟩
    have HT5 := Lib.hid T5
    have HU5 := Lib.hid ((HU4.out.alloc (.cells #[.string (strB l), .bool true] 29)).but B5 (Nat.ne_of_lt HU4.out.lt))
    have HB5 := Lib.hid (below_but (below_new HB4.out _) B5 HB4.out.size)
    have HNE : Hid (w3.heap.size ≠ w4.heap.size) := Nat.ne_of_lt HU4.out.lt
    clear T5 B5 HU4
    go_wp2_with fail
    (with_reducible refine (mk_four w4.heap.size _ l HT5.out).mono ?_)
    rintro e w6 ⟨rfl, T6, B6⟩
    have HT6 := Lib.hid T6
    have HU6 := Lib.hid (HU5.out.but B6 HNE.out)
    have HB6 := Lib.hid (below_but HB5.out B6 HB4.out.size)
    clear T6 B6 HT5 HU5 HB5
    go_wp2_with fail
    (with_reducible refine (mk_text w4.heap.size _ l HT6.out).mono ?_)
    rintro e w7 ⟨rfl, T7, B7⟩
    have HT7 := Lib.hid T7
    have HU7 := Lib.hid (HU6.out.but B7 HNE.out)
    have HB7 := Lib.hid (below_but HB6.out B7 HB4.out.size)
    clear T7 B7 HT6 HU6 HB6
    go_wp2_with fail
    (with_reducible refine (awake_true _).mono ?_)
    rintro e w8 ⟨rfl, B8⟩
    have HT8 := Lib.hid (HT7.out.below B8)
    have HU8 := Lib.hid (HU7.out.below B8)
    have HB8 := Lib.hid (below_two HB7.out B8)
    have c1 := HT8.out.bad
    have c2 := HU8.out.bad
    rw [HS.out, HS2] at c2
    clear B8 HT7 HU7 HB7
    go_wp2_with fail
    (with_reducible refine (mk_done w4.heap.size _ l HT8.out).mono ?_)
    rintro e w9 ⟨rfl, rfl⟩
    go_wp2_with fail
    go_ret
    exact ⟨rfl, HB8.out⟩

set_option maxRecDepth 100000 in
set_option maxHeartbeats 1600000 in
theorem marks_calls (s t : ByteArray) (n : Nat) (w : World) (hn : n < 65536) : Calls Try.prog 7 #[.string s, .string t, .int .u16 (n : Nat)] w fun e w' => e = .returned (.bool true) ∧ Below w.heap.size w w' := by
  by_cases h1 : s.size ≤ 200
  · by_cases h2 : t.size ≤ 50
    · have h := marks_few n s.data.toList t.data.toList w hn (by rw [len_data]; exact h1) (by rw [len_data]; exact h2)
      rw [strB_of, strB_of] at h
      exact h
    · have g1 : ¬ (200 : Int) < s.size := by omega
      have g2 : (50 : Int) < t.size := by omega
      go_enter Try.func7, Try.ntmps7
      go_wp2_with fail
      (with_reducible refine (awake_true _).mono ?_)
      rintro e w3 ⟨rfl, hB3⟩
      go_wp2_with fail
      go_ret
      exact ⟨rfl, hB3⟩
  · have g1 : (200 : Int) < s.size := by omega
    go_enter Try.func7, Try.ntmps7
    go_wp2_with fail
    (with_reducible refine (awake_true _).mono ?_)
    rintro e w3 ⟨rfl, hB3⟩
    go_wp2_with fail
    go_ret
    exact ⟨rfl, hB3⟩
end Go.Proofs.Ythpellhoponocaa
