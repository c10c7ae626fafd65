/- The law's own examples answer true. No statement is proved here. -/
import Derived.Test.YthpellhoponocaaMark
namespace Go.Proofs.Ythpellhoponocaa
open Go.RowKit

theorem below_but {b : Nat} {w u v : World} (hB : Below w.heap.size w u) (h : But b u v) (hb : w.heap.size ≤ b) : Below w.heap.size w v := hB.trans (h.below hb hB.size)
theorem below_new {w u : World} (hB : Below w.heap.size w u) (o : Obj) : Below w.heap.size w (u.alloc o) := hB.alloc hB.size o

section
variable (b : Nat) (w : World)
theorem aw_two (h : TP 29 w b ⟨[1, 2, 0, 1, 0, 0, 0, 2, 97, 98, 88, 89], false⟩) :
    Calls Try.prog 15 #[.pointer (some ⟨b, 0, none⟩), .int .i64 0, .int .i64 999] w fun e w' => e = .returned (.int .i64 258) ∧ TP 29 w' b ⟨[0, 1, 0, 0, 0, 2, 97, 98, 88, 89], false⟩ ∧ But b w w' := by
  have h := ttwo_calls b 0 999 _ w h
  rw [show numV 2 0 999 ⟨[1, 2, 0, 1, 0, 0, 0, 2, 97, 98, 88, 89], false⟩ = 258 by kernel_rfl, show numS 2 0 999 ⟨[1, 2, 0, 1, 0, 0, 0, 2, 97, 98, 88, 89], false⟩ = ⟨[0, 1, 0, 0, 0, 2, 97, 98, 88, 89], false⟩ by kernel_rfl] at h
  exact h
theorem aw_four (h : TP 29 w b ⟨[0, 1, 0, 0, 0, 2, 97, 98, 88, 89], false⟩) :
    Calls Try.prog 17 #[.pointer (some ⟨b, 0, none⟩), .int .i64 0, .int .i64 1048576] w fun e w' => e = .returned (.int .i64 65536) ∧ TP 29 w' b ⟨[0, 2, 97, 98, 88, 89], false⟩ ∧ But b w w' := by
  have h := tfour_calls b 0 1048576 _ w h
  rw [show numV 4 0 1048576 ⟨[0, 1, 0, 0, 0, 2, 97, 98, 88, 89], false⟩ = 65536 by kernel_rfl, show numS 4 0 1048576 ⟨[0, 1, 0, 0, 0, 2, 97, 98, 88, 89], false⟩ = ⟨[0, 2, 97, 98, 88, 89], false⟩ by kernel_rfl] at h
  exact h
theorem aw_text (h : TP 29 w b ⟨[0, 2, 97, 98, 88, 89], false⟩) :
    Calls Try.prog 19 #[.pointer (some ⟨b, 0, none⟩), .int .i64 2] w fun e w' => e = .returned (.string ⟨#[97, 98]⟩) ∧ TP 29 w' b ⟨[88, 89], false⟩ ∧ But b w w' := by
  have h := ttext_calls b 2 _ w h
  rw [show txtV 2 ⟨[0, 2, 97, 98, 88, 89], false⟩ = [97, 98] by kernel_rfl, show txtS 2 ⟨[0, 2, 97, 98, 88, 89], false⟩ = ⟨[88, 89], false⟩ by kernel_rfl] at h
  exact h
theorem aw_mark (h : TP 29 w b ⟨[88, 89], false⟩) :
    Calls Try.prog 21 #[.pointer (some ⟨b, 0, none⟩), .string ⟨#[88, 89]⟩] w fun e w' => e = .returned (.tuple #[]) ∧ TP 29 w' b ⟨[], false⟩ ∧ But b w w' := by
  have h := mark_calls b [88, 89] _ w h
  rw [show markS [88, 89] ⟨[88, 89], false⟩ = ⟨[], false⟩ by kernel_rfl] at h
  exact h
theorem aw_done (h : TP 29 w b ⟨[], false⟩) :
    Calls Try.prog 23 #[.pointer (some ⟨b, 0, none⟩)] w fun e w' => e = .returned (.bool true) ∧ w = w' := done_calls b _ w h
theorem aw_7 : Calls Try.prog 9 #[.int .i64 7] w fun e w' => e = .returned (.string (strB [0, 7])) ∧ Below w.heap.size w w' := by
  have h := two_calls 7 w
  rw [show twoL 7 = [0, 7] by kernel_rfl] at h
  exact h
theorem aw_two7 (h : TP 29 w b ⟨[0, 7], false⟩) :
    Calls Try.prog 15 #[.pointer (some ⟨b, 0, none⟩), .int .i64 8, .int .i64 9] w fun e w' => e = .returned (.int .i64 0) ∧ TP 29 w' b ⟨[], true⟩ ∧ But b w w' := by
  have h := ttwo_calls b 8 9 _ w h
  rw [show numV 2 8 9 ⟨[0, 7], false⟩ = 0 by kernel_rfl, show numS 2 8 9 ⟨[0, 7], false⟩ = ⟨[], true⟩ by kernel_rfl] at h
  exact h
theorem aw_mark2 (h : TP 29 w b ⟨[97, 98], false⟩) :
    Calls Try.prog 21 #[.pointer (some ⟨b, 0, none⟩), .string ⟨#[97, 99]⟩] w fun e w' => e = .returned (.tuple #[]) ∧ TP 29 w' b ⟨[], true⟩ ∧ But b w w' := by
  have h := mark_calls b [97, 99] _ w h
  rw [show markS [97, 99] ⟨[97, 98], false⟩ = ⟨[], true⟩ by kernel_rfl] at h
  exact h
theorem aw_258 : Calls Try.prog 9 #[.int .i64 258] w fun e w' => e = .returned (.string ⟨#[1, 2]⟩) ∧ Below w.heap.size w w' := by
  have h := two_calls 258 w
  rw [show twoL 258 = [1, 2] by kernel_rfl] at h
  exact h
theorem aw_65537 : Calls Try.prog 11 #[.int .i64 65537] w fun e w' => e = .returned (.string ⟨#[0, 1, 0, 1]⟩) ∧ Below w.heap.size w w' := by
  have h := four_calls 65537 w
  rw [show fourL 65537 = [0, 1, 0, 1] by kernel_rfl] at h
  exact h
theorem aw_ab : Calls Try.prog 13 #[.string ⟨#[97, 98]⟩] w fun e w' => e = .returned (.string ⟨#[0, 2, 97, 98]⟩) ∧ Below w.heap.size w w' := by
  have h := text_calls [97, 98] w
  rw [show textL [97, 98] = [0, 2, 97, 98] by kernel_rfl] at h
  exact h
end

set_option maxRecDepth 100000 in
set_option maxHeartbeats 1600000 in
theorem awake_true (w : World) : Calls Try.prog 8 #[] w fun e w' => e = .returned (.bool true) ∧ Below w.heap.size w w' := by
  have N1 : Hid (TP 29 (w.alloc (.cells #[.string ⟨#[1, 2, 0, 1, 0, 0, 0, 2, 97, 98, 88, 89]⟩, .bool false] 29)) w.heap.size ⟨[1, 2, 0, 1, 0, 0, 0, 2, 97, 98, 88, 89], false⟩) := heap_alloc_new w _
  go_enter Try.func8, Try.ntmps8
  go_wp2_with fail
  (with_reducible refine (aw_two w.heap.size _ N1.out).mono ?_)
  rintro e w1 ⟨rfl, T1, B1⟩
  have HT1 := Lib.hid T1
  have HB1 := Lib.hid (below_but (below_new (Below.refl _ w) _) B1 (Nat.le_refl _))
  clear T1 B1
  go_wp2_with fail
  (with_reducible refine (aw_four w.heap.size _ HT1.out).mono ?_)
  rintro e w2 ⟨rfl, T2, B2⟩
  have HT2 := Lib.hid T2
  have HB2 := Lib.hid (below_but HB1.out B2 (Nat.le_refl _))
  clear T2 B2 HT1 HB1
  go_wp2_with fail
  (with_reducible refine (aw_text w.heap.size _ HT2.out).mono ?_)
  rintro e w3 ⟨rfl, T3, B3⟩
  have HT3 := Lib.hid T3
  have HB3 := Lib.hid (below_but HB2.out B3 (Nat.le_refl _))
  clear T3 B3 HT2 HB2
  go_wp2_with fail
  (with_reducible refine (aw_mark w.heap.size _ HT3.out).mono ?_)
  rintro e w4 ⟨rfl, T4, B4⟩
  have HT4 := Lib.hid T4
  have HB4 := Lib.hid (below_but HB3.out B4 (Nat.le_refl _))
  clear T4 B4 HT3 HB3
  go_wp2_with fail
  (with_reducible refine (aw_done w.heap.size _ HT4.out).mono ?_)
  rintro e w4' ⟨rfl, rfl⟩
  go_wp2_with fail
  (with_reducible refine (aw_7 _).mono ?_)
  rintro e w5 ⟨rfl, B5⟩
  have HB5 := Lib.hid (below_two HB4.out B5)
  clear B5 HT4 HB4
  go_wp2_with fail
  (with_reducible refine (aw_two7 w5.heap.size _ (TP.new 29 w5 [0, 7] false)).mono ?_)
  rintro e w6 ⟨rfl, T6, B6⟩
  have HT6 := Lib.hid T6
  have HB6 := Lib.hid (below_but (below_new HB5.out _) B6 HB5.out.size)
  clear T6 B6
  go_wp2_with fail
  have H6 := Lib.hid HT6.out.lt
  have N6 : Hid (TP 29 (w6.alloc (.cells #[.string ⟨#[97, 98]⟩, .bool false] 29)) w6.heap.size ⟨[97, 98], false⟩) := heap_alloc_new w6 _
  (with_reducible refine (aw_mark2 w6.heap.size _ N6.out).mono ?_)
  rintro e w7 ⟨rfl, T7, B7⟩
  have HT7 := Lib.hid T7
  have HU7 := Lib.hid ((HT6.out.alloc _).but B7 (Nat.ne_of_lt HT6.out.lt))
  have HB7 := Lib.hid (below_but (below_new HB6.out _) B7 HB6.out.size)
  clear T7 B7 HT6 HB6
  go_wp2_with fail
  (with_reducible refine (aw_258 _).mono ?_)
  rintro e w8 ⟨rfl, B8⟩
  have HB8 := Lib.hid (below_two HB7.out B8)
  have HT8 := Lib.hid (HT7.out.below B8)
  have HU8 := Lib.hid (HU7.out.below B8)
  clear B8 HB7 HT7 HU7
  go_wp2_with fail
  (with_reducible refine (aw_65537 _).mono ?_)
  rintro e w9 ⟨rfl, B9⟩
  have HB9 := Lib.hid (below_two HB8.out B9)
  have HT9 := Lib.hid (HT8.out.below B9)
  have HU9 := Lib.hid (HU8.out.below B9)
  clear B9 HB8 HT8 HU8
  go_wp2_with fail
  (with_reducible refine (aw_ab _).mono ?_)
  rintro e wa ⟨rfl, Ba⟩
  have HBa := Lib.hid (below_two HB9.out Ba)
  have c1 := (HT9.out.below Ba).bad
  have c2 := (HU9.out.below Ba).bad
  clear Ba HB9 HT9 HU9
  go_wp2_with fail
  go_ret
  exact ⟨rfl, HBa.out⟩
end Go.Proofs.Ythpellhoponocaa
