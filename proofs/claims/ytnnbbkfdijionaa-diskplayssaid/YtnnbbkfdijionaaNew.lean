/- disk.New. No statement is proved here. -/
import Derived.Test.YtnnbbkfdijionaaRep
namespace Go.Proofs.Ytnnbbkfdijionaa
open Go.RowKit

/-- A new disk of n sectors. -/
def newD (n : Nat) : DK := ⟨List.replicate n (padB ⟨#[]⟩), [], false, -1⟩

set_option maxHeartbeats 1000000 in
theorem new_calls (n : Nat) (h1 : 1 ≤ n) (h2 : n ≤ 2000) (w : World) :
    Calls Try.prog 10 #[.int .i64 n] w fun e w' => ∃ v, e = .returned (.tuple #[v, .int .i64 0]) ∧ IsDisk w' v (newD n) ∧ Below w.heap.size w w' := by
  have hd1 : decide ((n : Int) < 1) = false := by simp; omega
  have hd2 : decide ((2000 : Int) < n) = false := by simp; omega
  obtain ⟨P, hP⟩ : ∃ P, P = padB ⟨#[]⟩ := ⟨_, rfl⟩
  have hpad : ∀ W : World, Calls Try.prog 27 #[.string ⟨#[]⟩] W fun e w' => e = .returned (.string P) ∧ Below W.heap.size W w' := fun W => by
    rw [hP]; exact padded_calls ⟨#[]⟩ W (by simp [ByteArray.size])
  have HPad := Lib.hid hpad
  have HP := Lib.hid hP
  clear hpad hP
  go_enter Try.func10, Try.ntmps10
  go_wp2_with (first | (go_at_call 27; refine (HPad.out _).mono ?_; rintro e w1 ⟨rfl, hb1⟩))
  have hg1 : w1.heap[w.heap.size]? = some (.cells #[.slice none 0 0, .slice none 0 0, .bool false, .int .i64 0] 28 (0, 0)) := box_kept _ (heap_alloc_new w _) hb1
  refine (repeat_calls w1.heap.size P n h1 h2 (w1.alloc (.cells #[.string P] 9)) (by simp) (cell_new1 w1 _ _)).mono ?_
  rintro e w2 ⟨v2, rfl, hsl, hb2⟩
  have hg2 := box_kept _ (box_alloc hg1 _) hb2
  obtain ⟨⟨c0, c1, c2, c3⟩, f0, f1, f2, f3⟩ := box4 hg2
  have hbw : Below w.heap.size w w2 := below_trans' (below_trans' ((Below.refl _ _).alloc (Nat.le_refl _) _) hb1) (below_trans' ((Below.refl _ _).alloc (Nat.le_refl _) _) hb2)
  obtain ⟨A, c, rfl, hc, hr⟩ := id hsl
  have HSL := Lib.hid hsl
  have HB := Lib.hid hbw
  have HG := Lib.hid hg2
  clear hb1 hb2 hg1 hg2 hsl hbw hr hc
  go_wp2_with fail
  refine bodyPost_ret (v := .tuple #[.agg #[.slice A n c, .slice none 0 0, .bool false, .int .i64 (-1)], .int .i64 0]) (by simp [results, Try.results10, go_sem, c0, c1, c2, c3, f0, f1, f2, f3]) rfl ⟨_, rfl, ⟨_, _, rfl, ?_, SL.nil _ _ _⟩, ?_⟩
  · have h := HSL.out.other HG.out (by decide) (store4_other w2 w.heap.size (.slice A n c) (.slice none 0 0) (.bool false) (.int .i64 (-1)))
    simpa [newD, HP.out] using h
  · exact below_store4 HB.out _ (Nat.le_refl _) _ _ _ _

set_option maxHeartbeats 1000000 in
theorem new_bad_lo (n : Int) (h1 : n < 1) (w : World) :
    Calls Try.prog 10 #[.int .i64 n] w fun e w' => e = .returned (.tuple #[.agg #[.slice none 0 0, .slice none 0 0, .bool false, .int .i64 0], .int .i64 1]) ∧ Below w.heap.size w w' := by
  have hd1 : decide (n < 1) = true := by simpa using h1
  go_enter Try.func10, Try.ntmps10
  go_wp2
  exact bodyPost_ret (v := .tuple #[.agg #[.slice none 0 0, .slice none 0 0, .bool false, .int .i64 0], .int .i64 1]) (by simp [results, Try.results10, go_sem]) rfl ⟨rfl, (Below.refl _ _).alloc (Nat.le_refl _) _⟩

set_option maxHeartbeats 1000000 in
theorem new_bad_hi (n : Int) (h1 : 2000 < n) (w : World) :
    Calls Try.prog 10 #[.int .i64 n] w fun e w' => e = .returned (.tuple #[.agg #[.slice none 0 0, .slice none 0 0, .bool false, .int .i64 0], .int .i64 1]) ∧ Below w.heap.size w w' := by
  have hd1 : decide (n < 1) = false := by simp; omega
  have hd2 : decide (2000 < n) = true := by simpa using h1
  go_enter Try.func10, Try.ntmps10
  go_wp2
  exact bodyPost_ret (v := .tuple #[.agg #[.slice none 0 0, .slice none 0 0, .bool false, .int .i64 0], .int .i64 1]) (by simp [results, Try.results10, go_sem]) rfl ⟨rfl, (Below.refl _ _).alloc (Nat.le_refl _) _⟩

end Go.Proofs.Ytnnbbkfdijionaa
