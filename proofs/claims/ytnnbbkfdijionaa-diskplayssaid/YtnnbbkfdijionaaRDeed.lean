/- The document's own deed and Arm: what each call does. No statement is proved here. -/
import Derived.Test.YtnnbbkfdijionaaDeed
namespace Go.Proofs.Ytnnbbkfdijionaa
open Go.RowKit

set_option maxHeartbeats 400000 in
theorem rdeed_dead (A : Option Addr) (n c : Nat) (A' : Option Addr) (m c' : Nat) (left : Int) (w : World) :
    Calls Try.prog 28 #[.agg #[.slice A n c, .slice A' m c', .bool true, .int .i64 left]] w fun e w' =>
      e = .returned (.tuple #[.agg #[.slice A n c, .slice A' m c', .bool true, .int .i64 left], .bool false]) ∧ Below w.heap.size w w' := by
  go_enter Try.func28, Try.ntmps28
  go_wp2
  refine bodyPost_ret (v := .tuple #[.agg #[.slice A n c, .slice A' m c', .bool true, .int .i64 left], .bool false]) (by simp [results, Try.results28, go_sem]) rfl ⟨rfl, ?_⟩
  exact ((Below.refl _ _).alloc (Nat.le_refl _) _).alloc (by simp) _

set_option maxHeartbeats 400000 in
theorem rdeed_none (A : Option Addr) (n c : Nat) (A' : Option Addr) (m c' : Nat) (w : World) :
    Calls Try.prog 28 #[.agg #[.slice A n c, .slice A' m c', .bool false, .int .i64 0]] w fun e w' =>
      e = .returned (.tuple #[.agg #[.slice A n c, .slice A' m c', .bool true, .int .i64 0], .bool false]) ∧ Below w.heap.size w w' := by
  go_enter Try.func28, Try.ntmps28
  go_wp2
  refine bodyPost_ret (v := .tuple #[.agg #[.slice A n c, .slice A' m c', .bool true, .int .i64 0], .bool false]) (by simp [results, Try.results28, go_sem]) rfl ⟨rfl, ?_⟩
  exact ((Below.refl _ _).alloc (Nat.le_refl _) _).alloc (by simp) _

set_option maxHeartbeats 400000 in
theorem rdeed_some (A : Option Addr) (n c : Nat) (A' : Option Addr) (m c' : Nat) (left : Int) (w : World) (h1 : 0 < left) (h2 : left ≤ 9223372036854775807) :
    Calls Try.prog 28 #[.agg #[.slice A n c, .slice A' m c', .bool false, .int .i64 left]] w fun e w' =>
      e = .returned (.tuple #[.agg #[.slice A n c, .slice A' m c', .bool false, .int .i64 (left - 1)], .bool true]) ∧ Below w.heap.size w w' := by
  have hd : (left == 0) = false := by simp; omega
  go_enter Try.func28, Try.ntmps28
  go_wp2
  refine bodyPost_ret (v := .tuple #[.agg #[.slice A n c, .slice A' m c', .bool false, .int .i64 (left - 1)], .bool true]) (by simp [results, Try.results28, go_sem]) rfl ⟨rfl, ?_⟩
  exact ((Below.refl _ _).alloc (Nat.le_refl _) _).alloc (by simp) _

set_option maxHeartbeats 400000 in
theorem rdeed_any (A : Option Addr) (n c : Nat) (A' : Option Addr) (m c' : Nat) (w : World) :
    Calls Try.prog 28 #[.agg #[.slice A n c, .slice A' m c', .bool false, .int .i64 (-1)]] w fun e w' =>
      e = .returned (.tuple #[.agg #[.slice A n c, .slice A' m c', .bool false, .int .i64 (-1)], .bool true]) ∧ Below w.heap.size w w' := by
  go_enter Try.func28, Try.ntmps28
  go_wp2
  refine bodyPost_ret (v := .tuple #[.agg #[.slice A n c, .slice A' m c', .bool false, .int .i64 (-1)], .bool true]) (by simp [results, Try.results28, go_sem]) rfl ⟨rfl, ?_⟩
  exact ((Below.refl _ _).alloc (Nat.le_refl _) _).alloc (by simp) _

/-- ref.deed: the disk behind one more deed, and whether it is done. -/
theorem rdeed_calls (v : Value) (d : DK) (w : World) (hv : IsDisk w v d) (h1 : -1 ≤ d.left) (h2 : d.left ≤ 9223372036854775807) :
    Calls Try.prog 28 #[v] w fun e w' => ∃ v', e = .returned (.tuple #[v', .bool (deedB d)]) ∧ IsDisk w' v' (deedD d) ∧ Below w.heap.size w w' := by
  obtain ⟨sure, wet, dead, left⟩ := d
  obtain ⟨_, _, rfl, h3, h4⟩ := hv
  obtain ⟨A, c, rfl, hc, hr⟩ := id h3
  obtain ⟨A', c', rfl, hc', hr'⟩ := id h4
  dsimp only at *
  cases dead with
  | true =>
    refine (rdeed_dead A _ c A' _ c' left w).mono ?_
    rintro e w' ⟨rfl, hb⟩
    exact ⟨_, rfl, ⟨_, _, rfl, h3.below hb, h4.below hb⟩, hb⟩
  | false =>
    rcases Int.lt_trichotomy left 0 with h | h | h
    · obtain rfl : left = -1 := by omega
      refine (rdeed_any A _ c A' _ c' w).mono ?_
      rintro e w' ⟨rfl, hb⟩
      have e1 : deedB ⟨sure, wet, false, -1⟩ = true := by simp [deedB]
      have e2 : deedD ⟨sure, wet, false, -1⟩ = ⟨sure, wet, false, -1⟩ := by unfold deedD; rw [if_neg (by simp), if_neg (by simp)]
      rw [e1, e2]
      exact ⟨_, rfl, ⟨_, _, rfl, h3.below hb, h4.below hb⟩, hb⟩
    · subst h
      refine (rdeed_none A _ c A' _ c' w).mono ?_
      rintro e w' ⟨rfl, hb⟩
      exact ⟨_, rfl, ⟨_, _, rfl, h3.below hb, h4.below hb⟩, hb⟩
    · refine (rdeed_some A _ c A' _ c' left w h h2).mono ?_
      rintro e w' ⟨rfl, hb⟩
      have e1 : deedB ⟨sure, wet, false, left⟩ = true := by simp [deedB]; omega
      have e2 : deedD ⟨sure, wet, false, left⟩ = ⟨sure, wet, false, left - 1⟩ := by unfold deedD; rw [if_neg (by simp; omega), if_pos h]
      rw [e1, e2]
      exact ⟨_, rfl, ⟨_, _, rfl, h3.below hb, h4.below hb⟩, hb⟩

set_option maxHeartbeats 400000 in
theorem rarm_hi (A : Option Addr) (n c : Nat) (A' : Option Addr) (m c' : Nat) (dead : Bool) (left k : Int) (w : World) (hk : -1 ≤ k) :
    Calls Try.prog 17 #[.agg #[.slice A n c, .slice A' m c', .bool dead, .int .i64 left], .int .i64 k] w fun e w' =>
      e = .returned (.agg #[.slice A n c, .slice A' m c', .bool dead, .int .i64 k]) ∧ Below w.heap.size w w' := by
  go_enter Try.func17, Try.ntmps17
  go_wp2
  refine bodyPost_ret (v := .agg #[.slice A n c, .slice A' m c', .bool dead, .int .i64 k]) (by simp [results, Try.results17, go_sem]) rfl ⟨rfl, ?_⟩
  exact ((Below.refl _ _).alloc (Nat.le_refl _) _).alloc (by simp) _

set_option maxHeartbeats 400000 in
theorem rarm_lo (A : Option Addr) (n c : Nat) (A' : Option Addr) (m c' : Nat) (dead : Bool) (left k : Int) (w : World) (hk : k < -1) :
    Calls Try.prog 17 #[.agg #[.slice A n c, .slice A' m c', .bool dead, .int .i64 left], .int .i64 k] w fun e w' =>
      e = .returned (.agg #[.slice A n c, .slice A' m c', .bool dead, .int .i64 (-1)]) ∧ Below w.heap.size w w' := by
  go_enter Try.func17, Try.ntmps17
  go_wp2
  refine bodyPost_ret (v := .agg #[.slice A n c, .slice A' m c', .bool dead, .int .i64 (-1)]) (by simp [results, Try.results17, go_sem]) rfl ⟨rfl, ?_⟩
  exact ((Below.refl _ _).alloc (Nat.le_refl _) _).alloc (by simp) _

/-- ref.Arm. -/
theorem rarm_calls (v : Value) (d : DK) (k : Int) (w : World) (hv : IsDisk w v d) :
    Calls Try.prog 17 #[v, .int .i64 k] w fun e w' => ∃ v', e = .returned v' ∧ IsDisk w' v' { d with left := max k (-1) } ∧ Below w.heap.size w w' := by
  obtain ⟨sure, wet, dead, left⟩ := d
  obtain ⟨_, _, rfl, h3, h4⟩ := hv
  obtain ⟨A, c, rfl, hc, hr⟩ := id h3
  obtain ⟨A', c', rfl, hc', hr'⟩ := id h4
  dsimp only at *
  by_cases h : -1 ≤ k
  · refine (rarm_hi A _ c A' _ c' dead left k w h).mono ?_
    rintro e w' ⟨rfl, hb⟩
    rw [Int.max_eq_left h]
    exact ⟨_, rfl, ⟨_, _, rfl, h3.below hb, h4.below hb⟩, hb⟩
  · refine (rarm_lo A _ c A' _ c' dead left k w (by omega)).mono ?_
    rintro e w' ⟨rfl, hb⟩
    rw [Int.max_eq_right (by omega)]
    exact ⟨_, rfl, ⟨_, _, rfl, h3.below hb, h4.below hb⟩, hb⟩

end Go.Proofs.Ytnnbbkfdijionaa
