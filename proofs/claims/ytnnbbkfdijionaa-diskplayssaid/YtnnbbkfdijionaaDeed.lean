/- disk.deed, disk.Arm: what each call does. No statement is proved here. -/
import Derived.Test.YtnnbbkfdijionaaBase
namespace Go.Proofs.Ytnnbbkfdijionaa
open Go.RowKit

set_option maxHeartbeats 400000 in
theorem deed_dead (A : Option Addr) (n c : Nat) (A' : Option Addr) (m c' : Nat) (left : Int) (w : World) :
    Calls Try.prog 30 #[.agg #[.slice A n c, .slice A' m c', .bool true, .int .i64 left]] w fun e w' =>
      e = .returned (.tuple #[.agg #[.slice A n c, .slice A' m c', .bool true, .int .i64 left], .bool false]) ∧ Below w.heap.size w w' := by
  go_enter Try.func30, Try.ntmps30
  go_wp2
  refine bodyPost_ret (v := .tuple #[.agg #[.slice A n c, .slice A' m c', .bool true, .int .i64 left], .bool false]) (by simp [results, Try.results30, go_sem]) rfl ⟨rfl, ?_⟩
  exact ((Below.refl _ _).alloc (Nat.le_refl _) _).alloc (by simp) _

set_option maxHeartbeats 400000 in
theorem deed_none (A : Option Addr) (n c : Nat) (A' : Option Addr) (m c' : Nat) (w : World) :
    Calls Try.prog 30 #[.agg #[.slice A n c, .slice A' m c', .bool false, .int .i64 0]] w fun e w' =>
      e = .returned (.tuple #[.agg #[.slice A n c, .slice A' m c', .bool true, .int .i64 0], .bool false]) ∧ Below w.heap.size w w' := by
  go_enter Try.func30, Try.ntmps30
  go_wp2
  refine bodyPost_ret (v := .tuple #[.agg #[.slice A n c, .slice A' m c', .bool true, .int .i64 0], .bool false]) (by simp [results, Try.results30, go_sem]) rfl ⟨rfl, ?_⟩
  exact ((Below.refl _ _).alloc (Nat.le_refl _) _).alloc (by simp) _

set_option maxHeartbeats 400000 in
theorem deed_some (A : Option Addr) (n c : Nat) (A' : Option Addr) (m c' : Nat) (left : Int) (w : World) (h1 : 0 < left) (h2 : left ≤ 9223372036854775807) :
    Calls Try.prog 30 #[.agg #[.slice A n c, .slice A' m c', .bool false, .int .i64 left]] w fun e w' =>
      e = .returned (.tuple #[.agg #[.slice A n c, .slice A' m c', .bool false, .int .i64 (left - 1)], .bool true]) ∧ Below w.heap.size w w' := by
  have hd : (left == 0) = false := by simp; omega
  go_enter Try.func30, Try.ntmps30
  go_wp2
  refine bodyPost_ret (v := .tuple #[.agg #[.slice A n c, .slice A' m c', .bool false, .int .i64 (left - 1)], .bool true]) (by simp [results, Try.results30, go_sem]) rfl ⟨rfl, ?_⟩
  exact ((Below.refl _ _).alloc (Nat.le_refl _) _).alloc (by simp) _

set_option maxHeartbeats 400000 in
theorem deed_any (A : Option Addr) (n c : Nat) (A' : Option Addr) (m c' : Nat) (left : Int) (w : World) (h1 : left < 0) :
    Calls Try.prog 30 #[.agg #[.slice A n c, .slice A' m c', .bool false, .int .i64 left]] w fun e w' =>
      e = .returned (.tuple #[.agg #[.slice A n c, .slice A' m c', .bool false, .int .i64 left], .bool true]) ∧ Below w.heap.size w w' := by
  have hd : (left == 0) = false := by simp; omega
  have hp : ¬ 0 < left := by omega
  go_enter Try.func30, Try.ntmps30
  go_wp2
  refine bodyPost_ret (v := .tuple #[.agg #[.slice A n c, .slice A' m c', .bool false, .int .i64 left], .bool true]) (by simp [results, Try.results30, go_sem]) rfl ⟨rfl, ?_⟩
  exact ((Below.refl _ _).alloc (Nat.le_refl _) _).alloc (by simp) _

def deedD (d : DK) : DK := if d.dead = true ∨ d.left = 0 then { d with dead := true } else if 0 < d.left then { d with left := d.left - 1 } else d
def deedB (d : DK) : Bool := !(d.dead || d.left == 0)

/-- disk.deed: the disk behind one more deed, and whether it is done. -/
theorem deed_calls (v : Value) (d : DK) (w : World) (hv : IsDisk w v d) (h2 : d.left ≤ 9223372036854775807) :
    Calls Try.prog 30 #[v] w fun e w' => ∃ v', e = .returned (.tuple #[v', .bool (deedB d)]) ∧ IsDisk w' v' (deedD d) ∧ Below w.heap.size w w' := by
  obtain ⟨sure, wet, dead, left⟩ := d
  obtain ⟨_, _, rfl, h3, h4⟩ := hv
  obtain ⟨A, c, rfl, hc, hr⟩ := id h3
  obtain ⟨A', c', rfl, hc', hr'⟩ := id h4
  dsimp only at *
  cases dead with
  | true =>
    refine (deed_dead A _ c A' _ c' left w).mono ?_
    rintro e w' ⟨rfl, hb⟩
    exact ⟨_, rfl, ⟨_, _, rfl, h3.below hb, h4.below hb⟩, hb⟩
  | false =>
    rcases Int.lt_trichotomy left 0 with h | h | h
    · refine (deed_any A _ c A' _ c' left w h).mono ?_
      rintro e w' ⟨rfl, hb⟩
      have e1 : deedB ⟨sure, wet, false, left⟩ = true := by simp [deedB]; omega
      have e2 : deedD ⟨sure, wet, false, left⟩ = ⟨sure, wet, false, left⟩ := by unfold deedD; rw [if_neg (by simp; omega), if_neg (by simp; omega)]
      rw [e1, e2]
      exact ⟨_, rfl, ⟨_, _, rfl, h3.below hb, h4.below hb⟩, hb⟩
    · subst h
      refine (deed_none A _ c A' _ c' w).mono ?_
      rintro e w' ⟨rfl, hb⟩
      exact ⟨_, rfl, ⟨_, _, rfl, h3.below hb, h4.below hb⟩, hb⟩
    · refine (deed_some A _ c A' _ c' left w h h2).mono ?_
      rintro e w' ⟨rfl, hb⟩
      have e1 : deedB ⟨sure, wet, false, left⟩ = true := by simp [deedB]; omega
      have e2 : deedD ⟨sure, wet, false, left⟩ = ⟨sure, wet, false, left - 1⟩ := by unfold deedD; rw [if_neg (by simp; omega), if_pos h]
      rw [e1, e2]
      exact ⟨_, rfl, ⟨_, _, rfl, h3.below hb, h4.below hb⟩, hb⟩

set_option maxHeartbeats 400000 in
theorem arm_hi (A : Option Addr) (n c : Nat) (A' : Option Addr) (m c' : Nat) (dead : Bool) (left k : Int) (w : World) (hk : -1 ≤ k) :
    Calls Try.prog 25 #[.agg #[.slice A n c, .slice A' m c', .bool dead, .int .i64 left], .int .i64 k] w fun e w' =>
      e = .returned (.agg #[.slice A n c, .slice A' m c', .bool dead, .int .i64 k]) ∧ Below w.heap.size w w' := by
  go_enter Try.func25, Try.ntmps25
  go_wp2
  refine bodyPost_ret (v := .agg #[.slice A n c, .slice A' m c', .bool dead, .int .i64 k]) (by simp [results, Try.results25, go_sem]) rfl ⟨rfl, ?_⟩
  exact ((Below.refl _ _).alloc (Nat.le_refl _) _).alloc (by simp) _

set_option maxHeartbeats 400000 in
theorem arm_lo (A : Option Addr) (n c : Nat) (A' : Option Addr) (m c' : Nat) (dead : Bool) (left k : Int) (w : World) (hk : k < -1) :
    Calls Try.prog 25 #[.agg #[.slice A n c, .slice A' m c', .bool dead, .int .i64 left], .int .i64 k] w fun e w' =>
      e = .returned (.agg #[.slice A n c, .slice A' m c', .bool dead, .int .i64 (-1)]) ∧ Below w.heap.size w w' := by
  go_enter Try.func25, Try.ntmps25
  go_wp2
  refine bodyPost_ret (v := .agg #[.slice A n c, .slice A' m c', .bool dead, .int .i64 (-1)]) (by simp [results, Try.results25, go_sem]) rfl ⟨rfl, ?_⟩
  exact ((Below.refl _ _).alloc (Nat.le_refl _) _).alloc (by simp) _

/-- disk.Arm. -/
theorem arm_calls (v : Value) (d : DK) (k : Int) (w : World) (hv : IsDisk w v d) :
    Calls Try.prog 25 #[v, .int .i64 k] w fun e w' => ∃ v', e = .returned v' ∧ IsDisk w' v' { d with left := max k (-1) } ∧ Below w.heap.size w w' := by
  obtain ⟨sure, wet, dead, left⟩ := d
  obtain ⟨_, _, rfl, h3, h4⟩ := hv
  obtain ⟨A, c, rfl, hc, hr⟩ := id h3
  obtain ⟨A', c', rfl, hc', hr'⟩ := id h4
  dsimp only at *
  by_cases h : -1 ≤ k
  · refine (arm_hi A _ c A' _ c' dead left k w h).mono ?_
    rintro e w' ⟨rfl, hb⟩
    rw [Int.max_eq_left h]
    exact ⟨_, rfl, ⟨_, _, rfl, h3.below hb, h4.below hb⟩, hb⟩
  · refine (arm_lo A _ c A' _ c' dead left k w (by omega)).mono ?_
    rintro e w' ⟨rfl, hb⟩
    rw [Int.max_eq_right (by omega)]
    exact ⟨_, rfl, ⟨_, _, rfl, h3.below hb, h4.below hb⟩, hb⟩

end Go.Proofs.Ytnnbbkfdijionaa
