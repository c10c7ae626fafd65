/- The law's own examples: awake answers true. No statement is proved here. -/
import Derived.Test.YtnnbbkfdijionaaRead
namespace Go.Proofs.Ytnnbbkfdijionaa
open Go.RowKit

/-- The sectors of the examples, under names of their own. -/
structure Secs where
  z : ByteArray
  ab : ByteArray
  q : ByteArray
  xyz : ByteArray

/-- The examples' calls, each as it is asked, over names for the sectors. -/
structure Calls9 (s : Secs) : Prop where
  new : ∀ w : World, Calls Try.prog 10 #[.int .i64 3] w fun e w' => ∃ A c A' c', e = .returned (.tuple #[.agg #[.slice A 3 c, .slice A' 0 c', .bool false, .int .i64 (-1)], .int .i64 0]) ∧ IsDisk w' (.agg #[.slice A 3 c, .slice A' 0 c', .bool false, .int .i64 (-1)]) ⟨[s.z, s.z, s.z], [], false, -1⟩ ∧ Below w.heap.size w w'
  wr1 : ∀ (v : Value) (w : World), IsDisk w v ⟨[s.z, s.z, s.z], [], false, -1⟩ → Calls Try.prog 22 #[v, .int .i64 1, .string ⟨#[97, 98]⟩] w fun e w' => ∃ A c A' c', e = .returned (.tuple #[.agg #[.slice A 3 c, .slice A' 1 c', .bool false, .int .i64 (-1)], .int .i64 0]) ∧ IsDisk w' (.agg #[.slice A 3 c, .slice A' 1 c', .bool false, .int .i64 (-1)]) ⟨[s.z, s.z, s.z], [(1, s.ab)], false, -1⟩ ∧ Below w.heap.size w w'
  fl : ∀ (v : Value) (w : World), IsDisk w v ⟨[s.z, s.z, s.z], [(1, s.ab)], false, -1⟩ → Calls Try.prog 19 #[v] w fun e w' => ∃ A c A' c', e = .returned (.tuple #[.agg #[.slice A 3 c, .slice A' 0 c', .bool false, .int .i64 (-1)], .int .i64 0]) ∧ IsDisk w' (.agg #[.slice A 3 c, .slice A' 0 c', .bool false, .int .i64 (-1)]) ⟨[s.z, s.ab, s.z], [], false, -1⟩ ∧ Below w.heap.size w w'
  wr2 : ∀ (v : Value) (w : World), IsDisk w v ⟨[s.z, s.ab, s.z], [], false, -1⟩ → Calls Try.prog 22 #[v, .int .i64 2, .string ⟨#[113]⟩] w fun e w' => ∃ A c A' c', e = .returned (.tuple #[.agg #[.slice A 3 c, .slice A' 1 c', .bool false, .int .i64 (-1)], .int .i64 0]) ∧ IsDisk w' (.agg #[.slice A 3 c, .slice A' 1 c', .bool false, .int .i64 (-1)]) ⟨[s.z, s.ab, s.z], [(2, s.q)], false, -1⟩ ∧ Below w.heap.size w w'
  wr3 : ∀ (v : Value) (w : World), IsDisk w v ⟨[s.z, s.ab, s.z], [(2, s.q)], false, -1⟩ → Calls Try.prog 22 #[v, .int .i64 1, .string ⟨#[120, 121, 122]⟩] w fun e w' => ∃ A c A' c', e = .returned (.tuple #[.agg #[.slice A 3 c, .slice A' 2 c', .bool false, .int .i64 (-1)], .int .i64 0]) ∧ IsDisk w' (.agg #[.slice A 3 c, .slice A' 2 c', .bool false, .int .i64 (-1)]) ⟨[s.z, s.ab, s.z], [(1, s.xyz), (2, s.q)], false, -1⟩ ∧ Below w.heap.size w w'
  rd1 : ∀ (v : Value) (w : World), IsDisk w v ⟨[s.z, s.ab, s.z], [(1, s.xyz), (2, s.q)], false, -1⟩ → Calls Try.prog 23 #[v, .int .i64 1] w fun e w' => e = .returned (.tuple #[.string s.xyz, .int .i64 0]) ∧ Below w.heap.size w w'
  st1 : ∀ (v : Value) (w : World), IsDisk w v ⟨[s.z, s.ab, s.z], [(1, s.xyz), (2, s.q)], false, -1⟩ → Calls Try.prog 20 #[v, .int .u64 1] w fun e w' => ∃ A c A' c', e = .returned (.agg #[.slice A 3 c, .slice A' 0 c', .bool false, .int .i64 (-1)]) ∧ IsDisk w' (.agg #[.slice A 3 c, .slice A' 0 c', .bool false, .int .i64 (-1)]) ⟨[s.z, s.xyz, s.z], [], false, -1⟩ ∧ Below w.heap.size w w'
  st2 : ∀ (v : Value) (w : World), IsDisk w v ⟨[s.z, s.ab, s.z], [(1, s.xyz), (2, s.q)], false, -1⟩ → Calls Try.prog 20 #[v, .int .u64 2] w fun e w' => ∃ A c A' c', e = .returned (.agg #[.slice A 3 c, .slice A' 0 c', .bool false, .int .i64 (-1)]) ∧ IsDisk w' (.agg #[.slice A 3 c, .slice A' 0 c', .bool false, .int .i64 (-1)]) ⟨[s.z, s.ab, s.q], [], false, -1⟩ ∧ Below w.heap.size w w'
  rd3 : ∀ (v : Value) (w : World), IsDisk w v ⟨[s.z, s.ab, s.z], [(1, s.xyz), (2, s.q)], false, -1⟩ → Calls Try.prog 23 #[v, .int .i64 3] w fun e w' => e = .returned (.tuple #[.string ⟨#[]⟩, .int .i64 1]) ∧ Below w.heap.size w w'
  arm : ∀ (v : Value) (w : World), IsDisk w v ⟨[s.z, s.ab, s.z], [(1, s.xyz), (2, s.q)], false, -1⟩ → Calls Try.prog 25 #[v, .int .i64 0] w fun e w' => ∃ A c A' c', e = .returned (.agg #[.slice A 3 c, .slice A' 2 c', .bool false, .int .i64 0]) ∧ IsDisk w' (.agg #[.slice A 3 c, .slice A' 2 c', .bool false, .int .i64 0]) ⟨[s.z, s.ab, s.z], [(1, s.xyz), (2, s.q)], false, 0⟩ ∧ Below w.heap.size w w'
  wr4 : ∀ (v : Value) (w : World), IsDisk w v ⟨[s.z, s.ab, s.z], [(1, s.xyz), (2, s.q)], false, 0⟩ → Calls Try.prog 22 #[v, .int .i64 0, .string ⟨#[]⟩] w fun e w' => ∃ A c A' c', e = .returned (.tuple #[.agg #[.slice A 3 c, .slice A' 2 c', .bool true, .int .i64 0], .int .i64 12]) ∧ IsDisk w' (.agg #[.slice A 3 c, .slice A' 2 c', .bool true, .int .i64 0]) ⟨[s.z, s.ab, s.z], [(1, s.xyz), (2, s.q)], true, 0⟩ ∧ Below w.heap.size w w'
  f0 : ∀ w : World, Calls Try.prog 24 #[.string ⟨#[]⟩] w fun e w' => e = .returned (.string s.z) ∧ Below w.heap.size w w'
  fab : ∀ w : World, Calls Try.prog 24 #[.string ⟨#[97, 98]⟩] w fun e w' => e = .returned (.string s.ab) ∧ Below w.heap.size w w'
  fq : ∀ w : World, Calls Try.prog 24 #[.string ⟨#[113]⟩] w fun e w' => e = .returned (.string s.q) ∧ Below w.heap.size w w'
  fxyz : ∀ w : World, Calls Try.prog 24 #[.string ⟨#[120, 121, 122]⟩] w fun e w' => e = .returned (.string s.xyz) ∧ Below w.heap.size w w'

theorem parts_of {w : World} {v : Value} {d : DK} (h : IsDisk w v d) (n m : Nat) (b : Bool) (l : Int) (hn : d.sure.length = n) (hm : d.wet.length = m) (hb : d.dead = b) (hl : d.left = l) : ∃ A c A' c', v = .agg #[.slice A n c, .slice A' m c', .bool b, .int .i64 l] := by
  obtain ⟨vs, vw, rfl, ⟨A, c, rfl, _⟩, ⟨A', c', rfl, _⟩⟩ := h
  exact ⟨A, c, A', c', by rw [hn, hm, hb, hl]⟩


theorem calls9 : Calls9 ⟨padB ⟨#[]⟩, padB ⟨#[97, 98]⟩, padB ⟨#[113]⟩, padB ⟨#[120, 121, 122]⟩⟩ := by
  have ok : ∀ (a b c : ByteArray) (wet : List Wt) (dead : Bool) (l : Int), wet.length ≤ 2 → -1 ≤ l → l ≤ 0 → DK.ok ⟨[a, b, c], wet, dead, l⟩ := fun a b c wet dead l h1 h2 h3 => ⟨by simp, by dsimp only; omega, h2, by dsimp only; omega⟩
  generalize hz : padB ⟨#[]⟩ = z
  generalize hab : padB ⟨#[97, 98]⟩ = ab
  generalize hq : padB ⟨#[113]⟩ = q
  generalize hx : padB ⟨#[120, 121, 122]⟩ = xyz
  constructor <;> dsimp only
  case new =>
    intro w
    refine (new_calls 3 (by omega) (by omega) w).mono ?_
    rintro e w' ⟨v, rfl, hv, hb⟩
    have e1 : newD 3 = ⟨[z, z, z], [], false, -1⟩ := by unfold newD; rw [hz]; rfl
    rw [e1] at hv
    obtain ⟨A, c, A', c', rfl⟩ := parts_of hv 3 0 false (-1) rfl rfl rfl rfl
    exact ⟨A, c, A', c', rfl, hv, hb⟩
  case wr1 =>
    intro v w hv
    refine (write_may v _ 1 ⟨#[97, 98]⟩ w hv (ok _ _ _ _ _ _ (by simp) (by omega) (by omega)) (by omega) (by simp) (by simp [ByteArray.size])).mono ?_
    rintro e w' ⟨v', rfl, hv', hb⟩
    have e1 : writeD ⟨[z, z, z], [], false, -1⟩ 1 ⟨#[97, 98]⟩ = ⟨[z, z, z], [(1, ab)], false, -1⟩ := by unfold writeD; rw [hab]; rfl
    rw [e1] at hv'
    obtain ⟨A, c, A', c', rfl⟩ := parts_of hv' 3 1 false (-1) rfl rfl rfl rfl
    exact ⟨A, c, A', c', rfl, hv', hb⟩
  case fl =>
    intro v w hv
    refine (flush_calls v _ w hv (ok _ _ _ _ _ _ (by simp) (by omega) (by omega))).mono ?_
    rintro e w' ⟨v', rfl, hv', hb⟩
    have e1 : (if deedB ⟨[z, z, z], [(1, ab)], false, -1⟩ = true then ({ deedD ⟨[z, z, z], [(1, ab)], false, -1⟩ with sure := settleF allBits [(1, ab)] [z, z, z], wet := [] } : DK) else deedD ⟨[z, z, z], [(1, ab)], false, -1⟩) = ⟨[z, ab, z], [], false, -1⟩ := by rfl
    rw [e1] at hv'
    obtain ⟨A, c, A', c', rfl⟩ := parts_of hv' 3 0 false (-1) rfl rfl rfl rfl
    exact ⟨A, c, A', c', rfl, hv', hb⟩
  case wr2 =>
    intro v w hv
    refine (write_may v _ 2 ⟨#[113]⟩ w hv (ok _ _ _ _ _ _ (by simp) (by omega) (by omega)) (by omega) (by simp) (by simp [ByteArray.size])).mono ?_
    rintro e w' ⟨v', rfl, hv', hb⟩
    have e1 : writeD ⟨[z, ab, z], [], false, -1⟩ 2 ⟨#[113]⟩ = ⟨[z, ab, z], [(2, q)], false, -1⟩ := by unfold writeD; rw [hq]; rfl
    rw [e1] at hv'
    obtain ⟨A, c, A', c', rfl⟩ := parts_of hv' 3 1 false (-1) rfl rfl rfl rfl
    exact ⟨A, c, A', c', rfl, hv', hb⟩
  case wr3 =>
    intro v w hv
    refine (write_may v _ 1 ⟨#[120, 121, 122]⟩ w hv (ok _ _ _ _ _ _ (by simp) (by omega) (by omega)) (by omega) (by simp) (by simp [ByteArray.size])).mono ?_
    rintro e w' ⟨v', rfl, hv', hb⟩
    have e1 : writeD ⟨[z, ab, z], [(2, q)], false, -1⟩ 1 ⟨#[120, 121, 122]⟩ = ⟨[z, ab, z], [(1, xyz), (2, q)], false, -1⟩ := by unfold writeD; rw [hx]; rfl
    rw [e1] at hv'
    obtain ⟨A, c, A', c', rfl⟩ := parts_of hv' 3 2 false (-1) rfl rfl rfl rfl
    exact ⟨A, c, A', c', rfl, hv', hb⟩
  case rd1 =>
    intro v w hv
    have := read_ok v _ 1 w hv (ok _ _ _ _ _ _ (by simp) (by omega) (by omega)) (by omega) (by simp) rfl
    exact this
  case st1 =>
    intro v w hv
    refine (start_calls v _ 1 w hv (ok _ _ _ _ _ _ (by simp) (by omega) (by omega)) (by omega)).mono ?_
    rintro e w' ⟨v', rfl, hv', hb⟩
    have e1 : settleF 1 [(1, xyz), (2, q)] [z, ab, z] = [z, xyz, z] := by
      have t0 : Nat.testBit 1 0 = true := by decide
      have t1 : Nat.testBit 1 1 = false := by decide
      simp [settleF, settleK, setStep, t1]
    dsimp only at hv'
    rw [e1] at hv'
    obtain ⟨A, c, A', c', rfl⟩ := parts_of hv' 3 0 false (-1) rfl rfl rfl rfl
    exact ⟨A, c, A', c', rfl, hv', hb⟩
  case st2 =>
    intro v w hv
    refine (start_calls v _ 2 w hv (ok _ _ _ _ _ _ (by simp) (by omega) (by omega)) (by omega)).mono ?_
    rintro e w' ⟨v', rfl, hv', hb⟩
    have e1 : settleF 2 [(1, xyz), (2, q)] [z, ab, z] = [z, ab, q] := by
      have t0 : Nat.testBit 2 0 = false := by decide
      have t1 : Nat.testBit 2 1 = true := by decide
      simp [settleF, settleK, setStep, t1]
    dsimp only at hv'
    rw [e1] at hv'
    obtain ⟨A, c, A', c', rfl⟩ := parts_of hv' 3 0 false (-1) rfl rfl rfl rfl
    exact ⟨A, c, A', c', rfl, hv', hb⟩
  case rd3 =>
    intro v w hv
    exact read_arg v _ 3 w hv (by simp)
  case arm =>
    intro v w hv
    refine (arm_calls v _ 0 w hv).mono ?_
    rintro e w' ⟨v', rfl, hv', hb⟩
    dsimp only at hv'
    rw [show max (0 : Int) (-1) = 0 by omega] at hv'
    obtain ⟨A, c, A', c', rfl⟩ := parts_of hv' 3 2 false 0 rfl rfl rfl rfl
    exact ⟨A, c, A', c', rfl, hv', hb⟩
  case wr4 =>
    intro v w hv
    refine (write_may v _ 0 ⟨#[]⟩ w hv (ok _ _ _ _ _ _ (by simp) (by omega) (by omega)) (by omega) (by simp) (by simp [ByteArray.size])).mono ?_
    rintro e w' ⟨v', rfl, hv', hb⟩
    have e1 : writeD ⟨[z, ab, z], [(1, xyz), (2, q)], false, 0⟩ 0 ⟨#[]⟩ = ⟨[z, ab, z], [(1, xyz), (2, q)], true, 0⟩ := by rfl
    rw [e1] at hv'
    obtain ⟨A, c, A', c', rfl⟩ := parts_of hv' 3 2 true 0 rfl rfl rfl rfl
    exact ⟨A, c, A', c', rfl, hv', hb⟩
  case f0 => intro w; rw [← hz]; exact full_calls _ w (by simp [ByteArray.size])
  case fab => intro w; rw [← hab]; exact full_calls _ w (by simp [ByteArray.size])
  case fq => intro w; rw [← hq]; exact full_calls _ w (by simp [ByteArray.size])
  case fxyz => intro w; rw [← hx]; exact full_calls _ w (by simp [ByteArray.size])

end Go.Proofs.Ytnnbbkfdijionaa
