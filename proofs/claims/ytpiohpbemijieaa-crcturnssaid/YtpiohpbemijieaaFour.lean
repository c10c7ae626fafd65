/- crc.fourDown: four steps down. No statement is proved here. -/
import Derived.Test.YtpiohpbemijieaaRows
import Derived.Test.YtpiohpbemijieaaPlain
import Derived.WalkKit
import Derived.Laws.BitsAllLaws
import Derived.Lib.Hide
namespace Go.Proofs.Ytpiohpbemijieaa
open Go.RowKit

theorem low_bit (x : Nat) (h : x < 4294967296) : bits .and .u32 (x : Int) 1 = ((x % 2 : Nat) : Int) := by
  have := u32_and_nat x 1 h (by omega)
  rw [Nat.and_one_is_mod] at this
  exact this

theorem xor_u32 (x y : Nat) (h : x < 4294967296) (hy : y < 4294967296) : bits .xor .u32 (x : Int) (y : Int) = ((x ^^^ y : Nat) : Int) := u32_xor_nat x y h hy

theorem xor_byte (x : Nat) (c : UInt8) (h : x < 4294967296) : bits .xor .u32 (x : Int) ((c.toNat : Int) % 4294967296) = ((x ^^^ c.toNat : Nat) : Int) := by
  have hc := c.toNat_lt
  rw [show ((c.toNat : Int) % 4294967296) = (c.toNat : Int) by omega]
  exact xor_u32 x c.toNat h (by omega)

theorem dn_odd {x : Nat} (h : x < 4294967296) (hb : (bits .and .u32 (x : Int) 1 == 1) = true) : bits .xor .u32 ((x : Int) / 2) 2197175160 = (dn x : Nat) := by
  rw [low_bit x h] at hb
  have hb' : x % 2 = 1 := by have := beq_iff_eq.1 hb; omega
  have := xor_u32 (x / 2) 2197175160 (by omega) (by omega)
  unfold dn
  rw [if_pos hb', ← this]
  rfl

theorem dn_even {x : Nat} (h : x < 4294967296) (hb : (bits .and .u32 (x : Int) 1 == 1) = false) : (x : Int) / 2 = (dn x : Nat) := by
  rw [low_bit x h] at hb
  have hb' : ¬ x % 2 = 1 := by
    intro h1
    rw [h1] at hb
    cases hb
  unfold dn
  rw [if_neg hb']
  omega

set_option maxHeartbeats 400000 in
theorem four_calls (n : Nat) (w : World) (hn : n < 4294967296) :
    Calls Try.prog 15 #[.int .u32 n] w fun e w' => e = .returned (.int .u32 (dnK 4 n : Nat)) ∧ w = w' := by
  go_enter Try.func15, Try.ntmps15
  go_wp2
  go_loop [0, 4] (fun m k => ∃ j : Nat, j ≤ 4 ∧ k = .int .i64 j ∧ m = .int .u32 (dnK j n : Nat)) (fun _ k => 4 - (intOf k).toNat)
  case atStart => exact ⟨0, Nat.zero_le _, rfl, rfl⟩
  case round =>
    obtain ⟨j, hj, rfl, rfl⟩ := hrel
    have hlt := dnK_lt j hn
    by_cases h : j < 4
    · have HS : Hid (dnK (j + 1) n = dn (dnK j n)) := dnK_succ j n
      go_wp2
      all_goals
        go_round
        case rel => exact ⟨j + 1, by omega, by go_num, by rw [HS.out]; first | rw [dn_odd hlt (by assumption)] | rw [dn_even hlt (by assumption)]⟩
        case measure => simp [intOf]; omega
    · go_wp2
      go_ret
      obtain rfl : j = 4 := by omega
      exact ⟨rfl, rfl⟩

theorem take_snoc (s : ByteArray) (k : Nat) (h : k < s.size) : s.data.toList.take (k + 1) = s.data.toList.take k ++ [s[k]] := by
  rw [List.take_succ_eq_append_getElem (by simpa using h)]; rfl

theorem reg_snoc (n : Nat) (s : ByteArray) (k : Nat) (h : k < s.size) : reg n (s.data.toList.take (k + 1)) = dnK 8 (reg n (s.data.toList.take k) ^^^ s[k].toNat) := by
  rw [take_snoc s k h, reg_app]; rfl

theorem reg_all (n : Nat) (s : ByteArray) (k : Nat) (h : k = s.size) : reg n (s.data.toList.take k) = reg n s.data.toList := by
  rw [List.take_of_length_le (by simp; omega)]

theorem ret_int {k : IntKind} {a b : Int} (h : a = b) : Ending.returned (.int k a) = .returned (.int k b) := by rw [h]

theorem not_u32 (x : Nat) (h : x < 4294967296) : bits .xor .u32 IntKind.u32.max (x : Int) = ((4294967295 ^^^ x : Nat) : Int) := xor_u32 4294967295 x (by omega) h

theorem not_reg (s : ByteArray) (k : Nat) (h : k = s.size) : bits .xor .u32 IntKind.u32.max ((reg 4294967295 (s.data.toList.take k) : Nat) : Int) = (crcN s.data.toList : Nat) := by
  rw [reg_all _ s k h, not_u32 _ (reg_lt _ (by omega))]; rfl

set_option maxHeartbeats 1000000 in
theorem ref_of (s : ByteArray) (w : World) (hs : s.size ≤ maxLen) :
    Calls Try.prog 10 #[.string s] w fun e w' => e = .returned (.int .u32 (crcN s.data.toList : Nat)) ∧ w = w' := by
  unfold maxLen at hs
  go_enter Try.func10, Try.ntmps10
  go_wp2
  go_loop [3, 4] (fun n i => ∃ k : Nat, k ≤ s.size ∧ i = .int .i64 k ∧ n = .int .u32 (reg 4294967295 (s.data.toList.take k) : Nat)) (fun _ i => s.size - (intOf i).toNat)
  case atStart => exact ⟨0, Nat.zero_le _, rfl, rfl⟩
  case round =>
    obtain ⟨k, hk, rfl, rfl⟩ := hrel
    have hlt := reg_lt (n := 4294967295) (s.data.toList.take k) (by omega)
    by_cases h : k < s.size
    · have HS := Lib.hid (reg_snoc 4294967295 s k h)
      have hx := xor_byte (reg 4294967295 (s.data.toList.take k)) s[k] hlt
      have hx2 : reg 4294967295 (s.data.toList.take k) ^^^ s[k].toNat < 4294967296 := Nat.xor_lt_two_pow (n := 32) hlt (by have := s[k].toNat_lt; omega)
      generalize reg 4294967295 (s.data.toList.take k) = x at *
      go_wp2
      go_loop [3, 5] (fun m i => ∃ j : Nat, j ≤ 8 ∧ i = .int .i64 j ∧ m = .int .u32 (dnK j (x ^^^ s[k].toNat) : Nat)) (fun _ i => 8 - (intOf i).toNat)
      case atStart => exact ⟨0, Nat.zero_le _, rfl, rfl⟩
      case round =>
        obtain ⟨j, hj, rfl, rfl⟩ := hrel
        have hl2 := dnK_lt j hx2
        clear hx
        by_cases h8 : j < 8
        · have HT : Hid (dnK (j + 1) (x ^^^ s[k].toNat) = dn (dnK j (x ^^^ s[k].toNat))) := dnK_succ j _
          go_wp2
          all_goals
            go_round
            case rel => exact ⟨j + 1, by omega, by go_num, by rw [HT.out]; first | rw [dn_odd hl2 (by assumption)] | rw [dn_even hl2 (by assumption)]⟩
            case measure => simp [intOf]; omega
        · obtain rfl : j = 8 := by omega
          go_wp2
          go_round
          case rel => exact ⟨k + 1, by omega, by go_num, by rw [HS.out]⟩
          case measure => simp [intOf]; omega
    · go_wp2
      go_ret
      exact ⟨ret_int (by rw [not_reg s k (by omega)]), rfl⟩
end Go.Proofs.Ytpiohpbemijieaa
