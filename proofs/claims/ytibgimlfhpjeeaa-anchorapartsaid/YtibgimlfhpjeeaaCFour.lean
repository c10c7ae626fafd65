/- crc.fourDown: four steps down. No statement is proved here. -/
import Derived.Test.YtibgimlfhpjeeaaStr
import Derived.Test.YtibgimlfhpjeeaaCPlain
import Derived.WalkKit
import Derived.Laws.BitsAllLaws
import Derived.Lib.Hide
namespace Go.Proofs.Ytibgimlfhpjeeaa.Crc
open Go.RowKit

theorem low_bit (x : Nat) (h : x < 4294967296) : bits .and .u32 (x : Int) 1 = ((x % 2 : Nat) : Int) := by
  have := u32_and_nat x 1 h (by omega)
  rw [Nat.and_one_is_mod] at this
  exact this

theorem xor_u32 (x y : Nat) (h : x < 4294967296) (hy : y < 4294967296) : bits .xor .u32 (x : Int) (y : Int) = ((x ^^^ y : Nat) : Int) := u32_xor_nat x y h hy

theorem xor_byte (x : Nat) (c : UInt8) (h : x < 4294967296) : bits .xor .u32 (x : Int) ((c.toNat : Int) % 4294967296) = ((x ^^^ c.toNat : Nat) : Int) := by
  have hc := c.toNat_lt
  rw [show ((c.toNat : Int) % 4294967296) = (c.toNat : Int) by omega]
  exact xor_u32 x c.toNat h (by omega)

theorem dn_odd {x : Nat} (h : x < 4294967296) (hb : (bits .and .u32 (x : Int) 1 == 1) = true) : bits .xor .u32 ((x : Int) / 2) 2197175160 = (dn x : Nat) := by
  rw [low_bit x h] at hb
  have hb' : x % 2 = 1 := by have := beq_iff_eq.1 hb; omega
  have := xor_u32 (x / 2) 2197175160 (by omega) (by omega)
  unfold dn
  rw [if_pos hb', ← this]
  rfl

theorem dn_even {x : Nat} (h : x < 4294967296) (hb : (bits .and .u32 (x : Int) 1 == 1) = false) : (x : Int) / 2 = (dn x : Nat) := by
  rw [low_bit x h] at hb
  have hb' : ¬ x % 2 = 1 := by
    intro h1
    rw [h1] at hb
    cases hb
  unfold dn
  rw [if_neg hb']
  omega

set_option maxHeartbeats 400000 in
theorem four_calls (n : Nat) (w : World) (hn : n < 4294967296) :
    Calls Try.prog 46 #[.int .u32 n] w fun e w' => e = .returned (.int .u32 (dnK 4 n : Nat)) ∧ w = w' := by
  go_enter Try.func46, Try.ntmps46
  go_wp2
  go_loop [0, 4] (fun m k => ∃ j : Nat, j ≤ 4 ∧ k = .int .i64 j ∧ m = .int .u32 (dnK j n : Nat)) (fun _ k => 4 - (intOf k).toNat)
  case atStart => exact ⟨0, Nat.zero_le _, rfl, rfl⟩
  case round =>
    obtain ⟨j, hj, rfl, rfl⟩ := hrel
    have hlt := dnK_lt j hn
    by_cases h : j < 4
    · have HS : Hid (dnK (j + 1) n = dn (dnK j n)) := dnK_succ j n
      go_wp2
      all_goals
        go_round
        case rel => exact ⟨j + 1, by omega, by go_num, by rw [HS.out]; first | rw [dn_odd hlt (by assumption)] | rw [dn_even hlt (by assumption)]⟩
        case measure => simp [intOf]; omega
    · go_wp2
      go_ret
      obtain rfl : j = 4 := by omega
      exact ⟨rfl, rfl⟩

theorem take_snoc (s : ByteArray) (k : Nat) (h : k < s.size) : s.data.toList.take (k + 1) = s.data.toList.take k ++ [s[k]] := by
  rw [List.take_succ_eq_append_getElem (by simpa using h)]; rfl

theorem reg_snoc (n : Nat) (s : ByteArray) (k : Nat) (h : k < s.size) : reg n (s.data.toList.take (k + 1)) = dnK 8 (reg n (s.data.toList.take k) ^^^ s[k].toNat) := by
  rw [take_snoc s k h, reg_app]; rfl

theorem reg_all (n : Nat) (s : ByteArray) (k : Nat) (h : k = s.size) : reg n (s.data.toList.take k) = reg n s.data.toList := by
  rw [List.take_of_length_le (by simp; omega)]

theorem not_u32 (x : Nat) (h : x < 4294967296) : bits .xor .u32 IntKind.u32.max (x : Int) = ((4294967295 ^^^ x : Nat) : Int) := xor_u32 4294967295 x (by omega) h

theorem not_reg (s : ByteArray) (k : Nat) (h : k = s.size) : bits .xor .u32 IntKind.u32.max ((reg 4294967295 (s.data.toList.take k) : Nat) : Int) = (crcN s.data.toList : Nat) := by
  rw [reg_all _ s k h, not_u32 _ (reg_lt _ (by omega))]; rfl

end Go.Proofs.Ytibgimlfhpjeeaa.Crc
