/- The document's own sum: what the call does. No statement is proved here. -/
import Derived.Test.YtibgimlfhpjeeaaRows
import Derived.Test.YtibgimlfhpjeeaaCFour
import Derived.WalkKit
import Derived.Laws.BitsAllLaws
import Derived.Lib.Hide
namespace Go.Proofs.Ytibgimlfhpjeeaa.Crc
open Go.RowKit

set_option maxHeartbeats 1000000 in
theorem ref_of (s : ByteArray) (w : World) (hs : s.size ≤ maxLen) :
    Calls Try.prog 36 #[.string s] w fun e w' => e = .returned (.int .u32 (crcN s.data.toList : Nat)) ∧ w = w' := by
  unfold maxLen at hs
  go_enter Try.func36, Try.ntmps36
  go_wp2
  go_loop [3, 4] (fun n i => ∃ k : Nat, k ≤ s.size ∧ i = .int .i64 k ∧ n = .int .u32 (reg 4294967295 (s.data.toList.take k) : Nat)) (fun _ i => s.size - (intOf i).toNat)
  case atStart => exact ⟨0, Nat.zero_le _, rfl, rfl⟩
  case round =>
    obtain ⟨k, hk, rfl, rfl⟩ := hrel
    have hlt := reg_lt (n := 4294967295) (s.data.toList.take k) (by omega)
    by_cases h : k < s.size
    · have HS := Lib.hid (reg_snoc 4294967295 s k h)
      have hx := xor_byte (reg 4294967295 (s.data.toList.take k)) s[k] hlt
      have hx2 : reg 4294967295 (s.data.toList.take k) ^^^ s[k].toNat < 4294967296 := Nat.xor_lt_two_pow (n := 32) hlt (by have := s[k].toNat_lt; omega)
      generalize reg 4294967295 (s.data.toList.take k) = x at *
      go_wp2
      go_loop [3, 5] (fun m i => ∃ j : Nat, j ≤ 8 ∧ i = .int .i64 j ∧ m = .int .u32 (dnK j (x ^^^ s[k].toNat) : Nat)) (fun _ i => 8 - (intOf i).toNat)
      case atStart => exact ⟨0, Nat.zero_le _, rfl, rfl⟩
      case round =>
        obtain ⟨j, hj, rfl, rfl⟩ := hrel
        have hl2 := dnK_lt j hx2
        clear hx
        by_cases h8 : j < 8
        · have HT : Hid (dnK (j + 1) (x ^^^ s[k].toNat) = dn (dnK j (x ^^^ s[k].toNat))) := dnK_succ j _
          go_wp2
          all_goals
            go_round
            case rel => exact ⟨j + 1, by omega, by go_num, by rw [HT.out]; first | rw [dn_odd hl2 (by assumption)] | rw [dn_even hl2 (by assumption)]⟩
            case measure => simp [intOf]; omega
        · obtain rfl : j = 8 := by omega
          go_wp2
          go_round
          case rel => exact ⟨k + 1, by omega, by go_num, by rw [HS.out]⟩
          case measure => simp [intOf]; omega
    · go_wp2
      go_ret
      exact ⟨ret_int (by rw [not_reg s k (by omega)]), rfl⟩
end Go.Proofs.Ytibgimlfhpjeeaa.Crc
