/- crc.tail, Seal, Open, and the document's own: what each call does. No statement is proved here. -/
import Derived.Test.YtibgimlfhpjeeaaCLeft
import Derived.Laws.BytesArg
namespace Go.Proofs.Ytibgimlfhpjeeaa.Crc
open Go.RowKit

theorem ofNat_mod8 (n : Nat) : UInt8.ofNat (n % 256) = UInt8.ofNat n := by
  apply UInt8.toNat_inj.1; simp

theorem nums_tail (n : Nat) (h : n < 4294967296) : strOfNums [(n : Int) % 256, (n : Int) / 256 % 256, (n : Int) / 65536 % 256, (n : Int) / 16777216] = strB (tailB n) := by
  unfold strOfNums strB tailB
  rw [show ((n : Int) % 256) = ((n % 256 : Nat) : Int) by omega, show ((n : Int) / 256 % 256) = ((n / 256 % 256 : Nat) : Int) by omega, show ((n : Int) / 65536 % 256) = ((n / 65536 % 256 : Nat) : Int) by omega, show ((n : Int) / 16777216) = ((n / 16777216 : Nat) : Int) by omega]
  simp only [List.map_cons, List.map_nil, Int.toNat_natCast, ofNat_mod8]

theorem conv4 (n : Nat) (h : n < 4294967296) (w1 : World) :
    Sem.run Try.prog (convert 35 9 (.slice (some ⟨w1.heap.size, 0, none⟩) 4 4)) (w1.alloc (.cells #[.int .u8 ((n : Int) % 256), .int .u8 ((n : Int) / 256 % 256), .int .u8 ((n : Int) / 65536 % 256), .int .u8 ((n : Int) / 16777216)] 5)) =
      .ok (.string (strB (tailB n))) (w1.alloc (.cells #[.int .u8 ((n : Int) % 256), .int .u8 ((n : Int) / 256 % 256), .int .u8 ((n : Int) / 65536 % 256), .int .u8 ((n : Int) / 16777216)] 5)) := by
  rw [← nums_tail n h]
  refine run_convert_bytes_arg _ 35 5 Try.underlying35 Try.underlying5 w1.heap.size 0 4 4 _ rfl ?_ 9 Try.underlying9
  intro i hi
  rw [cell_of_row _ _ _ _ _ _ (heap_alloc_new w1 _)]
  have : i = 0 ∨ i = 1 ∨ i = 2 ∨ i = 3 := by omega
  rcases this with rfl | rfl | rfl | rfl <;> rfl

set_option maxHeartbeats 1000000 in
theorem tail_calls (s : ByteArray) (w : World) (hs : s.size ≤ maxLen) :
    Calls Try.prog 29 #[.string s] w fun e w' => e = .returned (.string (strB (tailB (crcN s.data.toList)))) ∧ Below w.heap.size w w' := by
  have hlt := crcN_lt s.data.toList
  have hcv := conv4 (crcN s.data.toList) hlt
  go_enter Try.func29, Try.ntmps29
  go_wp2_with fail
  (with_reducible refine (of_calls s _ hs).mono ?_)
  rintro e w1 ⟨rfl, hB⟩
  go_wp2_with fail
  go_ret
  exact ⟨rfl, hB.alloc hB.size _⟩

theorem str_seal (s : ByteArray) : s ++ strB (tailB (crcN s.data.toList)) = strB (sealB s.data.toList) := by
  apply ByteArray.ext
  simp [strB, sealB]

set_option maxHeartbeats 1000000 in
theorem seal_calls (s : ByteArray) (w : World) (hs : s.size ≤ 9223372036854775000) :
    Calls Try.prog 22 #[.string s] w fun e w' => e = .returned (.string (strB (sealB s.data.toList))) ∧ Below w.heap.size w w' := by
  go_enter Try.func22, Try.ntmps22
  go_wp2_with fail
  (with_reducible refine (tail_calls s _ (by unfold maxLen; omega)).mono ?_)
  rintro e w1 ⟨rfl, hB⟩
  have hz : ¬ 9223372036854775807 < s.size + (strB (tailB (crcN s.data.toList))).size := by rw [strB_size, tailB_len]; omega
  go_wp2_with fail
  go_ret
  exact ⟨ret_str (str_seal s), hB⟩

end Go.Proofs.Ytibgimlfhpjeeaa.Crc
