/- wire.Two, Four, Text, and the document's own: what each call does. No statement is proved here. -/
import Derived.Test.YtibgimlfhpjeeaaWPlain
import Derived.Laws.BytesArg
namespace Go.Proofs.Ytibgimlfhpjeeaa.Wire
open Go.RowKit

theorem nums_two (n : Int) : strOfNums [n / 256 % 256, n % 256] = strB (twoL n) := by
  unfold strOfNums strB twoL b8
  simp only [List.map_cons, List.map_nil]

theorem conv2 (n : Int) (w1 : World) :
    Sem.run Try.prog (convert 35 9 (.slice (some ⟨w1.heap.size, 0, none⟩) 2 2)) (w1.alloc (.cells #[.int .u8 (n / 256 % 256), .int .u8 (n % 256)] 5)) =
      .ok (.string (strB (twoL n))) (w1.alloc (.cells #[.int .u8 (n / 256 % 256), .int .u8 (n % 256)] 5)) := by
  rw [← nums_two n]
  refine run_convert_bytes_arg _ 35 5 Try.underlying35 Try.underlying5 w1.heap.size 0 2 2 _ rfl ?_ 9 Try.underlying9
  intro i hi
  rw [cell_of_row _ _ _ _ _ _ (heap_alloc_new w1 _)]
  have : i = 0 ∨ i = 1 := by omega
  rcases this with rfl | rfl <;> rfl

set_option maxHeartbeats 1000000 in
theorem two_calls (n : Int) (w : World) :
    Calls Try.prog 21 #[.int .i64 n] w fun e w' => e = .returned (.string (strB (twoL n))) ∧ Below w.heap.size w w' := by
  have hcv := conv2 n
  go_enter Try.func21, Try.ntmps21
  go_wp2_with fail
  go_ret
  exact ⟨rfl, (Below.refl _ _).alloc (Nat.le_refl _) _⟩

theorem two_two (n : Int) : strB (twoL (n / 65536)) ++ strB (twoL n) = strB (fourL n) := strB_append _ _

theorem text_is_short (l : List UInt8) (h : l.length ≤ 65535) : strB (twoL (l.length : Nat)) ++ strB l = strB (textL l) := by
  rw [strB_append]
  unfold textL
  rw [List.take_of_length_le h, show min l.length 65535 = l.length by omega]

theorem text_is_long (l : List UInt8) (h : 65535 < l.length) : strB (twoL (65535 : Nat)) ++ (strB l).extract 0 65535 = strB (textL l) := by
  rw [strB_extract, strB_append]
  unfold textL
  rw [show min l.length 65535 = 65535 by omega]
  rfl

end Go.Proofs.Ytibgimlfhpjeeaa.Wire
