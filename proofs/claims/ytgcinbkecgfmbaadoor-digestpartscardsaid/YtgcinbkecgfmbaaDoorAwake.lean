/- The chapter's examples: awake answers true. No statement is proved here. -/
import Derived.Test.YtgcinbkecgfmbaaDoorJoin
namespace Go.Proofs.YtgcinbkecgfmbaaDoor
open Go.RowKit

theorem aw_sum (l : List UInt8) (n : Int) (h : ((sumL l : Nat) : Int) = n) (hL : l.length ≤ 100000) (w : World) : Calls Tryd.prog 7 #[.string ⟨l.toArray⟩] w fun e w' => e = .returned (.int .u64 n) ∧ Below w.heap.size w w' := by
  rw [← h]
  exact sum_calls l w hL
theorem aw_tag (l m : List UInt8) (h : tagL l = m) (hL : l.length ≤ 100000) (w : World) : Calls Tryd.prog 9 #[.string ⟨l.toArray⟩] w fun e w' => e = .returned (.string ⟨m.toArray⟩) ∧ Below w.heap.size w w' := by
  rw [← h]
  exact tag_calls l w hL
theorem sum_nil : sumL [] = 14695981039346656037 := reg_nil _
theorem sum_a : sumL [97] = 12638187200555641996 := by
  unfold sumL
  rw [reg_one]
  decide +kernel
theorem tag_nil : tagL [] = [99, 98, 102, 50, 57, 99, 101, 52, 56, 52, 50, 50, 50, 51, 50, 53] := by
  unfold tagL
  rw [sum_nil]
  decide +kernel
theorem tag_a : tagL [97] = [97, 102, 54, 51, 100, 99, 52, 99, 56, 54, 48, 49, 101, 99, 56, 99] := by
  unfold tagL
  rw [sum_a]
  decide +kernel
theorem aw_join1 (w : World) : Calls Tryd.prog 11 #[.slice (some ⟨w.heap.size, 0, none⟩) 1 1] (w.alloc (.cells #[.string ⟨#[97]⟩] 9)) fun e w' => e = .returned (.string ⟨#[97, 102, 54, 51, 100, 99, 52, 99, 56, 54, 48, 49, 101, 99, 56, 99, 45, 49]⟩) ∧ Below w.heap.size w w' := by
  have hS : StrsIn (w.alloc (.cells #[.string ⟨#[97]⟩] 9)) (some ⟨w.heap.size, 0, none⟩) [[97]] := fun _ => ⟨w.heap.size, 0, rfl, by simp, fun j hj => by
    obtain rfl : j = 0 := by simpa using hj
    rw [cell_of_row _ _ _ _ _ _ (heap_alloc_new w _)]; rfl⟩
  refine (joined_calls (some ⟨w.heap.size, 0, none⟩) 1 1 [[97]] _ hS rfl (by decide) (by decide) (fun h => absurd h (by decide))).mono ?_
  rintro e w' ⟨rfl, hB⟩
  refine ⟨?_, two_below ((Below.refl w.heap.size w).alloc (Nat.le_refl _) _) hB⟩
  have e : joinL [[97]] = [97, 102, 54, 51, 100, 99, 52, 99, 56, 54, 48, 49, 101, 99, 56, 99, 45, 49] := by
    unfold joinL
    rw [show [[(97 : UInt8)]].flatten = [97] from rfl, tag_a, show [[(97 : UInt8)]].length = 1 from rfl, dec_one (by decide)]
    rfl
  rw [e]
  rfl
theorem aw_join0 (w : World) : Calls Tryd.prog 11 #[.slice none 0 0] w fun e w' => e = .returned (.string ⟨#[99, 98, 102, 50, 57, 99, 101, 52, 56, 52, 50, 50, 50, 51, 50, 53, 45, 48]⟩) ∧ Below w.heap.size w w' := by
  refine (joined_calls none 0 0 [] _ (fun h => absurd h (by decide)) rfl (by decide) (by decide) (fun h => absurd h (by decide))).mono ?_
  rintro e w' ⟨rfl, hB⟩
  refine ⟨?_, hB⟩
  have e : joinL [] = [99, 98, 102, 50, 57, 99, 101, 52, 56, 52, 50, 50, 50, 51, 50, 53, 45, 48] := by
    unfold joinL
    rw [show ([] : List (List UInt8)).flatten = [] from rfl, tag_nil, show ([] : List (List UInt8)).length = 0 from rfl, dec_one (by decide)]
    rfl
  rw [e]
  rfl

set_option maxRecDepth 100000 in
set_option maxHeartbeats 2000000 in
theorem awake_true (w : World) : Calls Tryd.prog 6 #[] w fun e w' => e = .returned (.bool true) ∧ Below w.heap.size w w' := by
  have h0 := sum_nil
  have h1 := sum_a
  go_enter Tryd.func6, Tryd.ntmps6
  go_wp2_with fail
  (with_reducible refine (aw_sum [] 14695981039346656037 (congrArg Nat.cast h0) (by decide) _).mono ?_)
  rintro e w1 ⟨rfl, hB⟩
  have B1 := Lib.hid hB
  clear hB
  go_wp2_with fail
  (with_reducible refine (aw_sum [97] 12638187200555641996 (congrArg Nat.cast h1) (by decide) _).mono ?_)
  rintro e w2 ⟨rfl, hB⟩
  have B2 := Lib.hid (two_below B1.out hB)
  clear hB B1
  go_wp2_with fail
  (with_reducible refine (aw_tag [97] [97, 102, 54, 51, 100, 99, 52, 99, 56, 54, 48, 49, 101, 99, 56, 99] tag_a (by decide) _).mono ?_)
  rintro e w3 ⟨rfl, hB⟩
  have B3 := Lib.hid (two_below B2.out hB)
  clear hB B2
  go_wp2_with fail
  (with_reducible refine (aw_tag [] [99, 98, 102, 50, 57, 99, 101, 52, 56, 52, 50, 50, 50, 51, 50, 53] tag_nil (by decide) _).mono ?_)
  rintro e w4 ⟨rfl, hB⟩
  have B4 := Lib.hid (two_below B3.out hB)
  clear hB B3
  go_wp2_with fail
  (with_reducible refine (aw_join1 _).mono ?_)
  rintro e w5 ⟨rfl, hB⟩
  have B5 := Lib.hid (two_below B4.out hB)
  clear hB B4
  go_wp2_with fail
  (with_reducible refine (aw_join0 _).mono ?_)
  rintro e w6 ⟨rfl, hB⟩
  have B6 := Lib.hid (two_below B5.out hB)
  clear hB B5
  go_wp2_with fail
  go_ret
  exact ⟨rfl, B6.out⟩
end Go.Proofs.YtgcinbkecgfmbaaDoor
