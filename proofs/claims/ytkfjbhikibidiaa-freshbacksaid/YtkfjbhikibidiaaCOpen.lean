/- crc.Open, and the document's own: what each call does. No statement is proved here. -/
import Derived.Test.YtkfjbhikibidiaaCSeal
import Derived.Deep.RegionWith
namespace Go.Proofs.Ytkfjbhikibidiaa.Crc
open Go.RowKit

/-- What Open gives. -/
def openS (s : ByteArray) : ByteArray := if opens s.data.toList then strB (s.data.toList.take (s.data.toList.length - 4)) else ByteArray.empty

theorem data_cut (s : ByteArray) : (s.extract 0 (s.size - 4)).data.toList = s.data.toList.take (s.size - 4) := by
  simp [ByteArray.data_extract, Array.toList_extract]

theorem data_end (s : ByteArray) : (s.extract (s.size - 4) s.size).data.toList = s.data.toList.drop (s.size - 4) := by
  simp only [ByteArray.data_extract, Array.toList_extract, List.extract_eq_take_drop]
  rw [List.take_of_length_le (by simp)]

theorem opens_spell (s : ByteArray) (hs : 4 ≤ s.size) : opens s.data.toList = ((s.extract (s.size - 4) s.size).toList == (strB (tailB (crcN (List.take (s.size - 4) s.data.toList)))).toList) := by
  unfold opens
  rw [ByteArray.toList_eq, ByteArray.toList_eq, data_end, len_data, decide_eq_true hs, Bool.true_and, Bool.eq_iff_iff, decide_eq_true_iff, beq_iff_eq]
  rfl

theorem openS_yes (s : ByteArray) (h : opens s.data.toList = true) : openS s = s.extract 0 (s.size - 4) := by
  unfold openS
  rw [if_pos h, ← len_data, strB]
  apply ByteArray.ext
  apply Array.toList_inj.1
  rw [len_data, data_cut]

theorem openS_no (s : ByteArray) (h : opens s.data.toList = false) : openS s = ByteArray.empty := by
  unfold openS
  rw [h]; rfl

theorem ret_open {s t : ByteArray} {b c : Bool} (h : s = t) (h2 : b = c) : Ending.returned (.tuple #[.string s, .bool b]) = .returned (.tuple #[.string t, .bool c]) := by rw [h, h2]

theorem end_yes (s : ByteArray) (hs : 4 ≤ s.size) (h : (!((s.extract (s.size - 4) s.size).toList == (strB (tailB (crcN (List.take (s.size - 4) s.data.toList)))).toList)) = false) :
    Ending.returned (.tuple #[.string (s.extract 0 (s.size - 4)), .bool true]) = .returned (.tuple #[.string (openS s), .bool (opens s.data.toList)]) := by
  rw [← opens_spell s hs] at h
  have hO : opens s.data.toList = true := by cases e : opens s.data.toList <;> simp_all
  exact ret_open (openS_yes s hO).symm hO.symm

theorem end_no (s : ByteArray) (hs : 4 ≤ s.size) (h : (!((s.extract (s.size - 4) s.size).toList == (strB (tailB (crcN (List.take (s.size - 4) s.data.toList)))).toList)) = true) :
    Ending.returned (.tuple #[.string ⟨#[]⟩, .bool false]) = .returned (.tuple #[.string (openS s), .bool (opens s.data.toList)]) := by
  rw [← opens_spell s hs] at h
  have hO : opens s.data.toList = false := by cases e : opens s.data.toList <;> simp_all
  exact ret_open (openS_no s hO).symm hO.symm

theorem spell_two (s : ByteArray) (hs : 4 ≤ s.size) : ((s.extract (s.size - 4) s.size).toList == (strB (tailB (crcN (List.take (s.size - 4) s.data.toList)))).toList) = ((strB (sealB (List.take (s.size - 4) s.data.toList))).toList == s.toList) := by
  rw [← opens_spell s hs, Bool.eq_iff_iff, ByteArray.toList_eq, ByteArray.toList_eq, beq_iff_eq]
  show _ ↔ sealB (List.take (s.size - 4) s.data.toList) = s.data.toList
  constructor
  · intro h
    have := opens_is _ h
    rwa [len_data] at this
  · intro h
    rw [← h]; exact opens_seal _

theorem below_drew {w w1 : World} (h : Below w.drew.heap.size w.drew w1) : Below w.heap.size w w1 := ⟨h.os, h.tape, h.output, h.size, h.block⟩

set_option maxHeartbeats 1000000 in
theorem open_short (s : ByteArray) (w : World) (hs : s.size < 4) :
    Calls Try.prog 21 #[.string s] w fun e w' => e = .returned (.tuple #[.string ByteArray.empty, .bool false]) ∧ w = w' := by
  go_enter Try.func21, Try.ntmps21
  go_wp2_with fail
  go_ret2
  exact ⟨rfl, rfl⟩

set_option maxHeartbeats 1000000 in
theorem open_long (s : ByteArray) (w : World) (hs : 4 ≤ s.size) (hm : s.size ≤ maxLen) :
    Calls Try.prog 21 #[.string s] w fun e w' => e = .returned (.tuple #[.string (openS s), .bool (opens s.data.toList)]) ∧ Below w.heap.size w w' := by
  unfold maxLen at hm
  go_enter Try.func21, Try.ntmps21
  go_wp2_with fail
  have hcut : (s.extract 0 (s.size - 4)).size ≤ maxLen := by simp [ByteArray.size_extract, maxLen]; omega
  have hnat : ((s.size : Int) - 4).toNat = s.size - 4 := by omega
  go_region_with (first | (go_at_call 30; (with_reducible refine (tail_calls (s.extract 0 (s.size - 4)) _ hcut).mono ?_); rintro e w1 ⟨rfl, hB⟩))
  all_goals go_wp2_with fail
  all_goals
    go_ret2
    first | exact ⟨end_yes s hs (by assumption), below_drew hB⟩ | exact ⟨end_no s hs (by assumption), below_drew hB⟩

theorem opens_short (s : ByteArray) (hs : s.size < 4) : opens s.data.toList = false := by
  unfold opens
  rw [len_data, decide_eq_false (by omega), Bool.false_and]

theorem open_calls (s : ByteArray) (w : World) (hm : s.size ≤ maxLen) :
    Calls Try.prog 21 #[.string s] w fun e w' => e = .returned (.tuple #[.string (openS s), .bool (opens s.data.toList)]) ∧ Below w.heap.size w w' := by
  by_cases hs : 4 ≤ s.size
  · exact open_long s w hs hm
  · refine (open_short s w (by omega)).mono ?_
    rintro e w' ⟨rfl, rfl⟩
    have h := opens_short s (by omega)
    rw [openS_no s h, h]
    exact ⟨rfl, Below.refl _ _⟩

end Go.Proofs.Ytkfjbhikibidiaa.Crc
