/- disk.padded and the law's own full: a sector's bytes and noughts. No statement is proved here. -/
import Derived.Test.YtnnbbkfdijionaaBase
import Derived.Test.YtnnbbkfdijionaaShelf
namespace Go.Proofs.Ytnnbbkfdijionaa
open Go.RowKit

/-- A sector: these bytes, and noughts. -/
def padB (s : ByteArray) : ByteArray := ⟨(s.data.toList ++ List.replicate (256 - s.size) 0).toArray⟩

theorem repeatL_zero : ∀ k : Nat, Lib.repeatL [0] k = List.replicate k 0
  | 0 => rfl
  | k + 1 => by rw [Lib.repeatL, repeatL_zero k, List.replicate_succ]; rfl

theorem padB_eq (s : ByteArray) (k : Nat) (hk : k = 256 - s.size) : s ++ (⟨(List.replicate k (0 : UInt8)).toArray⟩ : ByteArray) = padB s := by
  subst hk
  have : s = ⟨s.data.toList.toArray⟩ := by simp
  unfold padB
  conv => lhs; rw [this]
  rw [ByteArray.mk_append_mk]

set_option maxHeartbeats 400000 in
theorem padded_calls (s : ByteArray) (w : World) (h : s.size ≤ 256) :
    Calls Try.prog 27 #[.string s] w fun e w' => e = .returned (.string (padB s)) ∧ Below w.heap.size w w' := by
  obtain ⟨k, hk⟩ : ∃ k : Nat, k = 256 - s.size := ⟨_, rfl⟩
  have hk2 : (256 : Int) - (s.size : Int) = (k : Int) := by omega
  have HK := Lib.hid hk
  have HK2 := Lib.hid hk2
  have hk3 : k ≤ 256 := by omega
  clear hk hk2
  go_enter Try.func27, Try.ntmps27
  go_wp2_with fail
  rw [HK2.out]
  refine (Try.strings_Repeat ⟨#[0]⟩ k w (by omega) (by simp [ByteArray.size]; omega)).mono ?_
  rintro e w' ⟨rfl, hb⟩
  have e1 : Lib.repeatL (ByteArray.mk #[0]).data.toList k = List.replicate k 0 := repeatL_zero k
  rw [e1]
  have e2 := padB_eq s k HK.out
  obtain ⟨t, ht⟩ : ∃ t : ByteArray, t = ⟨(List.replicate k (0 : UInt8)).toArray⟩ := ⟨_, rfl⟩
  have hts : t.size = k := by rw [ht]; simp [ByteArray.size]
  have hts2 : t.size ≤ 256 := by omega
  rw [← ht] at e2 ⊢
  have E2 := Lib.hid e2
  clear e2 ht hts e1
  go_wp2_with fail
  go_ret
  exact ⟨congrArg (fun x => Ending.returned (Value.string x)) E2.out, hb⟩

theorem Try.info5 : (Try.prog.info? 5).map (fun i => (i.zero, i.size, i.bytes)) = some (some (.int .u8 0), 1, 1) := by kernel_rfl

set_option maxHeartbeats 400000 in
theorem full_calls (s : ByteArray) (w : World) (h : s.size ≤ 256) :
    Calls Try.prog 24 #[.string s] w fun e w' => e = .returned (.string (padB s)) ∧ Below w.heap.size w w' := by
  obtain ⟨k, hk⟩ : ∃ k : Nat, k = 256 - s.size := ⟨_, rfl⟩
  have hk2 : (256 : Int) - (s.size : Int) = (k : Int) := by omega
  obtain ⟨i0, hi, hz0, hz1, hz2⟩ := info_parts Try.info5
  have hmk : ∀ W : World, (Instr.makeSlice 54 (.int .i64 (256 - (s.size : Int))) (.int .i64 (256 - (s.size : Int)))).run Try.prog W = .ok (.slice (some ⟨W.heap.size, 0, none⟩) k k) (W.alloc (.cells (madeCells (Value.cells (.int .u8 0)) k) 5)) := by
    intro W
    have := run_make (P := Try.prog) W 54 5 i0 (.int .u8 0) Try.underlying54 hi hz0 .i64 .i64 (256 - (s.size : Int)) (256 - (s.size : Int)) (by omega) (by omega) (by rw [hz2]; omega) (by omega)
    rw [this, hk2, hz1]
    simp
  obtain ⟨t, ht⟩ : ∃ t : ByteArray, t = ⟨(List.replicate k (0 : UInt8)).toArray⟩ := ⟨_, rfl⟩
  have hcv : ∀ W : World, (convert 54 9 (.slice (some ⟨W.heap.size, 0, none⟩) k k)).run Try.prog (W.alloc (.cells (madeCells #[.int .u8 0] k) 5)) = .ok (.string t) (W.alloc (.cells (madeCells #[.int .u8 0] k) 5)) := by
    intro W
    have h0 := run_convert_bytes_back (P := Try.prog) (W.alloc (.cells (madeCells #[.int .u8 0] k) 5)) 54 9 5 ⟨W.heap.size, 0, none⟩ k (List.replicate k 0) Try.underlying54 Try.underlying5 Try.underlying9 ?_
    · rw [ht]; simpa using h0
    · intro j hj
      have hj' : j < k := by simpa using hj
      rw [Addr.add_lit, cell_of_row _ _ _ _ _ _ (heap_alloc_new W _)]
      simp [madeCells, hj', Nat.mod_one]
  have e2 := padB_eq s k hk
  have hts : t.size = k := by rw [ht]; simp [ByteArray.size]
  have hts2 : t.size ≤ 256 := by omega
  rw [← ht] at e2
  have E2 := Lib.hid e2
  clear e2 ht hts hk hk2
  go_enter Try.func24, Try.ntmps24
  go_wp2
  go_ret
  exact ⟨congrArg (fun x => Ending.returned (Value.string x)) E2.out, (Below.refl _ _).alloc (Nat.le_refl _) _⟩
end Go.Proofs.Ytnnbbkfdijionaa
