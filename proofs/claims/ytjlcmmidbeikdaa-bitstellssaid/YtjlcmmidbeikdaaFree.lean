/- bits.Free, Root, SetRoot, and the document's: what each call does. No statement is proved here. -/
import Derived.Test.YtjlcmmidbeikdaaTaken
namespace Go.Proofs.Ytjlcmmidbeikdaa
open Go.RowKit Go.Sort

theorem below_trans2 {a b c : World} (h : Below a.heap.size a b) (k : Below b.heap.size b c) : Below a.heap.size a c := h.trans (k.mono h.size)
theorem rtaken_nat (l : List UInt8) (p : Nat) (w : World) (hl : l.length ≤ 300) :
    Calls Try.prog 13 #[.string (strB l), .int .i64 (p : Nat)] w fun e w' => e = .returned (.bool (tk l p)) ∧ w' = w := by
  have := rtaken_calls l p w hl
  rw [tkI_nat] at this
  exact this

set_option maxRecDepth 100000 in
set_option maxHeartbeats 2000000 in
theorem free_few (l : List UInt8) (pages : Int) (w : World) (hl : l.length ≤ 300) (hp : pages ≤ 512) :
    Calls Try.prog 16 #[.string (strB l), .int .i64 pages] w fun e w' => e = .returned (.int .i64 (freeN l (capN pages) : Nat)) ∧ Below w.heap.size w w' := by
  obtain ⟨N, hN⟩ : ∃ N, N = capN pages := ⟨_, rfl⟩
  have hN1 : (N : Int) = max (min pages 512) 0 := by rw [hN]; unfold capN; omega
  have HN := Lib.hid hN
  have HL := Lib.hid (freeN_le l)
  rw [← hN]
  clear hN
  have hn1 : ¬ (512 : Int) < pages := by omega
  go_enter Try.func16, Try.ntmps16
  go_wp2_with fail
  go_loopw [5, 9] (fun u5 u9 wr => ∃ i : Nat, i ≤ N ∧ u9 = .int .i64 (i : Nat) ∧ u5 = .int .i64 (freeN l i : Nat) ∧ Hid (Below w.heap.size w wr)) (fun _ u _ => N - (intOf u).toNat)
  case atStart => exact ⟨0, Nat.zero_le _, rfl, rfl, Lib.hid (Below.refl _ _)⟩
  case round =>
    obtain ⟨i, hi, rfl, rfl, HB⟩ := hrel
    have hfi := HL.out i
    by_cases hlt : i < N
    · have g1 : (i : Int) < pages := by omega
      have g2 : (i : Int) < 512 := by omega
      go_wp2_with fail
      (with_reducible refine (taken_nat l i _ hl).mono ?_)
      rintro e w2 ⟨rfl, hB⟩
      
      cases ht : tk l i with
      | true =>
        have HE : Hid (freeN l (i + 1) = freeN l i) := Lib.hid (freeN_taken ht)
        go_wp2_with fail
        exact ⟨⟨i + 1, by omega, by go_num, by rw [HE.out], Lib.hid (below_trans2 HB.out hB)⟩, by simp [intOf]; omega⟩
      | false =>
        have HE : Hid (freeN l (i + 1) = freeN l i + 1) := Lib.hid (freeN_free ht)
        go_wp2_with fail
        exact ⟨⟨i + 1, by omega, by go_num, by rw [HE.out]; go_num, Lib.hid (below_trans2 HB.out hB)⟩, by simp [intOf]; omega⟩
    · obtain rfl : i = N := by omega
      have g1 : ¬ (i : Int) < pages := by omega
      clear hN1 hlt
      go_wp2_with fail
      go_ret
      exact ⟨rfl, HB.out⟩

set_option maxRecDepth 100000 in
set_option maxHeartbeats 2000000 in
theorem free_big (l : List UInt8) (pages : Int) (w : World) (hl : l.length ≤ 300) (hp : 512 < pages) :
    Calls Try.prog 16 #[.string (strB l), .int .i64 pages] w fun e w' => e = .returned (.int .i64 (freeN l (capN pages) : Nat)) ∧ Below w.heap.size w w' := by
  obtain ⟨N, hN⟩ : ∃ N, N = capN pages := ⟨_, rfl⟩
  have hN1 : (N : Int) = max (min pages 512) 0 := by rw [hN]; unfold capN; omega
  have HN := Lib.hid hN
  have HL := Lib.hid (freeN_le l)
  rw [← hN]
  clear hN
  have hn1 : (512 : Int) < pages := by omega
  go_enter Try.func16, Try.ntmps16
  go_wp2_with fail
  go_loopw [5, 9] (fun u5 u9 wr => ∃ i : Nat, i ≤ N ∧ u9 = .int .i64 (i : Nat) ∧ u5 = .int .i64 (freeN l i : Nat) ∧ Hid (Below w.heap.size w wr)) (fun _ u _ => N - (intOf u).toNat)
  case atStart => exact ⟨0, Nat.zero_le _, rfl, rfl, Lib.hid (Below.refl _ _)⟩
  case round =>
    obtain ⟨i, hi, rfl, rfl, HB⟩ := hrel
    have hfi := HL.out i
    by_cases hlt : i < N
    · have g1 : (i : Int) < pages := by omega
      have g2 : (i : Int) < 512 := by omega
      go_wp2_with fail
      (with_reducible refine (taken_nat l i _ hl).mono ?_)
      rintro e w2 ⟨rfl, hB⟩
      
      cases ht : tk l i with
      | true =>
        have HE : Hid (freeN l (i + 1) = freeN l i) := Lib.hid (freeN_taken ht)
        go_wp2_with fail
        exact ⟨⟨i + 1, by omega, by go_num, by rw [HE.out], Lib.hid (below_trans2 HB.out hB)⟩, by simp [intOf]; omega⟩
      | false =>
        have HE : Hid (freeN l (i + 1) = freeN l i + 1) := Lib.hid (freeN_free ht)
        go_wp2_with fail
        exact ⟨⟨i + 1, by omega, by go_num, by rw [HE.out]; go_num, Lib.hid (below_trans2 HB.out hB)⟩, by simp [intOf]; omega⟩
    · obtain rfl : i = N := by omega
      have g1 : ¬ (i : Int) < 512 := by omega
      clear hN1 hlt
      go_wp2_with fail
      go_ret
      exact ⟨rfl, HB.out⟩

set_option maxRecDepth 100000 in
set_option maxHeartbeats 2000000 in
theorem rfree_few (l : List UInt8) (pages : Int) (w : World) (hl : l.length ≤ 300) (hp : pages ≤ 512) :
    Calls Try.prog 17 #[.string (strB l), .int .i64 pages] w fun e w' => e = .returned (.int .i64 (freeN l (capN pages) : Nat)) ∧ Below w.heap.size w w' := by
  obtain ⟨N, hN⟩ : ∃ N, N = capN pages := ⟨_, rfl⟩
  have hN1 : (N : Int) = max (min pages 512) 0 := by rw [hN]; unfold capN; omega
  have HN := Lib.hid hN
  have HL := Lib.hid (freeN_le l)
  rw [← hN]
  clear hN
  go_enter Try.func17, Try.ntmps17
  go_wp2_with fail
  go_loopw [5, 6] (fun u5 u9 wr => ∃ i : Nat, i ≤ N ∧ u9 = .int .i64 (i : Nat) ∧ u5 = .int .i64 (freeN l i : Nat) ∧ Hid (Below w.heap.size w wr)) (fun _ u _ => N - (intOf u).toNat)
  case atStart => exact ⟨0, Nat.zero_le _, rfl, rfl, Lib.hid (Below.refl _ _)⟩
  case round =>
    obtain ⟨i, hi, rfl, rfl, HB⟩ := hrel
    have hfi := HL.out i
    by_cases hlt : i < N
    · have g1 : (i : Int) < pages := by omega
      have g2 : (i : Int) < 512 := by omega
      go_wp2_with fail
      (with_reducible refine (rtaken_nat l i _ hl).mono ?_)
      rintro e w2 ⟨rfl, hB⟩
      obtain rfl := hB
      cases ht : tk l i with
      | true =>
        have HE : Hid (freeN l (i + 1) = freeN l i) := Lib.hid (freeN_taken ht)
        go_wp2_with fail
        exact ⟨⟨i + 1, by omega, by go_num, by rw [HE.out], HB⟩, by simp [intOf]; omega⟩
      | false =>
        have HE : Hid (freeN l (i + 1) = freeN l i + 1) := Lib.hid (freeN_free ht)
        go_wp2_with fail
        exact ⟨⟨i + 1, by omega, by go_num, by rw [HE.out]; go_num, HB⟩, by simp [intOf]; omega⟩
    · obtain rfl : i = N := by omega
      have g1 : ¬ (i : Int) < pages := by omega
      clear hN1 hlt
      go_wp2_with fail
      go_ret
      exact ⟨rfl, HB.out⟩

set_option maxRecDepth 100000 in
set_option maxHeartbeats 2000000 in
theorem rfree_big (l : List UInt8) (pages : Int) (w : World) (hl : l.length ≤ 300) (hp : 512 < pages) :
    Calls Try.prog 17 #[.string (strB l), .int .i64 pages] w fun e w' => e = .returned (.int .i64 (freeN l (capN pages) : Nat)) ∧ Below w.heap.size w w' := by
  obtain ⟨N, hN⟩ : ∃ N, N = capN pages := ⟨_, rfl⟩
  have hN1 : (N : Int) = max (min pages 512) 0 := by rw [hN]; unfold capN; omega
  have HN := Lib.hid hN
  have HL := Lib.hid (freeN_le l)
  rw [← hN]
  clear hN
  go_enter Try.func17, Try.ntmps17
  go_wp2_with fail
  go_loopw [5, 6] (fun u5 u9 wr => ∃ i : Nat, i ≤ N ∧ u9 = .int .i64 (i : Nat) ∧ u5 = .int .i64 (freeN l i : Nat) ∧ Hid (Below w.heap.size w wr)) (fun _ u _ => N - (intOf u).toNat)
  case atStart => exact ⟨0, Nat.zero_le _, rfl, rfl, Lib.hid (Below.refl _ _)⟩
  case round =>
    obtain ⟨i, hi, rfl, rfl, HB⟩ := hrel
    have hfi := HL.out i
    by_cases hlt : i < N
    · have g1 : (i : Int) < pages := by omega
      have g2 : (i : Int) < 512 := by omega
      go_wp2_with fail
      (with_reducible refine (rtaken_nat l i _ hl).mono ?_)
      rintro e w2 ⟨rfl, hB⟩
      obtain rfl := hB
      cases ht : tk l i with
      | true =>
        have HE : Hid (freeN l (i + 1) = freeN l i) := Lib.hid (freeN_taken ht)
        go_wp2_with fail
        exact ⟨⟨i + 1, by omega, by go_num, by rw [HE.out], HB⟩, by simp [intOf]; omega⟩
      | false =>
        have HE : Hid (freeN l (i + 1) = freeN l i + 1) := Lib.hid (freeN_free ht)
        go_wp2_with fail
        exact ⟨⟨i + 1, by omega, by go_num, by rw [HE.out]; go_num, HB⟩, by simp [intOf]; omega⟩
    · obtain rfl : i = N := by omega
      have g0 : (i : Int) < pages := by omega
      have g1 : ¬ (i : Int) < 512 := by omega
      clear hN1 hlt
      go_wp2_with fail
      go_ret
      exact ⟨rfl, HB.out⟩

theorem free_calls (l : List UInt8) (pages : Int) (w : World) (hl : l.length ≤ 300) :
    Calls Try.prog 16 #[.string (strB l), .int .i64 pages] w fun e w' => e = .returned (.int .i64 (freeN l (capN pages) : Nat)) ∧ Below w.heap.size w w' := by
  by_cases h : pages ≤ 512
  · exact free_few l pages w hl h
  · exact free_big l pages w hl (by omega)
theorem rfree_calls (l : List UInt8) (pages : Int) (w : World) (hl : l.length ≤ 300) :
    Calls Try.prog 17 #[.string (strB l), .int .i64 pages] w fun e w' => e = .returned (.int .i64 (freeN l (capN pages) : Nat)) ∧ Below w.heap.size w w' := by
  by_cases h : pages ≤ 512
  · exact rfree_few l pages w hl h
  · exact rfree_big l pages w hl (by omega)

end Go.Proofs.Ytjlcmmidbeikdaa
