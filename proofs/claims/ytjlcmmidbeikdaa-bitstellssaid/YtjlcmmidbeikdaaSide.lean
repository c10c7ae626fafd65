/- bits.Side and the document's: what each call does. No statement is proved here. -/
import Derived.Test.YtjlcmmidbeikdaaMem
namespace Go.Proofs.Ytjlcmmidbeikdaa
open Go.RowKit Go.Sort

theorem SBox.free {w : World} {g : Nat} {x : Int × Int} (h : SBox w g x) (i : Nat) : w.frozen? ⟨g, i, none⟩ = false := by unfold SBox at h; simp [World.frozen?, h]
/-- The world behind the store of a run, under a name of its own. -/
theorem store2 {w : World} {g : Nat} {y : Int × Int} (h : SBox w g y) (x : Int × Int) :
    ∃ w2, (w.setCell ⟨g, 0, none⟩ (.int .i64 x.1)).setCell ⟨g, 1, none⟩ (.int .i64 x.2) = w2 ∧ SBox w2 g x ∧ Below g w w2 := by
  refine ⟨_, rfl, ?_, ((Below.refl g w).setCell (Nat.le_refl _) _).setCell (Nat.le_refl _) _⟩
  exact heap_setCell_same _ g 1 _ 26 _ (heap_setCell_same w g 0 _ 26 _ h)
theorem below_low {w Y wr w3 : World} (h : Below Y.heap.size Y wr) (k : Below w.heap.size wr w3) (b : Below w.heap.size w Y) : Below w.heap.size w w3 := (b.trans (h.mono b.size)).trans k
theorem ret_side {a b : Int} {d : Int × Int} {p q : Bool} (h : d = (a, b)) (k : q = p) : Ending.returned (.tuple #[.agg #[.int .i64 a, .int .i64 b], .bool p]) = .returned (.tuple #[.agg #[.int .i64 d.1, .int .i64 d.2], .bool q]) := by rw [h, k]
section
variable {l : List UInt8} {pages n : Int} {N i : Nat}
theorem sideX_of (h : 1 ≤ n) (hN : N = capN pages) : sideX l pages n = sideN l n N := by unfold sideX; rw [if_neg (by omega), hN]
theorem sideV_hit (h : 1 ≤ n) (hN : N = capN pages) (hs : sideN l n N = some i) : sideV l pages n = ((i : Int) + 1 - n, n) := by unfold sideV; rw [sideX_of h hN, hs]
theorem sideB_hit (h : 1 ≤ n) (hN : N = capN pages) (hs : sideN l n N = some i) : sideB l pages n = true := by unfold sideB; rw [sideX_of h hN, hs]; rfl
theorem sideV_miss (h : 1 ≤ n) (hN : N = capN pages) (hs : sideN l n N = none) : sideV l pages n = (0, 0) := by unfold sideV; rw [sideX_of h hN, hs]
theorem sideB_miss (h : 1 ≤ n) (hN : N = capN pages) (hs : sideN l n N = none) : sideB l pages n = false := by unfold sideB; rw [sideX_of h hN, hs]; rfl
end

set_option maxRecDepth 100000 in
set_option maxHeartbeats 2000000 in
theorem side_none (l : List UInt8) (pages n : Int) (w : World) (hn : n < 1) :
    Calls Try.prog 8 #[.string (strB l), .int .i64 pages, .int .i64 n] w fun e w' => e = .returned (.tuple #[.agg #[.int .i64 (sideV l pages n).1, .int .i64 (sideV l pages n).2], .bool (sideB l pages n)]) ∧ Below w.heap.size w w' := by
  have e1 : sideX l pages n = none := by unfold sideX; rw [if_pos hn]
  have e2 : sideV l pages n = (0, 0) := by unfold sideV; rw [e1]
  have e3 : sideB l pages n = false := by unfold sideB; rw [e1]; rfl
  rw [e2, e3]
  clear e1 e2 e3
  go_enter Try.func8, Try.ntmps8
  go_wp2_with fail
  refine bodyPost_ret (v := .tuple #[.agg #[.int .i64 0, .int .i64 0], .bool false]) (by simp [results, Try.results8, go_sem]) rfl ⟨rfl, below_one _ _⟩

set_option maxRecDepth 100000 in
set_option maxHeartbeats 2000000 in
theorem rside_none (l : List UInt8) (pages n : Int) (w : World) (hn : n < 1) :
    Calls Try.prog 9 #[.string (strB l), .int .i64 pages, .int .i64 n] w fun e w' => e = .returned (.tuple #[.agg #[.int .i64 (sideV l pages n).1, .int .i64 (sideV l pages n).2], .bool (sideB l pages n)]) ∧ Below w.heap.size w w' := by
  have e1 : sideX l pages n = none := by unfold sideX; rw [if_pos hn]
  have e2 : sideV l pages n = (0, 0) := by unfold sideV; rw [e1]
  have e3 : sideB l pages n = false := by unfold sideB; rw [e1]; rfl
  rw [e2, e3]
  clear e1 e2 e3
  go_enter Try.func9, Try.ntmps9
  go_wp2_with fail
  refine bodyPost_ret (v := .tuple #[.agg #[.int .i64 0, .int .i64 0], .bool false]) (by simp [results, Try.results9, go_sem]) rfl ⟨rfl, below_one _ _⟩

set_option maxRecDepth 100000 in
set_option maxHeartbeats 2000000 in
theorem side_few (l : List UInt8) (pages n : Int) (w : World) (hl : l.length ≤ 300) (hn : 1 ≤ n) (hn2 : n ≤ 1000) (hp : pages ≤ 512) :
    Calls Try.prog 8 #[.string (strB l), .int .i64 pages, .int .i64 n] w fun e w' => e = .returned (.tuple #[.agg #[.int .i64 (sideV l pages n).1, .int .i64 (sideV l pages n).2], .bool (sideB l pages n)]) ∧ Below w.heap.size w w' := by
  obtain ⟨N, hN⟩ : ∃ N, N = capN pages := ⟨_, rfl⟩
  have hN1 : (N : Int) = max (min pages 512) 0 := by rw [hN]; unfold capN; omega
  have HN := Lib.hid hN
  have HK := Lib.hid hn
  have HL := Lib.hid (freeN_le l)
  have HH := Lib.hid (haveN_le l)
  obtain ⟨Y, hY, hbY, hBY⟩ : ∃ Y, Y = w.alloc (.cells #[.int .i64 0, .int .i64 0] 26) ∧ SBox Y w.heap.size (0, 0) ∧ Below w.heap.size w Y := ⟨_, rfl, SBox.new w (0, 0), below_one _ _⟩
  have HBY := Lib.hid hBY
  have HY := Lib.hid hY
  have HX0 := Lib.hid hbY
  clear hN hY hbY hBY
  have hn1 : ¬ (512 : Int) < pages := by omega
  go_enter Try.func8, Try.ntmps8
  go_wp2_with fail
  rw [← HY.out]
  go_loopw [8, 15] (fun u5 u9 wr => ∃ i : Nat, i ≤ N ∧ u9 = .int .i64 (i : Nat) ∧ u5 = .int .i64 (haveN l i : Nat) ∧ Hid (sideN l n i = none) ∧ Hid (Below Y.heap.size Y wr) ∧ Hid (SBox wr w.heap.size (0, 0))) (fun _ u _ => N - (intOf u).toNat)
  case atStart => exact ⟨0, Nat.zero_le _, rfl, rfl, Lib.hid rfl, Lib.hid (Below.refl _ _), HX0⟩
  case round =>
    obtain ⟨i, hi, rfl, rfl, HI, HB, HX⟩ := hrel
    have hfi := HL.out i
    have hhi := HH.out i
    by_cases hlt : i < N
    · have g1 : (i : Int) < pages := by omega
      have g2 : (i : Int) < 512 := by omega
      go_wp2_with fail
      (with_reducible refine (taken_nat l i _ hl).mono ?_)
      rintro e w2 ⟨rfl, hB⟩
      replace HX := Lib.hid (HX.out.below hB)
      replace HB := Lib.hid (HB.out.trans (hB.mono HB.out.size))
      clear hB
      cases ht : tk l i with
      | true =>
        have HE : Hid (haveN l (i + 1) = 0) := Lib.hid (by show (if tk l i = true then 0 else haveN l i + 1) = _; rw [ht]; rfl)
        by_cases hit : (((0 : Nat)) : Int) = n
        · have HS : Hid (sideN l n N = some i) := Lib.hid (sideN_hit l n HI.out (by rw [HE.out]; exact hit) hlt)
          have hit' : n = 0 := by omega
          omega
        · have HS : Hid (sideN l n (i + 1) = none) := Lib.hid (sideN_miss l n HI.out (by rw [HE.out]; exact hit))
          have hit' : (0 == n) = false := by rw [beq_eq_false_iff_ne]; omega
          clear hit
          go_wp2_with fail
          exact ⟨⟨i + 1, by omega, by go_num, by rw [HE.out]; go_num, HS, HB, HX⟩, by simp [intOf]; omega⟩
      | false =>
        have HE : Hid (haveN l (i + 1) = haveN l i + 1) := Lib.hid (by show (if tk l i = true then 0 else haveN l i + 1) = _; rw [ht]; rfl)
        by_cases hit : (((haveN l i + 1 : Nat)) : Int) = n
        · have HS : Hid (sideN l n N = some i) := Lib.hid (sideN_hit l n HI.out (by rw [HE.out]; exact hit) hlt)
          have hit' : ((haveN l i : Int) + 1 == n) = true := by rw [beq_iff_eq]; omega
          clear hit
          have hb := HX.out
          have c0 := hb.c0
          have c1 := hb.c1
          have f0 := hb.free 0
          have f1 := hb.free 1
          go_wp2_with fail
          obtain ⟨w3, e3, hb3, hB3⟩ := store2 hb ((i : Int) + 1 - n, n)
          rw [e3]
          have q0 := hb3.c0
          have q1 := hb3.c1
          refine bodyPost_ret (v := .tuple #[.agg #[.int .i64 ((i : Int) + 1 - n), .int .i64 n], .bool true]) (by simp [results, Try.results8, go_sem, q0, q1]) rfl ⟨?_, ?_⟩
          · exact ret_side (sideV_hit HK.out HN.out HS.out) (sideB_hit HK.out HN.out HS.out)
          · exact below_low HB.out hB3 HBY.out
        · have HS : Hid (sideN l n (i + 1) = none) := Lib.hid (sideN_miss l n HI.out (by rw [HE.out]; exact hit))
          have hit' : ((haveN l i : Int) + 1 == n) = false := by rw [beq_eq_false_iff_ne]; omega
          clear hit
          go_wp2_with fail
          exact ⟨⟨i + 1, by omega, by go_num, by rw [HE.out]; go_num, HS, HB, HX⟩, by simp [intOf]; omega⟩
    · obtain rfl : i = N := by omega
      have g1 : ¬ (i : Int) < pages := by omega
      clear hN1 hlt
      have hb := HX.out
      have c0 := hb.c0
      have c1 := hb.c1
      have f0 := hb.free 0
      have f1 := hb.free 1
      go_wp2_with fail
      obtain ⟨w3, e3, hb3, hB3⟩ := store2 hb (0, 0)
      rw [e3]
      have q0 := hb3.c0
      have q1 := hb3.c1
      refine bodyPost_ret (v := .tuple #[.agg #[.int .i64 0, .int .i64 0], .bool false]) (by simp [results, Try.results8, go_sem, q0, q1]) rfl ⟨?_, ?_⟩
      · exact ret_side (sideV_miss HK.out HN.out HI.out) (sideB_miss HK.out HN.out HI.out)
      · exact below_low HB.out hB3 HBY.out

set_option maxRecDepth 100000 in
set_option maxHeartbeats 2000000 in
theorem side_big (l : List UInt8) (pages n : Int) (w : World) (hl : l.length ≤ 300) (hn : 1 ≤ n) (hn2 : n ≤ 1000) (hp : 512 < pages) :
    Calls Try.prog 8 #[.string (strB l), .int .i64 pages, .int .i64 n] w fun e w' => e = .returned (.tuple #[.agg #[.int .i64 (sideV l pages n).1, .int .i64 (sideV l pages n).2], .bool (sideB l pages n)]) ∧ Below w.heap.size w w' := by
  obtain ⟨N, hN⟩ : ∃ N, N = capN pages := ⟨_, rfl⟩
  have hN1 : (N : Int) = max (min pages 512) 0 := by rw [hN]; unfold capN; omega
  have HN := Lib.hid hN
  have HK := Lib.hid hn
  have HL := Lib.hid (freeN_le l)
  have HH := Lib.hid (haveN_le l)
  obtain ⟨Y, hY, hbY, hBY⟩ : ∃ Y, Y = w.alloc (.cells #[.int .i64 0, .int .i64 0] 26) ∧ SBox Y w.heap.size (0, 0) ∧ Below w.heap.size w Y := ⟨_, rfl, SBox.new w (0, 0), below_one _ _⟩
  have HBY := Lib.hid hBY
  have HY := Lib.hid hY
  have HX0 := Lib.hid hbY
  clear hN hY hbY hBY
  have hn1 : (512 : Int) < pages := by omega
  go_enter Try.func8, Try.ntmps8
  go_wp2_with fail
  rw [← HY.out]
  go_loopw [8, 15] (fun u5 u9 wr => ∃ i : Nat, i ≤ N ∧ u9 = .int .i64 (i : Nat) ∧ u5 = .int .i64 (haveN l i : Nat) ∧ Hid (sideN l n i = none) ∧ Hid (Below Y.heap.size Y wr) ∧ Hid (SBox wr w.heap.size (0, 0))) (fun _ u _ => N - (intOf u).toNat)
  case atStart => exact ⟨0, Nat.zero_le _, rfl, rfl, Lib.hid rfl, Lib.hid (Below.refl _ _), HX0⟩
  case round =>
    obtain ⟨i, hi, rfl, rfl, HI, HB, HX⟩ := hrel
    have hfi := HL.out i
    have hhi := HH.out i
    by_cases hlt : i < N
    · have g1 : (i : Int) < pages := by omega
      have g2 : (i : Int) < 512 := by omega
      go_wp2_with fail
      (with_reducible refine (taken_nat l i _ hl).mono ?_)
      rintro e w2 ⟨rfl, hB⟩
      replace HX := Lib.hid (HX.out.below hB)
      replace HB := Lib.hid (HB.out.trans (hB.mono HB.out.size))
      clear hB
      cases ht : tk l i with
      | true =>
        have HE : Hid (haveN l (i + 1) = 0) := Lib.hid (by show (if tk l i = true then 0 else haveN l i + 1) = _; rw [ht]; rfl)
        by_cases hit : (((0 : Nat)) : Int) = n
        · have HS : Hid (sideN l n N = some i) := Lib.hid (sideN_hit l n HI.out (by rw [HE.out]; exact hit) hlt)
          have hit' : n = 0 := by omega
          omega
        · have HS : Hid (sideN l n (i + 1) = none) := Lib.hid (sideN_miss l n HI.out (by rw [HE.out]; exact hit))
          have hit' : (0 == n) = false := by rw [beq_eq_false_iff_ne]; omega
          clear hit
          go_wp2_with fail
          exact ⟨⟨i + 1, by omega, by go_num, by rw [HE.out]; go_num, HS, HB, HX⟩, by simp [intOf]; omega⟩
      | false =>
        have HE : Hid (haveN l (i + 1) = haveN l i + 1) := Lib.hid (by show (if tk l i = true then 0 else haveN l i + 1) = _; rw [ht]; rfl)
        by_cases hit : (((haveN l i + 1 : Nat)) : Int) = n
        · have HS : Hid (sideN l n N = some i) := Lib.hid (sideN_hit l n HI.out (by rw [HE.out]; exact hit) hlt)
          have hit' : ((haveN l i : Int) + 1 == n) = true := by rw [beq_iff_eq]; omega
          clear hit
          have hb := HX.out
          have c0 := hb.c0
          have c1 := hb.c1
          have f0 := hb.free 0
          have f1 := hb.free 1
          go_wp2_with fail
          obtain ⟨w3, e3, hb3, hB3⟩ := store2 hb ((i : Int) + 1 - n, n)
          rw [e3]
          have q0 := hb3.c0
          have q1 := hb3.c1
          refine bodyPost_ret (v := .tuple #[.agg #[.int .i64 ((i : Int) + 1 - n), .int .i64 n], .bool true]) (by simp [results, Try.results8, go_sem, q0, q1]) rfl ⟨?_, ?_⟩
          · exact ret_side (sideV_hit HK.out HN.out HS.out) (sideB_hit HK.out HN.out HS.out)
          · exact below_low HB.out hB3 HBY.out
        · have HS : Hid (sideN l n (i + 1) = none) := Lib.hid (sideN_miss l n HI.out (by rw [HE.out]; exact hit))
          have hit' : ((haveN l i : Int) + 1 == n) = false := by rw [beq_eq_false_iff_ne]; omega
          clear hit
          go_wp2_with fail
          exact ⟨⟨i + 1, by omega, by go_num, by rw [HE.out]; go_num, HS, HB, HX⟩, by simp [intOf]; omega⟩
    · obtain rfl : i = N := by omega
      have g1 : ¬ (i : Int) < 512 := by omega
      clear hN1 hlt
      have hb := HX.out
      have c0 := hb.c0
      have c1 := hb.c1
      have f0 := hb.free 0
      have f1 := hb.free 1
      go_wp2_with fail
      obtain ⟨w3, e3, hb3, hB3⟩ := store2 hb (0, 0)
      rw [e3]
      have q0 := hb3.c0
      have q1 := hb3.c1
      refine bodyPost_ret (v := .tuple #[.agg #[.int .i64 0, .int .i64 0], .bool false]) (by simp [results, Try.results8, go_sem, q0, q1]) rfl ⟨?_, ?_⟩
      · exact ret_side (sideV_miss HK.out HN.out HI.out) (sideB_miss HK.out HN.out HI.out)
      · exact below_low HB.out hB3 HBY.out

set_option maxRecDepth 100000 in
set_option maxHeartbeats 2000000 in
theorem rside_few (l : List UInt8) (pages n : Int) (w : World) (hl : l.length ≤ 300) (hn : 1 ≤ n) (hn2 : n ≤ 1000) (hp : pages ≤ 512) :
    Calls Try.prog 9 #[.string (strB l), .int .i64 pages, .int .i64 n] w fun e w' => e = .returned (.tuple #[.agg #[.int .i64 (sideV l pages n).1, .int .i64 (sideV l pages n).2], .bool (sideB l pages n)]) ∧ Below w.heap.size w w' := by
  obtain ⟨N, hN⟩ : ∃ N, N = capN pages := ⟨_, rfl⟩
  have hN1 : (N : Int) = max (min pages 512) 0 := by rw [hN]; unfold capN; omega
  have HN := Lib.hid hN
  have HK := Lib.hid hn
  have HL := Lib.hid (freeN_le l)
  have HH := Lib.hid (haveN_le l)
  obtain ⟨Y, hY, hbY, hBY⟩ : ∃ Y, Y = w.alloc (.cells #[.int .i64 0, .int .i64 0] 26) ∧ SBox Y w.heap.size (0, 0) ∧ Below w.heap.size w Y := ⟨_, rfl, SBox.new w (0, 0), below_one _ _⟩
  have HBY := Lib.hid hBY
  have HY := Lib.hid hY
  have HX0 := Lib.hid hbY
  clear hN hY hbY hBY
  go_enter Try.func9, Try.ntmps9
  go_wp2_with fail
  rw [← HY.out]
  go_loopw [8, 9] (fun u5 u9 wr => ∃ i : Nat, i ≤ N ∧ u9 = .int .i64 (i : Nat) ∧ u5 = .int .i64 (haveN l i : Nat) ∧ Hid (sideN l n i = none) ∧ Hid (Below Y.heap.size Y wr) ∧ Hid (SBox wr w.heap.size (0, 0))) (fun _ u _ => N - (intOf u).toNat)
  case atStart => exact ⟨0, Nat.zero_le _, rfl, rfl, Lib.hid rfl, Lib.hid (Below.refl _ _), HX0⟩
  case round =>
    obtain ⟨i, hi, rfl, rfl, HI, HB, HX⟩ := hrel
    have hfi := HL.out i
    have hhi := HH.out i
    by_cases hlt : i < N
    · have g1 : (i : Int) < pages := by omega
      have g2 : (i : Int) < 512 := by omega
      go_wp2_with fail
      (with_reducible refine (rtaken_nat l i _ hl).mono ?_)
      rintro e w2 ⟨rfl, hB⟩
      obtain rfl := hB
      cases ht : tk l i with
      | true =>
        have HE : Hid (haveN l (i + 1) = 0) := Lib.hid (by show (if tk l i = true then 0 else haveN l i + 1) = _; rw [ht]; rfl)
        by_cases hit : (((0 : Nat)) : Int) = n
        · have HS : Hid (sideN l n N = some i) := Lib.hid (sideN_hit l n HI.out (by rw [HE.out]; exact hit) hlt)
          have hit' : n = 0 := by omega
          omega
        · have HS : Hid (sideN l n (i + 1) = none) := Lib.hid (sideN_miss l n HI.out (by rw [HE.out]; exact hit))
          have hit' : (0 == n) = false := by rw [beq_eq_false_iff_ne]; omega
          clear hit
          go_wp2_with fail
          exact ⟨⟨i + 1, by omega, by go_num, by rw [HE.out]; go_num, HS, HB, HX⟩, by simp [intOf]; omega⟩
      | false =>
        have HE : Hid (haveN l (i + 1) = haveN l i + 1) := Lib.hid (by show (if tk l i = true then 0 else haveN l i + 1) = _; rw [ht]; rfl)
        by_cases hit : (((haveN l i + 1 : Nat)) : Int) = n
        · have HS : Hid (sideN l n N = some i) := Lib.hid (sideN_hit l n HI.out (by rw [HE.out]; exact hit) hlt)
          have hit' : ((haveN l i : Int) + 1 == n) = true := by rw [beq_iff_eq]; omega
          clear hit
          have hb := HX.out
          have c0 := hb.c0
          have c1 := hb.c1
          have f0 := hb.free 0
          have f1 := hb.free 1
          go_wp2_with fail
          obtain ⟨w3, e3, hb3, hB3⟩ := store2 hb ((i : Int) + 1 - n, n)
          rw [e3]
          have q0 := hb3.c0
          have q1 := hb3.c1
          refine bodyPost_ret (v := .tuple #[.agg #[.int .i64 ((i : Int) + 1 - n), .int .i64 n], .bool true]) (by simp [results, Try.results9, go_sem, q0, q1]) rfl ⟨?_, ?_⟩
          · exact ret_side (sideV_hit HK.out HN.out HS.out) (sideB_hit HK.out HN.out HS.out)
          · exact below_low HB.out hB3 HBY.out
        · have HS : Hid (sideN l n (i + 1) = none) := Lib.hid (sideN_miss l n HI.out (by rw [HE.out]; exact hit))
          have hit' : ((haveN l i : Int) + 1 == n) = false := by rw [beq_eq_false_iff_ne]; omega
          clear hit
          go_wp2_with fail
          exact ⟨⟨i + 1, by omega, by go_num, by rw [HE.out]; go_num, HS, HB, HX⟩, by simp [intOf]; omega⟩
    · obtain rfl : i = N := by omega
      have g1 : ¬ (i : Int) < pages := by omega
      clear hN1 hlt
      have hb := HX.out
      have c0 := hb.c0
      have c1 := hb.c1
      have f0 := hb.free 0
      have f1 := hb.free 1
      go_wp2_with fail
      obtain ⟨w3, e3, hb3, hB3⟩ := store2 hb (0, 0)
      rw [e3]
      have q0 := hb3.c0
      have q1 := hb3.c1
      refine bodyPost_ret (v := .tuple #[.agg #[.int .i64 0, .int .i64 0], .bool false]) (by simp [results, Try.results9, go_sem, q0, q1]) rfl ⟨?_, ?_⟩
      · exact ret_side (sideV_miss HK.out HN.out HI.out) (sideB_miss HK.out HN.out HI.out)
      · exact below_low HB.out hB3 HBY.out

set_option maxRecDepth 100000 in
set_option maxHeartbeats 2000000 in
theorem rside_big (l : List UInt8) (pages n : Int) (w : World) (hl : l.length ≤ 300) (hn : 1 ≤ n) (hn2 : n ≤ 1000) (hp : 512 < pages) :
    Calls Try.prog 9 #[.string (strB l), .int .i64 pages, .int .i64 n] w fun e w' => e = .returned (.tuple #[.agg #[.int .i64 (sideV l pages n).1, .int .i64 (sideV l pages n).2], .bool (sideB l pages n)]) ∧ Below w.heap.size w w' := by
  obtain ⟨N, hN⟩ : ∃ N, N = capN pages := ⟨_, rfl⟩
  have hN1 : (N : Int) = max (min pages 512) 0 := by rw [hN]; unfold capN; omega
  have HN := Lib.hid hN
  have HK := Lib.hid hn
  have HL := Lib.hid (freeN_le l)
  have HH := Lib.hid (haveN_le l)
  obtain ⟨Y, hY, hbY, hBY⟩ : ∃ Y, Y = w.alloc (.cells #[.int .i64 0, .int .i64 0] 26) ∧ SBox Y w.heap.size (0, 0) ∧ Below w.heap.size w Y := ⟨_, rfl, SBox.new w (0, 0), below_one _ _⟩
  have HBY := Lib.hid hBY
  have HY := Lib.hid hY
  have HX0 := Lib.hid hbY
  clear hN hY hbY hBY
  go_enter Try.func9, Try.ntmps9
  go_wp2_with fail
  rw [← HY.out]
  go_loopw [8, 9] (fun u5 u9 wr => ∃ i : Nat, i ≤ N ∧ u9 = .int .i64 (i : Nat) ∧ u5 = .int .i64 (haveN l i : Nat) ∧ Hid (sideN l n i = none) ∧ Hid (Below Y.heap.size Y wr) ∧ Hid (SBox wr w.heap.size (0, 0))) (fun _ u _ => N - (intOf u).toNat)
  case atStart => exact ⟨0, Nat.zero_le _, rfl, rfl, Lib.hid rfl, Lib.hid (Below.refl _ _), HX0⟩
  case round =>
    obtain ⟨i, hi, rfl, rfl, HI, HB, HX⟩ := hrel
    have hfi := HL.out i
    have hhi := HH.out i
    by_cases hlt : i < N
    · have g1 : (i : Int) < pages := by omega
      have g2 : (i : Int) < 512 := by omega
      go_wp2_with fail
      (with_reducible refine (rtaken_nat l i _ hl).mono ?_)
      rintro e w2 ⟨rfl, hB⟩
      obtain rfl := hB
      cases ht : tk l i with
      | true =>
        have HE : Hid (haveN l (i + 1) = 0) := Lib.hid (by show (if tk l i = true then 0 else haveN l i + 1) = _; rw [ht]; rfl)
        by_cases hit : (((0 : Nat)) : Int) = n
        · have HS : Hid (sideN l n N = some i) := Lib.hid (sideN_hit l n HI.out (by rw [HE.out]; exact hit) hlt)
          have hit' : n = 0 := by omega
          omega
        · have HS : Hid (sideN l n (i + 1) = none) := Lib.hid (sideN_miss l n HI.out (by rw [HE.out]; exact hit))
          have hit' : (0 == n) = false := by rw [beq_eq_false_iff_ne]; omega
          clear hit
          go_wp2_with fail
          exact ⟨⟨i + 1, by omega, by go_num, by rw [HE.out]; go_num, HS, HB, HX⟩, by simp [intOf]; omega⟩
      | false =>
        have HE : Hid (haveN l (i + 1) = haveN l i + 1) := Lib.hid (by show (if tk l i = true then 0 else haveN l i + 1) = _; rw [ht]; rfl)
        by_cases hit : (((haveN l i + 1 : Nat)) : Int) = n
        · have HS : Hid (sideN l n N = some i) := Lib.hid (sideN_hit l n HI.out (by rw [HE.out]; exact hit) hlt)
          have hit' : ((haveN l i : Int) + 1 == n) = true := by rw [beq_iff_eq]; omega
          clear hit
          have hb := HX.out
          have c0 := hb.c0
          have c1 := hb.c1
          have f0 := hb.free 0
          have f1 := hb.free 1
          go_wp2_with fail
          obtain ⟨w3, e3, hb3, hB3⟩ := store2 hb ((i : Int) + 1 - n, n)
          rw [e3]
          have q0 := hb3.c0
          have q1 := hb3.c1
          refine bodyPost_ret (v := .tuple #[.agg #[.int .i64 ((i : Int) + 1 - n), .int .i64 n], .bool true]) (by simp [results, Try.results9, go_sem, q0, q1]) rfl ⟨?_, ?_⟩
          · exact ret_side (sideV_hit HK.out HN.out HS.out) (sideB_hit HK.out HN.out HS.out)
          · exact below_low HB.out hB3 HBY.out
        · have HS : Hid (sideN l n (i + 1) = none) := Lib.hid (sideN_miss l n HI.out (by rw [HE.out]; exact hit))
          have hit' : ((haveN l i : Int) + 1 == n) = false := by rw [beq_eq_false_iff_ne]; omega
          clear hit
          go_wp2_with fail
          exact ⟨⟨i + 1, by omega, by go_num, by rw [HE.out]; go_num, HS, HB, HX⟩, by simp [intOf]; omega⟩
    · obtain rfl : i = N := by omega
      have g0 : (i : Int) < pages := by omega
      have g1 : ¬ (i : Int) < 512 := by omega
      clear hN1 hlt
      have hb := HX.out
      have c0 := hb.c0
      have c1 := hb.c1
      have f0 := hb.free 0
      have f1 := hb.free 1
      go_wp2_with fail
      obtain ⟨w3, e3, hb3, hB3⟩ := store2 hb (0, 0)
      rw [e3]
      have q0 := hb3.c0
      have q1 := hb3.c1
      refine bodyPost_ret (v := .tuple #[.agg #[.int .i64 0, .int .i64 0], .bool false]) (by simp [results, Try.results9, go_sem, q0, q1]) rfl ⟨?_, ?_⟩
      · exact ret_side (sideV_miss HK.out HN.out HI.out) (sideB_miss HK.out HN.out HI.out)
      · exact below_low HB.out hB3 HBY.out

theorem side_calls (l : List UInt8) (pages n : Int) (w : World) (hl : l.length ≤ 300) (hn : n ≤ 1000) :
    Calls Try.prog 8 #[.string (strB l), .int .i64 pages, .int .i64 n] w fun e w' => e = .returned (.tuple #[.agg #[.int .i64 (sideV l pages n).1, .int .i64 (sideV l pages n).2], .bool (sideB l pages n)]) ∧ Below w.heap.size w w' := by
  by_cases h1 : n < 1
  · exact side_none l pages n w h1
  · by_cases h : pages ≤ 512
    · exact side_few l pages n w hl (by omega) hn h
    · exact side_big l pages n w hl (by omega) hn (by omega)
theorem rside_calls (l : List UInt8) (pages n : Int) (w : World) (hl : l.length ≤ 300) (hn : n ≤ 1000) :
    Calls Try.prog 9 #[.string (strB l), .int .i64 pages, .int .i64 n] w fun e w' => e = .returned (.tuple #[.agg #[.int .i64 (sideV l pages n).1, .int .i64 (sideV l pages n).2], .bool (sideB l pages n)]) ∧ Below w.heap.size w w' := by
  by_cases h1 : n < 1
  · exact rside_none l pages n w h1
  · by_cases h : pages ≤ 512
    · exact rside_few l pages n w hl (by omega) hn h
    · exact rside_big l pages n w hl (by omega) hn (by omega)

end Go.Proofs.Ytjlcmmidbeikdaa
