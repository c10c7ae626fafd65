/- BitsFinds: the walk. No statement is proved here. -/
import Derived.Test.YtjlcmmidbeikdaaPieces
namespace Go.Proofs.Ytjlcmmidbeikdaa
open Go.RowKit Go.Sort

set_option maxRecDepth 100000 in
set_option maxHeartbeats 4000000 in
theorem finds_hit (l : List UInt8) (a b N k : Nat) (w : World) (hl : l.length = 208) (ha : a < 65536) (hb : b < 65536) (hN : N = a % 513) (hk : k = 1 + b % 30) (i0 : Nat) (hsd : sideN l (k : Int) N = some i0) (hfk : k ≤ freeN l N) :
    Calls Try.prog 5 #[.string (strB l), .agg #[.int .u16 (a : Nat), .int .u16 (b : Nat)]] w fun e w' => e = .returned (.bool true) ∧ Below w.heap.size w w' := by
  have hs := strB_size l
  rw [hl] at hs
  have hl3 : l.length ≤ 300 := by omega
  have hN5 : N ≤ 512 := by omega
  have hk1 : k ≤ 30 := by omega
  have hk0 : 1 ≤ k := by omega
  have E1 : Hid ((a : Int) % 513 = (N : Int)) := Lib.hid (by omega)
  have E2 : Hid (1 + (b : Int) % 30 = (k : Int)) := Lib.hid (by omega)
  have HSV : Hid (sideV l (N : Int) (k : Int) = ((i0 : Int) + 1 - (k : Int), (k : Int))) := Lib.hid (sideV_hit (by omega) (capN_nat N hN5).symm hsd)
  have HSB : Hid (sideB l (N : Int) (k : Int) = true) := Lib.hid (sideB_hit (by omega) (capN_nat N hN5).symm hsd)
  have HR := runs_is l k N
  have HA : Hid (∀ x ∈ runsN l k N, 0 ≤ x.1 ∧ 1 ≤ x.2 ∧ x.1 + x.2 ≤ 600) := Lib.hid (fun x hx => by have := HR.all x hx; omega)
  have HLen := Lib.hid (runsN_len l k N)
  have HGap := Lib.hid HR.gap
  have HSum : Hid (sumL (runsN l k N) = (k : Int)) := Lib.hid (by rw [HR.sum]; omega)
  have hfl := freeN_le l N
  have HL := Lib.hid (freeN_le l)
  have HH := Lib.hid (haveN_le l)
  have hge : (k : Int) ≤ (freeN l N : Int) := by omega
  clear HR hN hk hl
  go_enter Try.func5, Try.ntmps5
  go_wp2_with fail
  go_quiet (fail)
  rw [E1.out, E2.out]
  have HB : Hid (Below w.heap.size w ((w.alloc (Obj.cells #[Value.int IntKind.u16 (a : Nat), Value.int IntKind.u16 (b : Nat)] 41)).drewN nq)) := Lib.hid (bdrewN (below_one _ _) _)
  generalize (w.alloc (Obj.cells #[Value.int IntKind.u16 (a : Nat), Value.int IntKind.u16 (b : Nat)] 41)).drewN nq = w0 at *
  go_wp2_with fail
  (with_reducible refine (side_calls l (N : Nat) (k : Nat) _ hl3 (by omega)).mono ?_)
  rintro e w1 ⟨rfl, hB⟩
  rw [HSV.out, HSB.out]
  replace HB := Lib.hid (below_trans2 HB.out hB)
  have HX := Lib.hid (SBox.new w1 ((i0 : Int) + 1 - (k : Int), (k : Int)))
  clear hB
  go_wp2_with fail
  (with_reducible refine (some_is l N k _ hl3 hN5 (by omega) hfk).mono ?_)
  rintro e w2 ⟨A, n, c, rfl, hS, hB⟩
  replace HX := Lib.hid (HX.out.below hB)
  replace HB := Lib.hid (below_trans2 HB.out (below_trans2 (below_one _ _) hB))
  have HS := Lib.hid hS
  clear hB hS
  go_wp2_with fail
  (with_reducible refine (free_nat l N _ hl3 hN5).mono ?_)
  rintro e w3 ⟨rfl, hB⟩
  replace HX := Lib.hid (HX.out.below hB)
  replace HB := Lib.hid (below_trans2 HB.out hB)
  replace HS := Lib.hid (HS.out.below hB)
  clear hB
  go_wp2_with fail
  go_loopw [11, 12] (fun u11 u12 wr => ∃ i : Nat, i ≤ N ∧ u12 = .int .i64 (i : Nat) ∧ u11 = .int .i64 (haveN l i : Nat) ∧ Hid (sideN l (k : Int) i = none) ∧ Hid (Below w.heap.size w wr) ∧ Hid (SBox wr w1.heap.size ((i0 : Int) + 1 - (k : Int), (k : Int))) ∧ Hid (Sps wr (.slice A n c) (runsN l k N))) (fun _ u _ => N - (intOf u).toNat)
  case atStart => exact ⟨0, Nat.zero_le _, rfl, rfl, Lib.hid rfl, HB, HX, HS⟩
  case round =>
    clear HB HX HS
    obtain ⟨i, hi, rfl, rfl, HI, HB, HX, HS⟩ := hrel
    have hfi := HL.out i
    have hhi := HH.out i
    by_cases hlt : i < N
    · have g1 : (i : Int) < (N : Int) := by omega
      go_wp2_with fail
      (with_reducible refine (taken_nat l i _ hl3).mono ?_)
      rintro e w4 ⟨rfl, hB⟩
      replace HX := Lib.hid (HX.out.below hB)
      replace HB := Lib.hid (below_trans2 HB.out hB)
      replace HS := Lib.hid (HS.out.below hB)
      clear hB
      cases ht : tk l i with
      | true =>
        have HE : Hid (haveN l (i + 1) = 0) := Lib.hid (by show (if tk l i = true then 0 else haveN l i + 1) = _; rw [ht]; rfl)
        have HN2 : Hid (sideN l (k : Int) (i + 1) = none) := Lib.hid (sideN_miss l k HI.out (by rw [HE.out]; omega))
        have hit' : (0 == (k : Int)) = false := by rw [beq_eq_false_iff_ne]; omega
        go_wp2_with fail
        exact ⟨⟨i + 1, by omega, by go_num, by rw [HE.out]; rfl, HN2, HB, HX, HS⟩, by simp [intOf]; omega⟩
      | false =>
        have HE : Hid (haveN l (i + 1) = haveN l i + 1) := Lib.hid (by show (if tk l i = true then 0 else haveN l i + 1) = _; rw [ht]; rfl)
        by_cases hit : haveN l i + 1 = k
        · have HI0 : Hid (i = i0) := Lib.hid (by
            have h1 := sideN_hit l (k : Int) HI.out (by rw [HE.out, hit]) hlt
            rw [hsd] at h1
            exact (Option.some.inj h1).symm)
          have hit' : ((haveN l i : Int) + 1 == (k : Int)) = true := by rw [beq_iff_eq]; omega
          obtain rfl := HI0.out
          clear hit
          go_wp2_with fail
          (with_reducible refine (awake_true _).mono ?_)
          rintro e w5 ⟨rfl, hB⟩
          have c0 := (HX.out.below hB).c0
          have c1 := (HX.out.below hB).c1
          replace HS := Lib.hid (HS.out.below hB)
          replace HB := Lib.hid (below_trans2 HB.out hB)
          clear hB
          go_wp2_with fail
          (with_reducible refine (pieces_calls l (runsN l k N) A n c (k : Int) _ hl3 HS.out (by have := HLen.out; have := HS.out.at_.1; omega) HA.out HSum.out (by omega) HGap.out).mono ?_)
          rintro e w6 ⟨rfl, hB⟩
          replace HB := Lib.hid (below_trans2 HB.out hB)
          clear hB
          go_wp2_with fail
          go_ret
          exact ⟨rfl, HB.out⟩
        · have HN2 : Hid (sideN l (k : Int) (i + 1) = none) := Lib.hid (sideN_miss l k HI.out (by rw [HE.out]; omega))
          have hit' : ((haveN l i : Int) + 1 == (k : Int)) = false := by rw [beq_eq_false_iff_ne]; omega
          clear hit
          go_wp2_with fail
          exact ⟨⟨i + 1, by omega, by go_num, by rw [HE.out]; go_num, HN2, HB, HX, HS⟩, by simp [intOf]; omega⟩
    · obtain rfl : i = N := by omega
      have := HI.out
      rw [hsd] at this
      cases this

set_option maxRecDepth 100000 in
set_option maxHeartbeats 4000000 in
theorem finds_miss (l : List UInt8) (a b N k : Nat) (w : World) (hl : l.length = 208) (ha : a < 65536) (hb : b < 65536) (hN : N = a % 513) (hk : k = 1 + b % 30) (hsd : sideN l (k : Int) N = none) (hfk : k ≤ freeN l N) :
    Calls Try.prog 5 #[.string (strB l), .agg #[.int .u16 (a : Nat), .int .u16 (b : Nat)]] w fun e w' => e = .returned (.bool true) ∧ Below w.heap.size w w' := by
  have hs := strB_size l
  rw [hl] at hs
  have hl3 : l.length ≤ 300 := by omega
  have hN5 : N ≤ 512 := by omega
  have hk1 : k ≤ 30 := by omega
  have hk0 : 1 ≤ k := by omega
  have E1 : Hid ((a : Int) % 513 = (N : Int)) := Lib.hid (by omega)
  have E2 : Hid (1 + (b : Int) % 30 = (k : Int)) := Lib.hid (by omega)
  have HSV : Hid (sideV l (N : Int) (k : Int) = ((0 : Int), (0 : Int))) := Lib.hid (sideV_miss (by omega) (capN_nat N hN5).symm hsd)
  have HSB : Hid (sideB l (N : Int) (k : Int) = false) := Lib.hid (sideB_miss (by omega) (capN_nat N hN5).symm hsd)
  have HR := runs_is l k N
  have HA : Hid (∀ x ∈ runsN l k N, 0 ≤ x.1 ∧ 1 ≤ x.2 ∧ x.1 + x.2 ≤ 600) := Lib.hid (fun x hx => by have := HR.all x hx; omega)
  have HLen := Lib.hid (runsN_len l k N)
  have HGap := Lib.hid HR.gap
  have HSum : Hid (sumL (runsN l k N) = (k : Int)) := Lib.hid (by rw [HR.sum]; omega)
  have hfl := freeN_le l N
  have HL := Lib.hid (freeN_le l)
  have HH := Lib.hid (haveN_le l)
  have hge : (k : Int) ≤ (freeN l N : Int) := by omega
  clear HR hN hk hl
  go_enter Try.func5, Try.ntmps5
  go_wp2_with fail
  go_quiet (fail)
  rw [E1.out, E2.out]
  have HB : Hid (Below w.heap.size w ((w.alloc (Obj.cells #[Value.int IntKind.u16 (a : Nat), Value.int IntKind.u16 (b : Nat)] 41)).drewN nq)) := Lib.hid (bdrewN (below_one _ _) _)
  generalize (w.alloc (Obj.cells #[Value.int IntKind.u16 (a : Nat), Value.int IntKind.u16 (b : Nat)] 41)).drewN nq = w0 at *
  go_wp2_with fail
  (with_reducible refine (side_calls l (N : Nat) (k : Nat) _ hl3 (by omega)).mono ?_)
  rintro e w1 ⟨rfl, hB⟩
  rw [HSV.out, HSB.out]
  replace HB := Lib.hid (below_trans2 HB.out hB)
  have HX := Lib.hid (SBox.new w1 ((0 : Int), (0 : Int)))
  clear hB
  go_wp2_with fail
  (with_reducible refine (some_is l N k _ hl3 hN5 (by omega) hfk).mono ?_)
  rintro e w2 ⟨A, n, c, rfl, hS, hB⟩
  replace HX := Lib.hid (HX.out.below hB)
  replace HB := Lib.hid (below_trans2 HB.out (below_trans2 (below_one _ _) hB))
  have HS := Lib.hid hS
  clear hB hS
  go_wp2_with fail
  (with_reducible refine (free_nat l N _ hl3 hN5).mono ?_)
  rintro e w3 ⟨rfl, hB⟩
  replace HX := Lib.hid (HX.out.below hB)
  replace HB := Lib.hid (below_trans2 HB.out hB)
  replace HS := Lib.hid (HS.out.below hB)
  clear hB
  go_wp2_with fail
  go_loopw [11, 12] (fun u11 u12 wr => ∃ i : Nat, i ≤ N ∧ u12 = .int .i64 (i : Nat) ∧ u11 = .int .i64 (haveN l i : Nat) ∧ Hid (sideN l (k : Int) i = none) ∧ Hid (Below w.heap.size w wr) ∧ Hid (SBox wr w1.heap.size ((0 : Int), (0 : Int))) ∧ Hid (Sps wr (.slice A n c) (runsN l k N))) (fun _ u _ => N - (intOf u).toNat)
  case atStart => exact ⟨0, Nat.zero_le _, rfl, rfl, Lib.hid rfl, HB, HX, HS⟩
  case round =>
    clear HB HX HS
    obtain ⟨i, hi, rfl, rfl, HI, HB, HX, HS⟩ := hrel
    have hfi := HL.out i
    have hhi := HH.out i
    by_cases hlt : i < N
    · have g1 : (i : Int) < (N : Int) := by omega
      go_wp2_with fail
      (with_reducible refine (taken_nat l i _ hl3).mono ?_)
      rintro e w4 ⟨rfl, hB⟩
      replace HX := Lib.hid (HX.out.below hB)
      replace HB := Lib.hid (below_trans2 HB.out hB)
      replace HS := Lib.hid (HS.out.below hB)
      clear hB
      cases ht : tk l i with
      | true =>
        have HE : Hid (haveN l (i + 1) = 0) := Lib.hid (by show (if tk l i = true then 0 else haveN l i + 1) = _; rw [ht]; rfl)
        have HN2 : Hid (sideN l (k : Int) (i + 1) = none) := Lib.hid (sideN_miss l k HI.out (by rw [HE.out]; omega))
        have hit' : (0 == (k : Int)) = false := by rw [beq_eq_false_iff_ne]; omega
        go_wp2_with fail
        exact ⟨⟨i + 1, by omega, by go_num, by rw [HE.out]; rfl, HN2, HB, HX, HS⟩, by simp [intOf]; omega⟩
      | false =>
        have HE : Hid (haveN l (i + 1) = haveN l i + 1) := Lib.hid (by show (if tk l i = true then 0 else haveN l i + 1) = _; rw [ht]; rfl)
        by_cases hit : haveN l i + 1 = k
        · exact absurd (sideN_hit l (k : Int) HI.out (by rw [HE.out, hit]) hlt) (by rw [hsd]; simp)
        · have HN2 : Hid (sideN l (k : Int) (i + 1) = none) := Lib.hid (sideN_miss l k HI.out (by rw [HE.out]; omega))
          have hit' : ((haveN l i : Int) + 1 == (k : Int)) = false := by rw [beq_eq_false_iff_ne]; omega
          clear hit
          go_wp2_with fail
          exact ⟨⟨i + 1, by omega, by go_num, by rw [HE.out]; go_num, HN2, HB, HX, HS⟩, by simp [intOf]; omega⟩
    · obtain rfl : i = N := by omega
      go_wp2_with fail
      (with_reducible refine (awake_true _).mono ?_)
      rintro e w5 ⟨rfl, hB⟩
      replace HS := Lib.hid (HS.out.below hB)
      replace HB := Lib.hid (below_trans2 HB.out hB)
      clear hB
      go_wp2_with fail
      (with_reducible refine (pieces_calls l (runsN l k i) A n c (k : Int) _ hl3 HS.out (by have := HLen.out; have := HS.out.at_.1; omega) HA.out HSum.out (by omega) HGap.out).mono ?_)
      rintro e w6 ⟨rfl, hB⟩
      replace HB := Lib.hid (below_trans2 HB.out hB)
      clear hB
      go_wp2_with fail
      go_ret
      exact ⟨rfl, HB.out⟩

set_option maxRecDepth 100000 in
set_option maxHeartbeats 4000000 in
theorem finds_none (l : List UInt8) (a b N k : Nat) (w : World) (hl : l.length = 208) (ha : a < 65536) (hb : b < 65536) (hN : N = a % 513) (hk : k = 1 + b % 30) (hsd : sideN l (k : Int) N = none) (hfk : ¬ k ≤ freeN l N) :
    Calls Try.prog 5 #[.string (strB l), .agg #[.int .u16 (a : Nat), .int .u16 (b : Nat)]] w fun e w' => e = .returned (.bool true) ∧ Below w.heap.size w w' := by
  have hs := strB_size l
  rw [hl] at hs
  have hl3 : l.length ≤ 300 := by omega
  have hN5 : N ≤ 512 := by omega
  have hk1 : k ≤ 30 := by omega
  have hk0 : 1 ≤ k := by omega
  have E1 : Hid ((a : Int) % 513 = (N : Int)) := Lib.hid (by omega)
  have E2 : Hid (1 + (b : Int) % 30 = (k : Int)) := Lib.hid (by omega)
  have HSV : Hid (sideV l (N : Int) (k : Int) = ((0 : Int), (0 : Int))) := Lib.hid (sideV_miss (by omega) (capN_nat N hN5).symm hsd)
  have HSB : Hid (sideB l (N : Int) (k : Int) = false) := Lib.hid (sideB_miss (by omega) (capN_nat N hN5).symm hsd)
  have HR := runs_is l k N
  have HA : Hid (∀ x ∈ runsN l k N, 0 ≤ x.1 ∧ 1 ≤ x.2 ∧ x.1 + x.2 ≤ 600) := Lib.hid (fun x hx => by have := HR.all x hx; omega)
  have HLen := Lib.hid (runsN_len l k N)
  have HGap := Lib.hid HR.gap
  have hfl := freeN_le l N
  have HL := Lib.hid (freeN_le l)
  have HH := Lib.hid (haveN_le l)
  have hge : ¬ (k : Int) ≤ (freeN l N : Int) := by omega
  clear HR hN hk hl
  go_enter Try.func5, Try.ntmps5
  go_wp2_with fail
  go_quiet (fail)
  rw [E1.out, E2.out]
  have HB : Hid (Below w.heap.size w ((w.alloc (Obj.cells #[Value.int IntKind.u16 (a : Nat), Value.int IntKind.u16 (b : Nat)] 41)).drewN nq)) := Lib.hid (bdrewN (below_one _ _) _)
  generalize (w.alloc (Obj.cells #[Value.int IntKind.u16 (a : Nat), Value.int IntKind.u16 (b : Nat)] 41)).drewN nq = w0 at *
  go_wp2_with fail
  (with_reducible refine (side_calls l (N : Nat) (k : Nat) _ hl3 (by omega)).mono ?_)
  rintro e w1 ⟨rfl, hB⟩
  rw [HSV.out, HSB.out]
  replace HB := Lib.hid (below_trans2 HB.out hB)
  have HX := Lib.hid (SBox.new w1 ((0 : Int), (0 : Int)))
  clear hB
  go_wp2_with fail
  (with_reducible refine (some_isnt l N k _ hl3 hN5 (by omega) hfk).mono ?_)
  rintro e w2 ⟨A, n, c, rfl, hB⟩
  replace HX := Lib.hid (HX.out.below hB)
  replace HB := Lib.hid (below_trans2 HB.out (below_trans2 (below_one _ _) hB))
  have HS := Lib.hid True.intro
  clear hB 
  go_wp2_with fail
  (with_reducible refine (free_nat l N _ hl3 hN5).mono ?_)
  rintro e w3 ⟨rfl, hB⟩
  replace HX := Lib.hid (HX.out.below hB)
  replace HB := Lib.hid (below_trans2 HB.out hB)
  clear hB
  go_wp2_with fail
  go_loopw [11, 12] (fun u11 u12 wr => ∃ i : Nat, i ≤ N ∧ u12 = .int .i64 (i : Nat) ∧ u11 = .int .i64 (haveN l i : Nat) ∧ Hid (sideN l (k : Int) i = none) ∧ Hid (Below w.heap.size w wr) ∧ Hid (SBox wr w1.heap.size ((0 : Int), (0 : Int))) ∧ Hid True) (fun _ u _ => N - (intOf u).toNat)
  case atStart => exact ⟨0, Nat.zero_le _, rfl, rfl, Lib.hid rfl, HB, HX, HS⟩
  case round =>
    clear HB HX HS
    obtain ⟨i, hi, rfl, rfl, HI, HB, HX, HS⟩ := hrel
    have hfi := HL.out i
    have hhi := HH.out i
    by_cases hlt : i < N
    · have g1 : (i : Int) < (N : Int) := by omega
      go_wp2_with fail
      (with_reducible refine (taken_nat l i _ hl3).mono ?_)
      rintro e w4 ⟨rfl, hB⟩
      replace HX := Lib.hid (HX.out.below hB)
      replace HB := Lib.hid (below_trans2 HB.out hB)
      clear hB
      cases ht : tk l i with
      | true =>
        have HE : Hid (haveN l (i + 1) = 0) := Lib.hid (by show (if tk l i = true then 0 else haveN l i + 1) = _; rw [ht]; rfl)
        have HN2 : Hid (sideN l (k : Int) (i + 1) = none) := Lib.hid (sideN_miss l k HI.out (by rw [HE.out]; omega))
        have hit' : (0 == (k : Int)) = false := by rw [beq_eq_false_iff_ne]; omega
        go_wp2_with fail
        exact ⟨⟨i + 1, by omega, by go_num, by rw [HE.out]; rfl, HN2, HB, HX, HS⟩, by simp [intOf]; omega⟩
      | false =>
        have HE : Hid (haveN l (i + 1) = haveN l i + 1) := Lib.hid (by show (if tk l i = true then 0 else haveN l i + 1) = _; rw [ht]; rfl)
        by_cases hit : haveN l i + 1 = k
        · exact absurd (sideN_hit l (k : Int) HI.out (by rw [HE.out, hit]) hlt) (by rw [hsd]; simp)
        · have HN2 : Hid (sideN l (k : Int) (i + 1) = none) := Lib.hid (sideN_miss l k HI.out (by rw [HE.out]; omega))
          have hit' : ((haveN l i : Int) + 1 == (k : Int)) = false := by rw [beq_eq_false_iff_ne]; omega
          clear hit
          go_wp2_with fail
          exact ⟨⟨i + 1, by omega, by go_num, by rw [HE.out]; go_num, HN2, HB, HX, HS⟩, by simp [intOf]; omega⟩
    · obtain rfl : i = N := by omega
      go_wp2_with fail
      (with_reducible refine (awake_true _).mono ?_)
      rintro e w5 ⟨rfl, hB⟩
      replace HB := Lib.hid (below_trans2 HB.out hB)
      clear hB
      go_wp2_with fail
      go_ret
      exact ⟨rfl, HB.out⟩


set_option maxRecDepth 100000 in
set_option maxHeartbeats 4000000 in
theorem finds_calls (s : ByteArray) (a b : Nat) (w : World) (ha : a < 65536) (hb : b < 65536) :
    Calls Try.prog 5 #[.string s, .agg #[.int .u16 (a : Nat), .int .u16 (b : Nat)]] w fun e w' => e = .returned (.bool true) ∧ Below w.heap.size w w' := by
  by_cases h : s.size = 208
  · have hl : s.data.toList.length = 208 := by rw [← strB_size, strB_of]; exact h
    have key : Calls Try.prog 5 #[.string (strB s.data.toList), .agg #[.int .u16 (a : Nat), .int .u16 (b : Nat)]] w fun e w' => e = .returned (.bool true) ∧ Below w.heap.size w w' := by
      cases hsd : sideN s.data.toList ((1 + b % 30 : Nat) : Int) (a % 513) with
      | some i0 =>
        have := sideN_free _ _ hsd
        exact finds_hit _ a b (a % 513) (1 + b % 30) w hl ha hb rfl rfl i0 hsd (by omega)
      | none =>
        by_cases hf : 1 + b % 30 ≤ freeN s.data.toList (a % 513)
        · exact finds_miss _ a b (a % 513) (1 + b % 30) w hl ha hb rfl rfl hsd hf
        · exact finds_none _ a b (a % 513) (1 + b % 30) w hl ha hb rfl rfl hsd hf
    rw [strB_of] at key
    exact key
  · have g : ((s.size : Int) != 208) = true := by simp; omega
    go_enter Try.func5, Try.ntmps5
    go_wp2_with fail
    (with_reducible refine (awake_true _).mono ?_)
    rintro e w3 ⟨rfl, hB⟩
    have HB := Lib.hid (below_trans2 (below_one _ _) hB)
    clear hB
    go_wp2_with fail
    go_ret
    exact ⟨rfl, HB.out⟩

end Go.Proofs.Ytjlcmmidbeikdaa
