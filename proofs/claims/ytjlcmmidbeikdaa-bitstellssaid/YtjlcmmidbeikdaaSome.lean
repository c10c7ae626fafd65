/- bits.Some: what the call does. No statement is proved here. -/
import Derived.Test.YtjlcmmidbeikdaaWith
namespace Go.Proofs.Ytjlcmmidbeikdaa
open Go.RowKit Go.Sort

theorem addP_len (r : List (Int × Int)) (i : Int) : (addP r i).length ≤ r.length + 1 := by
  rcases snoc_cases r with rfl | ⟨r', x, rfl⟩
  · exact Nat.le_refl _
  · by_cases e : x.1 + x.2 = i
    · rw [addP_on _ _ _ e]; simp
    · rw [addP_new _ _ _ e]; simp
theorem runsN_len (l : List UInt8) (k i : Nat) : (runsN l k i).length ≤ i := by
  induction i with
  | zero => exact Nat.le_refl _
  | succ i ih =>
    show (if _ then _ else _ : List (Int × Int)).length ≤ _
    split
    · have := addP_len (runsN l k i) i
      omega
    · omega
section
variable {l : List UInt8} {pages n : Int} {N k i : Nat}
theorem some_yes (hN : N = capN pages) (hk : k = n.toNat) (h : k ≤ freeN l i) (hi : i ≤ N) : someB l pages n = true ∧ someV l pages n = runsN l k i := by
  have e : someB l pages n = true := by
    unfold someB
    rw [← hN, ← hk, decide_eq_true_iff]
    exact Nat.le_trans h (freeN_mono l hi)
  refine ⟨e, ?_⟩
  unfold someV
  rw [if_pos e, ← hN, ← hk]
  exact runsN_full l k h hi
theorem some_no (hN : N = capN pages) (hk : k = n.toNat) (h : freeN l N < k) : someB l pages n = false ∧ someV l pages n = [] := by
  have e : someB l pages n = false := by
    unfold someB
    rw [← hN, ← hk, decide_eq_false_iff_not]
    omega
  refine ⟨e, ?_⟩
  unfold someV
  rw [if_neg (by rw [e]; simp)]
end

set_option maxRecDepth 100000 in
set_option maxHeartbeats 2000000 in
theorem some_few (l : List UInt8) (pages : Int) (k : Nat) (w : World) (hl : l.length ≤ 300) (hk : k ≤ 1000) (hp : pages ≤ 512) :
    Calls Try.prog 10 #[.string (strB l), .int .i64 pages, .int .i64 (k : Nat)] w fun e w' => ∃ v, e = .returned (.tuple #[v, .bool (someB l pages (k : Int))]) ∧ OwnS w.heap.size w' v (someV l pages (k : Int)) ∧ Below w.heap.size w w' := by
  obtain ⟨N, hN⟩ : ∃ N, N = capN pages := ⟨_, rfl⟩
  have hN1 : (N : Int) = max (min pages 512) 0 := by rw [hN]; unfold capN; omega
  have HN := Lib.hid hN
  have hk0 : k = (k : Int).toNat := by omega
  have hk2 : ¬ (k : Int) < 0 := by omega
  have HK0 := Lib.hid hk0
  have HL := Lib.hid (freeN_le l)
  have HM := Lib.hid (runsN_len l k)
  have HR := Lib.hid (runs_is l k)
  clear hN hk0
  have hn1 : ¬ (512 : Int) < pages := by omega
  go_enter Try.func10, Try.ntmps10
  go_wp2_with fail
  go_loopw [8, 9, 15] (fun u8 u9 u15 wr => ∃ (i lf : Nat) (A : Option Addr) (m c : Nat), i ≤ N ∧ u15 = .int .i64 (i : Nat) ∧ u9 = .int .i64 (lf : Nat) ∧ u8 = .slice A m c ∧ Hid (lf = k - freeN l i) ∧ Hid (OwnS w.heap.size wr (.slice A m c) (runsN l k i)) ∧ Hid (Below w.heap.size w wr)) (fun _ _ u _ => N - (intOf u).toNat)
  case atStart => exact ⟨0, k, none, 0, 0, Nat.zero_le _, rfl, rfl, rfl, Lib.hid (by show k = k - 0; omega), Lib.hid (OwnS.nil _ _), Lib.hid (Below.refl _ _)⟩
  case round =>
    obtain ⟨i, lf, A, m, c, hi, rfl, rfl, rfl, HF, HO, HB⟩ := hrel
    have hfi := HL.out i
    by_cases hlt : i < N
    · have g1 : (i : Int) < pages := by omega
      have g2 : (i : Int) < 512 := by omega
      by_cases hz : lf = 0
      · have HV := Lib.hid (some_yes HN.out HK0.out (show k ≤ freeN l i by have := HF.out; omega) (Nat.le_of_lt hlt))
        subst hz
        go_wp2_with fail
        go_ret2
        exact ⟨.slice A m c, by rw [HV.out.1]; rfl, by rw [HV.out.2]; exact HO.out, HB.out⟩
      · have hz2 : ((lf : Int) == 0) = false := by rw [beq_eq_false_iff_ne]; omega
        have hlf : lf ≤ 1000 := by have := HF.out; omega
        go_wp2_with fail
        (with_reducible refine (taken_nat l i _ hl).mono ?_)
        rintro e w2 ⟨rfl, hB⟩
        replace HO := Lib.hid (HO.out.below hB)
        replace HB := Lib.hid (below_trans2 HB.out hB)
        clear hB
        have hfk : freeN l i < k := by have := HF.out; omega
        cases ht : tk l i with
        | true =>
          have HE : Hid (runsN l k (i + 1) = runsN l k i) := Lib.hid (by show (if _ then _ else _) = _; rw [if_neg (fun h => by rw [ht] at h; cases h.2)])
          have HE2 : Hid (freeN l (i + 1) = freeN l i) := Lib.hid (freeN_taken ht)
          go_wp2_with fail
          exact ⟨⟨i + 1, lf, A, m, c, by omega, by go_num, rfl, rfl, Lib.hid (by rw [HE2.out]; exact HF.out), Lib.hid (by rw [HE.out]; exact HO.out), HB⟩, by simp [intOf]; omega⟩
        | false =>
          have HE : Hid (runsN l k (i + 1) = addP (runsN l k i) i) := Lib.hid (by show (if _ then _ else _) = _; rw [if_pos ⟨hfk, ht⟩])
          have HE2 : Hid (freeN l (i + 1) = freeN l i + 1) := Lib.hid (freeN_free ht)
          go_wp2_with fail
          (with_reducible refine (with_calls A m c i w.heap.size (runsN l k i) _ HO.out HB.out.size (by have := HM.out i; omega) (fun x hx => by have := (HR.out i).all x hx; omega) (by omega)).mono ?_)
          rintro e w3 ⟨v, rfl, hO, hB⟩
          obtain ⟨A2, c2, hA⟩ := hO.sps.form
          subst hA
          replace HO := Lib.hid hO
          replace HB := Lib.hid (HB.out.trans hB)
          clear hO hB
          go_wp2_with fail
          exact ⟨⟨i + 1, lf - 1, A2, _, c2, by omega, by go_num, by go_num, rfl, Lib.hid (by rw [HE2.out]; have := HF.out; omega), Lib.hid (by rw [HE.out]; exact HO.out), HB⟩, by simp [intOf]; omega⟩
    · obtain rfl : i = N := by omega
      have g1 : ¬ (i : Int) < pages := by omega
      clear hN1 hlt
      by_cases hz : lf = 0
      · have HV := Lib.hid (some_yes HN.out HK0.out (show k ≤ freeN l i by have := HF.out; omega) (Nat.le_refl _))
        subst hz
        go_wp2_with fail
        go_ret2
        exact ⟨.slice A m c, by rw [HV.out.1]; rfl, by rw [HV.out.2]; exact HO.out, HB.out⟩
      · have hz2 : (0 : Int) < (lf : Int) := by omega
        have HV := Lib.hid (some_no HN.out HK0.out (show freeN l i < k by have := HF.out; omega))
        go_wp2_with fail
        go_ret2
        exact ⟨.slice none 0 0, by rw [HV.out.1]; rfl, by rw [HV.out.2]; exact OwnS.nil _ _, HB.out⟩

set_option maxRecDepth 100000 in
set_option maxHeartbeats 2000000 in
theorem some_big (l : List UInt8) (pages : Int) (k : Nat) (w : World) (hl : l.length ≤ 300) (hk : k ≤ 1000) (hp : 512 < pages) :
    Calls Try.prog 10 #[.string (strB l), .int .i64 pages, .int .i64 (k : Nat)] w fun e w' => ∃ v, e = .returned (.tuple #[v, .bool (someB l pages (k : Int))]) ∧ OwnS w.heap.size w' v (someV l pages (k : Int)) ∧ Below w.heap.size w w' := by
  obtain ⟨N, hN⟩ : ∃ N, N = capN pages := ⟨_, rfl⟩
  have hN1 : (N : Int) = max (min pages 512) 0 := by rw [hN]; unfold capN; omega
  have HN := Lib.hid hN
  have hk0 : k = (k : Int).toNat := by omega
  have hk2 : ¬ (k : Int) < 0 := by omega
  have HK0 := Lib.hid hk0
  have HL := Lib.hid (freeN_le l)
  have HM := Lib.hid (runsN_len l k)
  have HR := Lib.hid (runs_is l k)
  clear hN hk0
  have hn1 : (512 : Int) < pages := by omega
  go_enter Try.func10, Try.ntmps10
  go_wp2_with fail
  go_loopw [8, 9, 15] (fun u8 u9 u15 wr => ∃ (i lf : Nat) (A : Option Addr) (m c : Nat), i ≤ N ∧ u15 = .int .i64 (i : Nat) ∧ u9 = .int .i64 (lf : Nat) ∧ u8 = .slice A m c ∧ Hid (lf = k - freeN l i) ∧ Hid (OwnS w.heap.size wr (.slice A m c) (runsN l k i)) ∧ Hid (Below w.heap.size w wr)) (fun _ _ u _ => N - (intOf u).toNat)
  case atStart => exact ⟨0, k, none, 0, 0, Nat.zero_le _, rfl, rfl, rfl, Lib.hid (by show k = k - 0; omega), Lib.hid (OwnS.nil _ _), Lib.hid (Below.refl _ _)⟩
  case round =>
    obtain ⟨i, lf, A, m, c, hi, rfl, rfl, rfl, HF, HO, HB⟩ := hrel
    have hfi := HL.out i
    by_cases hlt : i < N
    · have g1 : (i : Int) < pages := by omega
      have g2 : (i : Int) < 512 := by omega
      by_cases hz : lf = 0
      · have HV := Lib.hid (some_yes HN.out HK0.out (show k ≤ freeN l i by have := HF.out; omega) (Nat.le_of_lt hlt))
        subst hz
        go_wp2_with fail
        go_ret2
        exact ⟨.slice A m c, by rw [HV.out.1]; rfl, by rw [HV.out.2]; exact HO.out, HB.out⟩
      · have hz2 : ((lf : Int) == 0) = false := by rw [beq_eq_false_iff_ne]; omega
        have hlf : lf ≤ 1000 := by have := HF.out; omega
        go_wp2_with fail
        (with_reducible refine (taken_nat l i _ hl).mono ?_)
        rintro e w2 ⟨rfl, hB⟩
        replace HO := Lib.hid (HO.out.below hB)
        replace HB := Lib.hid (below_trans2 HB.out hB)
        clear hB
        have hfk : freeN l i < k := by have := HF.out; omega
        cases ht : tk l i with
        | true =>
          have HE : Hid (runsN l k (i + 1) = runsN l k i) := Lib.hid (by show (if _ then _ else _) = _; rw [if_neg (fun h => by rw [ht] at h; cases h.2)])
          have HE2 : Hid (freeN l (i + 1) = freeN l i) := Lib.hid (freeN_taken ht)
          go_wp2_with fail
          exact ⟨⟨i + 1, lf, A, m, c, by omega, by go_num, rfl, rfl, Lib.hid (by rw [HE2.out]; exact HF.out), Lib.hid (by rw [HE.out]; exact HO.out), HB⟩, by simp [intOf]; omega⟩
        | false =>
          have HE : Hid (runsN l k (i + 1) = addP (runsN l k i) i) := Lib.hid (by show (if _ then _ else _) = _; rw [if_pos ⟨hfk, ht⟩])
          have HE2 : Hid (freeN l (i + 1) = freeN l i + 1) := Lib.hid (freeN_free ht)
          go_wp2_with fail
          (with_reducible refine (with_calls A m c i w.heap.size (runsN l k i) _ HO.out HB.out.size (by have := HM.out i; omega) (fun x hx => by have := (HR.out i).all x hx; omega) (by omega)).mono ?_)
          rintro e w3 ⟨v, rfl, hO, hB⟩
          obtain ⟨A2, c2, hA⟩ := hO.sps.form
          subst hA
          replace HO := Lib.hid hO
          replace HB := Lib.hid (HB.out.trans hB)
          clear hO hB
          go_wp2_with fail
          exact ⟨⟨i + 1, lf - 1, A2, _, c2, by omega, by go_num, by go_num, rfl, Lib.hid (by rw [HE2.out]; have := HF.out; omega), Lib.hid (by rw [HE.out]; exact HO.out), HB⟩, by simp [intOf]; omega⟩
    · obtain rfl : i = N := by omega
      have g1 : ¬ (i : Int) < 512 := by omega
      clear hN1 hlt
      by_cases hz : lf = 0
      · have HV := Lib.hid (some_yes HN.out HK0.out (show k ≤ freeN l i by have := HF.out; omega) (Nat.le_refl _))
        subst hz
        go_wp2_with fail
        go_ret2
        exact ⟨.slice A m c, by rw [HV.out.1]; rfl, by rw [HV.out.2]; exact HO.out, HB.out⟩
      · have hz2 : (0 : Int) < (lf : Int) := by omega
        have HV := Lib.hid (some_no HN.out HK0.out (show freeN l i < k by have := HF.out; omega))
        go_wp2_with fail
        go_ret2
        exact ⟨.slice none 0 0, by rw [HV.out.1]; rfl, by rw [HV.out.2]; exact OwnS.nil _ _, HB.out⟩

set_option maxRecDepth 100000 in
set_option maxHeartbeats 2000000 in
theorem some_few0 (l : List UInt8) (pages : Int) (n : Int) (w : World) (hl : l.length ≤ 300) (hn : n < 0) (hp : pages ≤ 512) :
    Calls Try.prog 10 #[.string (strB l), .int .i64 pages, .int .i64 n] w fun e w' => ∃ v, e = .returned (.tuple #[v, .bool (someB l pages n)]) ∧ OwnS w.heap.size w' v (someV l pages n) ∧ Below w.heap.size w w' := by
  obtain ⟨N, hN⟩ : ∃ N, N = capN pages := ⟨_, rfl⟩
  have hN1 : (N : Int) = max (min pages 512) 0 := by rw [hN]; unfold capN; omega
  have HN := Lib.hid hN
  obtain ⟨k, hk0⟩ : ∃ k, k = n.toNat := ⟨_, rfl⟩
  have HK1 : Hid (k = 0) := Lib.hid (by omega)
  have HK0 := Lib.hid hk0
  have HL := Lib.hid (freeN_le l)
  clear hN hk0
  have hn1 : ¬ (512 : Int) < pages := by omega
  go_enter Try.func10, Try.ntmps10
  go_wp2_with fail
  go_loopw [8, 9, 15] (fun u8 u9 u15 wr => ∃ (i lf : Nat) (A : Option Addr) (m c : Nat), i ≤ N ∧ u15 = .int .i64 (i : Nat) ∧ u9 = .int .i64 (lf : Nat) ∧ u8 = .slice A m c ∧ Hid (lf = k - freeN l i) ∧ Hid (OwnS w.heap.size wr (.slice A m c) (runsN l k i)) ∧ Hid (Below w.heap.size w wr)) (fun _ _ u _ => N - (intOf u).toNat)
  case atStart => exact ⟨0, 0, none, 0, 0, Nat.zero_le _, rfl, rfl, rfl, Lib.hid (by have := HK1.out; omega), Lib.hid (OwnS.nil _ _), Lib.hid (Below.refl _ _)⟩
  case round =>
    obtain ⟨i, lf, A, m, c, hi, rfl, rfl, rfl, HF, HO, HB⟩ := hrel
    have hfi := HL.out i
    by_cases hlt : i < N
    · have g1 : (i : Int) < pages := by omega
      have g2 : (i : Int) < 512 := by omega
      by_cases hz : lf = 0
      · have HV := Lib.hid (some_yes HN.out HK0.out (show k ≤ freeN l i by have := HF.out; omega) (Nat.le_of_lt hlt))
        subst hz
        go_wp2_with fail
        go_ret2
        exact ⟨.slice A m c, by rw [HV.out.1]; rfl, by rw [HV.out.2]; exact HO.out, HB.out⟩
      · exact absurd (show lf = 0 by have := HF.out; have := HK1.out; omega) hz
    · obtain rfl : i = N := by omega
      have g1 : ¬ (i : Int) < pages := by omega
      clear hN1 hlt
      by_cases hz : lf = 0
      · have HV := Lib.hid (some_yes HN.out HK0.out (show k ≤ freeN l i by have := HF.out; omega) (Nat.le_refl _))
        subst hz
        go_wp2_with fail
        go_ret2
        exact ⟨.slice A m c, by rw [HV.out.1]; rfl, by rw [HV.out.2]; exact HO.out, HB.out⟩
      · exact absurd (show lf = 0 by have := HF.out; have := HK1.out; omega) hz

set_option maxRecDepth 100000 in
set_option maxHeartbeats 2000000 in
theorem some_big0 (l : List UInt8) (pages : Int) (n : Int) (w : World) (hl : l.length ≤ 300) (hn : n < 0) (hp : 512 < pages) :
    Calls Try.prog 10 #[.string (strB l), .int .i64 pages, .int .i64 n] w fun e w' => ∃ v, e = .returned (.tuple #[v, .bool (someB l pages n)]) ∧ OwnS w.heap.size w' v (someV l pages n) ∧ Below w.heap.size w w' := by
  obtain ⟨N, hN⟩ : ∃ N, N = capN pages := ⟨_, rfl⟩
  have hN1 : (N : Int) = max (min pages 512) 0 := by rw [hN]; unfold capN; omega
  have HN := Lib.hid hN
  obtain ⟨k, hk0⟩ : ∃ k, k = n.toNat := ⟨_, rfl⟩
  have HK1 : Hid (k = 0) := Lib.hid (by omega)
  have HK0 := Lib.hid hk0
  have HL := Lib.hid (freeN_le l)
  clear hN hk0
  have hn1 : (512 : Int) < pages := by omega
  go_enter Try.func10, Try.ntmps10
  go_wp2_with fail
  go_loopw [8, 9, 15] (fun u8 u9 u15 wr => ∃ (i lf : Nat) (A : Option Addr) (m c : Nat), i ≤ N ∧ u15 = .int .i64 (i : Nat) ∧ u9 = .int .i64 (lf : Nat) ∧ u8 = .slice A m c ∧ Hid (lf = k - freeN l i) ∧ Hid (OwnS w.heap.size wr (.slice A m c) (runsN l k i)) ∧ Hid (Below w.heap.size w wr)) (fun _ _ u _ => N - (intOf u).toNat)
  case atStart => exact ⟨0, 0, none, 0, 0, Nat.zero_le _, rfl, rfl, rfl, Lib.hid (by have := HK1.out; omega), Lib.hid (OwnS.nil _ _), Lib.hid (Below.refl _ _)⟩
  case round =>
    obtain ⟨i, lf, A, m, c, hi, rfl, rfl, rfl, HF, HO, HB⟩ := hrel
    have hfi := HL.out i
    by_cases hlt : i < N
    · have g1 : (i : Int) < pages := by omega
      have g2 : (i : Int) < 512 := by omega
      by_cases hz : lf = 0
      · have HV := Lib.hid (some_yes HN.out HK0.out (show k ≤ freeN l i by have := HF.out; omega) (Nat.le_of_lt hlt))
        subst hz
        go_wp2_with fail
        go_ret2
        exact ⟨.slice A m c, by rw [HV.out.1]; rfl, by rw [HV.out.2]; exact HO.out, HB.out⟩
      · exact absurd (show lf = 0 by have := HF.out; have := HK1.out; omega) hz
    · obtain rfl : i = N := by omega
      have g1 : ¬ (i : Int) < 512 := by omega
      clear hN1 hlt
      by_cases hz : lf = 0
      · have HV := Lib.hid (some_yes HN.out HK0.out (show k ≤ freeN l i by have := HF.out; omega) (Nat.le_refl _))
        subst hz
        go_wp2_with fail
        go_ret2
        exact ⟨.slice A m c, by rw [HV.out.1]; rfl, by rw [HV.out.2]; exact HO.out, HB.out⟩
      · exact absurd (show lf = 0 by have := HF.out; have := HK1.out; omega) hz

theorem some_calls (l : List UInt8) (pages n : Int) (w : World) (hl : l.length ≤ 300) (hn : n ≤ 1000) :
    Calls Try.prog 10 #[.string (strB l), .int .i64 pages, .int .i64 n] w fun e w' => ∃ v, e = .returned (.tuple #[v, .bool (someB l pages n)]) ∧ OwnS w.heap.size w' v (someV l pages n) ∧ Below w.heap.size w w' := by
  by_cases h1 : n < 0
  · by_cases h : pages ≤ 512
    · exact some_few0 l pages n w hl h1 h
    · exact some_big0 l pages n w hl h1 (by omega)
  · obtain ⟨k, rfl⟩ := Int.eq_ofNat_of_zero_le (show 0 ≤ n by omega)
    by_cases h : pages ≤ 512
    · exact some_few l pages k w hl (by omega) h
    · exact some_big l pages k w hl (by omega) (by omega)

end Go.Proofs.Ytjlcmmidbeikdaa
