/- The document's Some: what the call does. No statement is proved here. -/
import Derived.Test.YtjlcmmidbeikdaaSome
namespace Go.Proofs.Ytjlcmmidbeikdaa
open Go.RowKit Go.Sort

set_option maxRecDepth 100000 in
set_option maxHeartbeats 4000000 in
theorem rsome_few (l : List UInt8) (pages : Int) (k : Nat) (w : World) (hl : l.length ≤ 300) (hk : k ≤ 1000) (hp : pages ≤ 512) :
    Calls Try.prog 11 #[.string (strB l), .int .i64 pages, .int .i64 (k : Nat)] w fun e w' => ∃ v, e = .returned (.tuple #[v, .bool (someB l pages (k : Int))]) ∧ OwnS w.heap.size w' v (someV l pages (k : Int)) ∧ Below w.heap.size w w' := by
  obtain ⟨i1, hi0, hz0, hz1, hz2⟩ := info_parts info26
  obtain ⟨N, hN⟩ : ∃ N, N = capN pages := ⟨_, rfl⟩
  have hN1 : (N : Int) = max (min pages 512) 0 := by rw [hN]; unfold capN; omega
  have HN := Lib.hid hN
  have HK0 : Hid (k = (k : Int).toNat) := Lib.hid (by omega)
  have HL := Lib.hid (freeN_le l)
  have HM := Lib.hid (runsN_len l k)
  have HR := Lib.hid (runs_is l k)
  clear hN
  go_enter Try.func11, Try.ntmps11
  go_wp2_with fail
  go_loopw [2, 8, 9] (fun u2 u8 u9 wr => ∃ (i lf : Nat) (A : Option Addr) (m c : Nat), i ≤ N ∧ u9 = .int .i64 (i : Nat) ∧ u2 = .int .i64 (lf : Nat) ∧ u8 = .slice A m c ∧ Hid (lf = k - freeN l i) ∧ Hid (OwnS w.heap.size wr (.slice A m c) (runsN l k i)) ∧ Hid (Below w.heap.size w wr)) (fun _ _ u _ => N - (intOf u).toNat)
  case atStart => exact ⟨0, k, none, 0, 0, Nat.zero_le _, rfl, rfl, rfl, Lib.hid (by show k = k - 0; omega), Lib.hid (OwnS.nil _ _), Lib.hid (Below.refl _ _)⟩
  case round =>
    obtain ⟨i, lf, A, m, c, hi, rfl, rfl, rfl, HF, HO, HB⟩ := hrel
    obtain ⟨w2, rfl⟩ : ∃ w2, w2 = wr := ⟨_, rfl⟩
    have hfi := HL.out i
    by_cases hlt : i < N
    · have g1 : (i : Int) < pages := by omega
      have g2 : (i : Int) < 512 := by omega
      by_cases hz : lf = 0
      · have HV := Lib.hid (some_yes HN.out HK0.out (show k ≤ freeN l i by have := HF.out; omega) (Nat.le_of_lt hlt))
        subst hz
        go_wp2_with fail
        go_ret2
        exact ⟨.slice A m c, by rw [HV.out.1]; rfl, by rw [HV.out.2]; exact HO.out, HB.out⟩
      · have hlz : (0 : Int) < (lf : Int) := by omega
        have hlf : lf ≤ 1000 := by have := HF.out; omega
        have hfk : freeN l i < k := by have := HF.out; omega
        go_wp2_with fail
        (with_reducible refine (rtaken_nat l i _ hl).mono ?_)
        rintro e w' ⟨rfl, hB⟩
        obtain rfl := hB
        cases ht : tk l i with
        | true =>
          have HE : Hid (runsN l k (i + 1) = runsN l k i) := Lib.hid (by show (if _ then _ else _) = _; rw [if_neg (fun h => by rw [ht] at h; cases h.2)])
          have HE2 : Hid (freeN l (i + 1) = freeN l i) := Lib.hid (freeN_taken ht)
          go_wp2_with fail
          exact ⟨⟨i + 1, lf, A, m, c, by omega, by go_num, rfl, rfl, Lib.hid (by rw [HE2.out]; exact HF.out), Lib.hid (by rw [HE.out]; exact HO.out), HB⟩, by simp [intOf]; omega⟩
        | false =>
          have HE0 : runsN l k (i + 1) = addP (runsN l k i) i := by show (if _ then _ else _) = _; rw [if_pos ⟨hfk, ht⟩]
          have HE2 : Hid (freeN l (i + 1) = freeN l i + 1) := Lib.hid (freeN_free ht)
          have hml := HM.out i
          rcases snoc_cases (runsN l k i) with hr | ⟨r, x, hr⟩
          · rw [hr, addP_nil] at HE0
            have HE : Hid (runsN l k (i + 1) = [] ++ [((i : Int), 1)]) := Lib.hid HE0
            have HOL : Hid (OwnS w.heap.size w' (.slice A m c) []) := Lib.hid (by rw [← hr]; exact HO.out)
            have HLL : Hid (([] : List (Int × Int)).length ≤ 512) := Lib.hid (by simp)
            obtain rfl : m = 0 := HOL.out.sps.at_.1.symm
            clear HE0 hr HO
            go_wp2_with fail
            have hd : decide ((0 : Int) ≤ -1) = false := by decide
            go_quiet (fail)
            obtain ⟨w1, hw1⟩ : ∃ w1, w1 = w'.drewN nq := ⟨_, rfl⟩
            rw [← hw1]
            have HO1 : Hid (OwnS w.heap.size w1 (.slice A 0 c) ([] : List (Int × Int))) := Lib.hid (HOL.out.below (by rw [hw1]; exact below_drewN _ _))
            have HB1 : Hid (Below w.heap.size w w1) := Lib.hid (by rw [hw1]; exact below_trans2 HB.out (below_drewN w' nq))
            have hB1 : w.heap.size ≤ w1.heap.size := HB1.out.size
            clear hw1
            go_wp2_with (at_builtin; refine wpList_append_own_at _ (by rfl) (.tmp 55) (.tmp 58) 23 (by rfl) w.heap.size 26 i1 _ 2 16 Try.underlying23 hi0 hz0 hz1 hz2 (by rfl) (by omega) _ ([] : List (Int × Int)).length (spsC ([] : List (Int × Int))) (by rfl) (by exact World.ownsRow.alloc HO1.out _) ⟨w1.heap.size, 0, none⟩ 1 1 [.int .i64 (i : Int), .int .i64 1] (by rfl) (by rfl) (by exact news2 ((i : Int), 1) rfl) (one2 ((i : Int), 1)) (Nat.le_trans (show ([] : List (Int × Int)).length + 1 ≤ 1000000 by have := HLL.out; omega) (by decide)) (by have := HLL.out; omega) (by simp; omega) ?_; intro v' w9 hown' hgrow' hnil' hat')
            obtain ⟨A', c', hA⟩ := (own_snoc (l := ([] : List (Int × Int))) (x := ((i : Int), 1)) hown').sps.form
            have HO' : Hid (OwnS w.heap.size w9 v' (([] : List (Int × Int)) ++ [((i : Int), 1)])) := Lib.hid (own_snoc (l := ([] : List (Int × Int))) (x := ((i : Int), 1)) hown')
            have HG : Hid (Below w.heap.size w w9) := Lib.hid (below_grown (HB1.out.alloc (by omega) _) hgrow' HO1.out.ge (by simp; omega))
            clear hown' hgrow' hnil' hat'
            subst hA
            go_wp2_with fail
            exact ⟨⟨i + 1, lf - 1, A', _, c', by omega, by go_num, by go_num, rfl, Lib.hid (by rw [HE2.out]; have := HF.out; omega), Lib.hid (by rw [HE.out]; exact HO'.out), HG⟩, by simp [intOf]; omega⟩
          · have hHO := HO.out
            rw [hr] at hHO HE0
            obtain ⟨rfl, hc, g, rfl, hg, hgl, c0, c1, hf, hset⟩ := hHO.last
            have HLL : Hid ((r ++ [x]).length ≤ 512) := Lib.hid (by rw [← hr]; omega)
            have hrl : r.length ≤ 512 := by have := HLL.out; simp at this; omega
            obtain ⟨hx0, hx1, hx2⟩ := (HR.out i).all x (by rw [hr]; simp)
            have hd3 : decide ((0 : Int) ≤ (r.length : Int)) = true := by rw [decide_eq_true_iff]; omega
            have hw1 : (r.length : Int) + 1 - 1 = (r.length : Int) := by omega
            have HOL := Lib.hid hHO
            have HS := Lib.hid hset
            clear hHO hset HO hr
            by_cases he : x.1 + x.2 = i
            · rw [addP_on _ _ _ he] at HE0
              have HE := Lib.hid HE0
              have hd : (x.1 + x.2 == (i : Int)) = true := by rw [beq_iff_eq]; exact he
              clear HE0 he HOL
              go_wp2_with fail
              go_quiet (fail)
              go_wp2_with fail
              exact ⟨⟨i + 1, lf - 1, _, _, c, by omega, by go_num, by go_num, rfl, Lib.hid (by rw [HE2.out]; have := HF.out; omega), Lib.hid (by rw [HE.out]; exact HS.out (x.2 + 1)), Lib.hid ((below_trans2 HB.out (below_drewN _ nq)).setCell hg _)⟩, by simp [intOf]; omega⟩
            · rw [addP_new _ _ _ he] at HE0
              have HE := Lib.hid HE0
              have hd : (x.1 + x.2 == (i : Int)) = false := by rw [beq_eq_false_iff_ne]; exact he
              clear HE0 he HS
              go_wp2_with fail
              go_quiet (fail)
              clear c0 c1 hf
              obtain ⟨w1, hw1⟩ : ∃ w1, w1 = w'.drewN nq := ⟨_, rfl⟩
              rw [← hw1]
              have HO1 : Hid (OwnS w.heap.size w1 (.slice (some ⟨g, 0, none⟩) (r.length + 1) c) (r ++ [x])) := Lib.hid (HOL.out.below (by rw [hw1]; exact below_drewN _ _))
              have HB1 : Hid (Below w.heap.size w w1) := Lib.hid (by rw [hw1]; exact below_trans2 HB.out (below_drewN w' nq))
              have hB1 : w.heap.size ≤ w1.heap.size := HB1.out.size
              clear hw1
              go_wp2_with (at_builtin; refine wpList_append_own_at _ (by rfl) (.tmp 55) (.tmp 58) 23 (by rfl) w.heap.size 26 i1 _ 2 16 Try.underlying23 hi0 hz0 hz1 hz2 (by rfl) (by omega) _ (r ++ [x]).length (spsC (r ++ [x])) (by rfl) (by exact World.ownsRow.alloc HO1.out _) ⟨w1.heap.size, 0, none⟩ 1 1 [.int .i64 (i : Int), .int .i64 1] (by rfl) (by rfl) (by exact news2 ((i : Int), 1) rfl) (one2 ((i : Int), 1)) (Nat.le_trans (show (r ++ [x]).length + 1 ≤ 1000000 by have := HLL.out; omega) (by decide)) (by have := HLL.out; omega) (by simp; omega) ?_; intro v' w9 hown' hgrow' hnil' hat')
              obtain ⟨A', c', hA⟩ := (own_snoc (l := (r ++ [x])) (x := ((i : Int), 1)) hown').sps.form
              have HO' : Hid (OwnS w.heap.size w9 v' ((r ++ [x]) ++ [((i : Int), 1)])) := Lib.hid (own_snoc (l := (r ++ [x])) (x := ((i : Int), 1)) hown')
              have HG : Hid (Below w.heap.size w w9) := Lib.hid (below_grown (HB1.out.alloc (by omega) _) hgrow' HO1.out.ge (by simp; omega))
              clear hown' hgrow' hnil' hat'
              subst hA
              go_wp2_with fail
              exact ⟨⟨i + 1, lf - 1, A', _, c', by omega, by go_num, by go_num, rfl, Lib.hid (by rw [HE2.out]; have := HF.out; omega), Lib.hid (by rw [HE.out]; exact HO'.out), HG⟩, by simp [intOf]; omega⟩
    · obtain rfl : i = N := by omega
      have g1 : ¬ (i : Int) < pages := by omega
      clear hN1 hlt
      by_cases hz : lf = 0
      · have HV := Lib.hid (some_yes HN.out HK0.out (show k ≤ freeN l i by have := HF.out; omega) (Nat.le_refl _))
        subst hz
        go_wp2_with fail
        go_ret2
        exact ⟨.slice A m c, by rw [HV.out.1]; rfl, by rw [HV.out.2]; exact HO.out, HB.out⟩
      · have hlz : (0 : Int) < (lf : Int) := by omega
        have HV := Lib.hid (some_no HN.out HK0.out (show freeN l i < k by have := HF.out; omega))
        go_wp2_with fail
        go_ret2
        exact ⟨.slice none 0 0, by rw [HV.out.1]; rfl, by rw [HV.out.2]; exact OwnS.nil _ _, HB.out⟩

set_option maxRecDepth 100000 in
set_option maxHeartbeats 4000000 in
theorem rsome_big (l : List UInt8) (pages : Int) (k : Nat) (w : World) (hl : l.length ≤ 300) (hk : k ≤ 1000) (hp : 512 < pages) :
    Calls Try.prog 11 #[.string (strB l), .int .i64 pages, .int .i64 (k : Nat)] w fun e w' => ∃ v, e = .returned (.tuple #[v, .bool (someB l pages (k : Int))]) ∧ OwnS w.heap.size w' v (someV l pages (k : Int)) ∧ Below w.heap.size w w' := by
  obtain ⟨i1, hi0, hz0, hz1, hz2⟩ := info_parts info26
  obtain ⟨N, hN⟩ : ∃ N, N = capN pages := ⟨_, rfl⟩
  have hN1 : (N : Int) = max (min pages 512) 0 := by rw [hN]; unfold capN; omega
  have HN := Lib.hid hN
  have HK0 : Hid (k = (k : Int).toNat) := Lib.hid (by omega)
  have HL := Lib.hid (freeN_le l)
  have HM := Lib.hid (runsN_len l k)
  have HR := Lib.hid (runs_is l k)
  clear hN
  go_enter Try.func11, Try.ntmps11
  go_wp2_with fail
  go_loopw [2, 8, 9] (fun u2 u8 u9 wr => ∃ (i lf : Nat) (A : Option Addr) (m c : Nat), i ≤ N ∧ u9 = .int .i64 (i : Nat) ∧ u2 = .int .i64 (lf : Nat) ∧ u8 = .slice A m c ∧ Hid (lf = k - freeN l i) ∧ Hid (OwnS w.heap.size wr (.slice A m c) (runsN l k i)) ∧ Hid (Below w.heap.size w wr)) (fun _ _ u _ => N - (intOf u).toNat)
  case atStart => exact ⟨0, k, none, 0, 0, Nat.zero_le _, rfl, rfl, rfl, Lib.hid (by show k = k - 0; omega), Lib.hid (OwnS.nil _ _), Lib.hid (Below.refl _ _)⟩
  case round =>
    obtain ⟨i, lf, A, m, c, hi, rfl, rfl, rfl, HF, HO, HB⟩ := hrel
    obtain ⟨w2, rfl⟩ : ∃ w2, w2 = wr := ⟨_, rfl⟩
    have hfi := HL.out i
    by_cases hlt : i < N
    · have g1 : (i : Int) < pages := by omega
      have g2 : (i : Int) < 512 := by omega
      by_cases hz : lf = 0
      · have HV := Lib.hid (some_yes HN.out HK0.out (show k ≤ freeN l i by have := HF.out; omega) (Nat.le_of_lt hlt))
        subst hz
        go_wp2_with fail
        go_ret2
        exact ⟨.slice A m c, by rw [HV.out.1]; rfl, by rw [HV.out.2]; exact HO.out, HB.out⟩
      · have hlz : (0 : Int) < (lf : Int) := by omega
        have hlf : lf ≤ 1000 := by have := HF.out; omega
        have hfk : freeN l i < k := by have := HF.out; omega
        go_wp2_with fail
        (with_reducible refine (rtaken_nat l i _ hl).mono ?_)
        rintro e w' ⟨rfl, hB⟩
        obtain rfl := hB
        cases ht : tk l i with
        | true =>
          have HE : Hid (runsN l k (i + 1) = runsN l k i) := Lib.hid (by show (if _ then _ else _) = _; rw [if_neg (fun h => by rw [ht] at h; cases h.2)])
          have HE2 : Hid (freeN l (i + 1) = freeN l i) := Lib.hid (freeN_taken ht)
          go_wp2_with fail
          exact ⟨⟨i + 1, lf, A, m, c, by omega, by go_num, rfl, rfl, Lib.hid (by rw [HE2.out]; exact HF.out), Lib.hid (by rw [HE.out]; exact HO.out), HB⟩, by simp [intOf]; omega⟩
        | false =>
          have HE0 : runsN l k (i + 1) = addP (runsN l k i) i := by show (if _ then _ else _) = _; rw [if_pos ⟨hfk, ht⟩]
          have HE2 : Hid (freeN l (i + 1) = freeN l i + 1) := Lib.hid (freeN_free ht)
          have hml := HM.out i
          rcases snoc_cases (runsN l k i) with hr | ⟨r, x, hr⟩
          · rw [hr, addP_nil] at HE0
            have HE : Hid (runsN l k (i + 1) = [] ++ [((i : Int), 1)]) := Lib.hid HE0
            have HOL : Hid (OwnS w.heap.size w' (.slice A m c) []) := Lib.hid (by rw [← hr]; exact HO.out)
            have HLL : Hid (([] : List (Int × Int)).length ≤ 512) := Lib.hid (by simp)
            obtain rfl : m = 0 := HOL.out.sps.at_.1.symm
            clear HE0 hr HO
            go_wp2_with fail
            have hd : decide ((0 : Int) ≤ -1) = false := by decide
            go_quiet (fail)
            obtain ⟨w1, hw1⟩ : ∃ w1, w1 = w'.drewN nq := ⟨_, rfl⟩
            rw [← hw1]
            have HO1 : Hid (OwnS w.heap.size w1 (.slice A 0 c) ([] : List (Int × Int))) := Lib.hid (HOL.out.below (by rw [hw1]; exact below_drewN _ _))
            have HB1 : Hid (Below w.heap.size w w1) := Lib.hid (by rw [hw1]; exact below_trans2 HB.out (below_drewN w' nq))
            have hB1 : w.heap.size ≤ w1.heap.size := HB1.out.size
            clear hw1
            go_wp2_with (at_builtin; refine wpList_append_own_at _ (by rfl) (.tmp 55) (.tmp 58) 23 (by rfl) w.heap.size 26 i1 _ 2 16 Try.underlying23 hi0 hz0 hz1 hz2 (by rfl) (by omega) _ ([] : List (Int × Int)).length (spsC ([] : List (Int × Int))) (by rfl) (by exact World.ownsRow.alloc HO1.out _) ⟨w1.heap.size, 0, none⟩ 1 1 [.int .i64 (i : Int), .int .i64 1] (by rfl) (by rfl) (by exact news2 ((i : Int), 1) rfl) (one2 ((i : Int), 1)) (Nat.le_trans (show ([] : List (Int × Int)).length + 1 ≤ 1000000 by have := HLL.out; omega) (by decide)) (by have := HLL.out; omega) (by simp; omega) ?_; intro v' w9 hown' hgrow' hnil' hat')
            obtain ⟨A', c', hA⟩ := (own_snoc (l := ([] : List (Int × Int))) (x := ((i : Int), 1)) hown').sps.form
            have HO' : Hid (OwnS w.heap.size w9 v' (([] : List (Int × Int)) ++ [((i : Int), 1)])) := Lib.hid (own_snoc (l := ([] : List (Int × Int))) (x := ((i : Int), 1)) hown')
            have HG : Hid (Below w.heap.size w w9) := Lib.hid (below_grown (HB1.out.alloc (by omega) _) hgrow' HO1.out.ge (by simp; omega))
            clear hown' hgrow' hnil' hat'
            subst hA
            go_wp2_with fail
            exact ⟨⟨i + 1, lf - 1, A', _, c', by omega, by go_num, by go_num, rfl, Lib.hid (by rw [HE2.out]; have := HF.out; omega), Lib.hid (by rw [HE.out]; exact HO'.out), HG⟩, by simp [intOf]; omega⟩
          · have hHO := HO.out
            rw [hr] at hHO HE0
            obtain ⟨rfl, hc, g, rfl, hg, hgl, c0, c1, hf, hset⟩ := hHO.last
            have HLL : Hid ((r ++ [x]).length ≤ 512) := Lib.hid (by rw [← hr]; omega)
            have hrl : r.length ≤ 512 := by have := HLL.out; simp at this; omega
            obtain ⟨hx0, hx1, hx2⟩ := (HR.out i).all x (by rw [hr]; simp)
            have hd3 : decide ((0 : Int) ≤ (r.length : Int)) = true := by rw [decide_eq_true_iff]; omega
            have hw1 : (r.length : Int) + 1 - 1 = (r.length : Int) := by omega
            have HOL := Lib.hid hHO
            have HS := Lib.hid hset
            clear hHO hset HO hr
            by_cases he : x.1 + x.2 = i
            · rw [addP_on _ _ _ he] at HE0
              have HE := Lib.hid HE0
              have hd : (x.1 + x.2 == (i : Int)) = true := by rw [beq_iff_eq]; exact he
              clear HE0 he HOL
              go_wp2_with fail
              go_quiet (fail)
              go_wp2_with fail
              exact ⟨⟨i + 1, lf - 1, _, _, c, by omega, by go_num, by go_num, rfl, Lib.hid (by rw [HE2.out]; have := HF.out; omega), Lib.hid (by rw [HE.out]; exact HS.out (x.2 + 1)), Lib.hid ((below_trans2 HB.out (below_drewN _ nq)).setCell hg _)⟩, by simp [intOf]; omega⟩
            · rw [addP_new _ _ _ he] at HE0
              have HE := Lib.hid HE0
              have hd : (x.1 + x.2 == (i : Int)) = false := by rw [beq_eq_false_iff_ne]; exact he
              clear HE0 he HS
              go_wp2_with fail
              go_quiet (fail)
              clear c0 c1 hf
              obtain ⟨w1, hw1⟩ : ∃ w1, w1 = w'.drewN nq := ⟨_, rfl⟩
              rw [← hw1]
              have HO1 : Hid (OwnS w.heap.size w1 (.slice (some ⟨g, 0, none⟩) (r.length + 1) c) (r ++ [x])) := Lib.hid (HOL.out.below (by rw [hw1]; exact below_drewN _ _))
              have HB1 : Hid (Below w.heap.size w w1) := Lib.hid (by rw [hw1]; exact below_trans2 HB.out (below_drewN w' nq))
              have hB1 : w.heap.size ≤ w1.heap.size := HB1.out.size
              clear hw1
              go_wp2_with (at_builtin; refine wpList_append_own_at _ (by rfl) (.tmp 55) (.tmp 58) 23 (by rfl) w.heap.size 26 i1 _ 2 16 Try.underlying23 hi0 hz0 hz1 hz2 (by rfl) (by omega) _ (r ++ [x]).length (spsC (r ++ [x])) (by rfl) (by exact World.ownsRow.alloc HO1.out _) ⟨w1.heap.size, 0, none⟩ 1 1 [.int .i64 (i : Int), .int .i64 1] (by rfl) (by rfl) (by exact news2 ((i : Int), 1) rfl) (one2 ((i : Int), 1)) (Nat.le_trans (show (r ++ [x]).length + 1 ≤ 1000000 by have := HLL.out; omega) (by decide)) (by have := HLL.out; omega) (by simp; omega) ?_; intro v' w9 hown' hgrow' hnil' hat')
              obtain ⟨A', c', hA⟩ := (own_snoc (l := (r ++ [x])) (x := ((i : Int), 1)) hown').sps.form
              have HO' : Hid (OwnS w.heap.size w9 v' ((r ++ [x]) ++ [((i : Int), 1)])) := Lib.hid (own_snoc (l := (r ++ [x])) (x := ((i : Int), 1)) hown')
              have HG : Hid (Below w.heap.size w w9) := Lib.hid (below_grown (HB1.out.alloc (by omega) _) hgrow' HO1.out.ge (by simp; omega))
              clear hown' hgrow' hnil' hat'
              subst hA
              go_wp2_with fail
              exact ⟨⟨i + 1, lf - 1, A', _, c', by omega, by go_num, by go_num, rfl, Lib.hid (by rw [HE2.out]; have := HF.out; omega), Lib.hid (by rw [HE.out]; exact HO'.out), HG⟩, by simp [intOf]; omega⟩
    · obtain rfl : i = N := by omega
      have g0 : (i : Int) < pages := by omega
      have g1 : ¬ (i : Int) < 512 := by omega
      clear hN1 hlt
      by_cases hz : lf = 0
      · have HV := Lib.hid (some_yes HN.out HK0.out (show k ≤ freeN l i by have := HF.out; omega) (Nat.le_refl _))
        subst hz
        go_wp2_with fail
        go_ret2
        exact ⟨.slice A m c, by rw [HV.out.1]; rfl, by rw [HV.out.2]; exact HO.out, HB.out⟩
      · have hlz : (0 : Int) < (lf : Int) := by omega
        have HV := Lib.hid (some_no HN.out HK0.out (show freeN l i < k by have := HF.out; omega))
        go_wp2_with fail
        go_ret2
        exact ⟨.slice none 0 0, by rw [HV.out.1]; rfl, by rw [HV.out.2]; exact OwnS.nil _ _, HB.out⟩

set_option maxRecDepth 100000 in
set_option maxHeartbeats 4000000 in
theorem rsome_none (l : List UInt8) (pages n : Int) (w : World) (hn : n ≤ 0) :
    Calls Try.prog 11 #[.string (strB l), .int .i64 pages, .int .i64 n] w fun e w' => ∃ v, e = .returned (.tuple #[v, .bool (someB l pages n)]) ∧ OwnS w.heap.size w' v (someV l pages n) ∧ Below w.heap.size w w' := by
  have HV := Lib.hid (some_yes (l := l) (pages := pages) (n := n) (N := capN pages) (k := 0) (i := 0) rfl (by omega) (Nat.zero_le _) (Nat.zero_le _))
  have g1 : ¬ (0 : Int) < n := by omega
  go_enter Try.func11, Try.ntmps11
  go_wp2_with fail
  refine wp_loop_rounds 1 ?_
  rw [rounds_succ]
  by_cases h : (0 : Int) < pages
  · go_wp2_with fail
    go_ret2
    exact ⟨.slice none 0 0, by rw [HV.out.1]; rfl, by rw [HV.out.2]; exact OwnS.nil _ _, Below.refl _ _⟩
  · go_wp2_with fail
    go_ret2
    exact ⟨.slice none 0 0, by rw [HV.out.1]; rfl, by rw [HV.out.2]; exact OwnS.nil _ _, Below.refl _ _⟩

theorem rsome_calls (l : List UInt8) (pages n : Int) (w : World) (hl : l.length ≤ 300) (hn : n ≤ 1000) :
    Calls Try.prog 11 #[.string (strB l), .int .i64 pages, .int .i64 n] w fun e w' => ∃ v, e = .returned (.tuple #[v, .bool (someB l pages n)]) ∧ OwnS w.heap.size w' v (someV l pages n) ∧ Below w.heap.size w w' := by
  by_cases h1 : n ≤ 0
  · exact rsome_none l pages n w h1
  · obtain ⟨k, rfl⟩ := Int.eq_ofNat_of_zero_le (show 0 ≤ n by omega)
    by_cases h : pages ≤ 512
    · exact rsome_few l pages k w hl (by omega) h
    · exact rsome_big l pages k w hl (by omega) (by omega)

end Go.Proofs.Ytjlcmmidbeikdaa
