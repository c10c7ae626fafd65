/- Contracts and plain mathematics that the statement's proof wants: no statement is proved here, nothing is assumed. -/
import Derived.Test.YtgeiemccjionpaaGreatMg19
/- PFind -/
namespace Go.Proofs.YtgeiemccjionpaaGreat.Vlt
open Go.RowKit Go.Sort
open Dsk

set_option maxRecDepth 100000 in
set_option maxHeartbeats 400000 in
theorem has_calls (x : Sh) (no : Int) (w : World) :
    Calls Tryz.prog 58 #[shV x, .int .i64 no] w fun e w' => e = .returned (.bool (decide (0 ≤ no) && decide (no < x.pages))) ∧ Below w.heap.size w w' := by
  unfold shV
  by_cases h : 0 ≤ no
  · have hd : decide (0 ≤ no) = true := by simpa using h
    go_enter Tryz.func58, Tryz.ntmps58
    go_wp2
    go_ret
    exact ⟨by simp [h], (Below.refl _ _).alloc (Nat.le_refl _) _⟩
  · have hd : decide (0 ≤ no) = false := by simpa using h
    go_enter Tryz.func58, Tryz.ntmps58
    go_wp2
    go_ret
    exact ⟨by simp, (Below.refl _ _).alloc (Nat.le_refl _) _⟩

set_option maxRecDepth 100000 in
set_option maxHeartbeats 400000 in
theorem nan_calls (x : Int) (w : World) : Calls Tryz.prog 96 #[.int .i64 x] w fun e w' => e = .returned (.bool false) ∧ w' = w := by
  have hx : (x == x) = true := by simp
  go_enter Tryz.func96, Tryz.ntmps96
  go_wp2_with fail
  go_ret
  exact ⟨by simp, rfl⟩

def cmpI (x y : Int) : Int := if x < y then -1 else if y < x then 1 else 0

set_option maxRecDepth 100000 in
set_option maxHeartbeats 400000 in
theorem cmp_calls (x y : Int) (w : World) : Calls Tryz.prog 80 #[.int .i64 x, .int .i64 y] w fun e w' => e = .returned (.int .i64 (cmpI x y)) ∧ w' = w := by
  have H1 := Lib.hid (nan_calls x w)
  have H2 := Lib.hid (nan_calls y w)
  unfold cmpI
  by_cases h1 : x < y
  · rw [if_pos h1]
    go_enter Tryz.func80, Tryz.ntmps80
    go_wp2_with fail
    with_reducible refine H1.out.mono ?_
    rintro e w1 ⟨rfl, rfl⟩
    go_wp2_with fail
    with_reducible refine H2.out.mono ?_
    rintro e w1 ⟨rfl, rfl⟩
    go_wp2_with fail
    go_ret
    exact ⟨rfl, rfl⟩
  · by_cases h2 : y < x
    · rw [if_neg h1, if_pos h2]
      go_enter Tryz.func80, Tryz.ntmps80
      go_wp2_with fail
      with_reducible refine H1.out.mono ?_
      rintro e w1 ⟨rfl, rfl⟩
      go_wp2_with fail
      with_reducible refine H2.out.mono ?_
      rintro e w1 ⟨rfl, rfl⟩
      go_wp2_with fail
      go_ret
      exact ⟨rfl, rfl⟩
    · rw [if_neg h1, if_neg h2]
      go_enter Tryz.func80, Tryz.ntmps80
      go_wp2_with fail
      with_reducible refine H1.out.mono ?_
      rintro e w1 ⟨rfl, rfl⟩
      go_wp2_with fail
      with_reducible refine H2.out.mono ?_
      rintro e w1 ⟨rfl, rfl⟩
      go_wp2_with fail
      go_ret
      exact ⟨rfl, rfl⟩

set_option maxRecDepth 100000 in
set_option maxHeartbeats 400000 in
theorem find1_calls (o : Lf) (no : Int) (w : World) : Calls Tryz.prog 79 #[.agg #[.int .i64 o.no, .string (strB o.data)], .int .i64 no] w fun e w' => e = .returned (.int .i64 (cmpI o.no no)) ∧ Below w.heap.size w w' := by
  have H := Lib.hid (fun W => cmp_calls o.no no W)
  go_enter Tryz.func79, Tryz.ntmps79
  go_wp2_with fail
  with_reducible refine (H.out _).mono ?_
  rintro e w1 ⟨rfl, rfl⟩
  go_wp2_with fail
  go_ret
  exact ⟨rfl, below_one _ _⟩

def posL (l : List Lf) (no : Int) : Nat := (l.takeWhile (fun p => decide (p.no < no))).length
def isL (l : List Lf) (no : Int) : Bool := match l[posL l no]? with | some o => decide (o.no = no) | none => false
theorem posL_is {l : List Lf} {no : Int} {i : Nat} (h1 : ∀ q x, q < i → l[q]? = some x → x.no < no) (h2 : ∀ x, l[i]? = some x → ¬ x.no < no) (hi : i ≤ l.length) : posL l no = i := by
  unfold posL
  rw [(tw_takeL (p := ⟨no, []⟩) l i h1 h2 hi).1, List.length_take]
  omega
theorem rise_at {l : List Lf} (h : RiseL l) {i j : Nat} {x y : Lf} (hij : i < j) (hx : l[i]? = some x) (hy : l[j]? = some y) : x.no < y.no := by
  obtain ⟨hi, rfl⟩ := List.getElem?_eq_some_iff.1 hx
  obtain ⟨hj, rfl⟩ := List.getElem?_eq_some_iff.1 hy
  exact List.pairwise_iff_getElem.1 h i j hi hj hij

set_option maxRecDepth 100000 in
set_option maxHeartbeats 4000000 in
theorem search_calls (A : Option Addr) (n c : Nat) (l : List Lf) (no : Int) (w : World) (hr : Reads w 98 2 A n (lfCells l)) (hn : n = l.length) (hR : RiseL l) (hnm : n ≤ 1000) :
    Calls Tryz.prog 78 #[.slice A n c, .int .i64 no, .func (.func 79) #[] #[]] w fun e w' => e = .returned (.tuple #[.int .i64 (posL l no : Nat), .bool (isL l no)]) ∧ Below w.heap.size w w' := by
  have HR := Lib.hid hr
  have HN := Lib.hid hn
  have HRI := Lib.hid hR
  have HC := Lib.hid (fun o W => find1_calls o no W)
  clear hr hn hR
  go_enter Tryz.func78, Tryz.ntmps78
  go_wp2_with fail
  go_loopw [9, 10] (fun s9 s10 wr => ∃ lo hi : Nat, s9 = .int .i64 lo ∧ s10 = .int .i64 hi ∧ lo ≤ hi ∧ hi ≤ n ∧ Below w.heap.size w wr ∧ (∀ q x, q < lo → l[q]? = some x → x.no < no) ∧ (∀ q x, hi ≤ q → l[q]? = some x → no ≤ x.no)) (fun s9 s10 _ => (intOf s10).toNat - (intOf s9).toNat)
  case atStart => exact ⟨0, n, rfl, rfl, Nat.zero_le _, Nat.le_refl _, Below.refl _ _, fun q x h => absurd h (by omega), fun q x h hx => by have := (List.getElem?_eq_some_iff.1 hx).1; have := HN.out; omega⟩
  case round =>
    obtain ⟨lo, hi, rfl, rfl, hlh, hin, hbr, hlow, hhigh⟩ := hrel
    have HBR := Lib.hid hbr
    have HLO := Lib.hid hlow
    have HHI := Lib.hid hhigh
    clear hbr hlow hhigh
    by_cases hlt : lo < hi
    · obtain ⟨k, hk⟩ : ∃ k, k = (lo + hi) / 2 := ⟨_, rfl⟩
      have hk1 : lo ≤ k := by omega
      have hk2 : k < hi := by omega
      have hkk : ((lo : Int) + (hi : Int)) / 2 = (k : Nat) := by omega
      obtain ⟨o, ho⟩ : ∃ o, l[k]? = some o := ⟨_, List.getElem?_eq_getElem (by have := HN.out; omega)⟩
      obtain ⟨b, off, rfl, x0, x1⟩ := lf_at HR.out HBR.out ho (by omega)
      have HO := Lib.hid ho
      clear ho hk
      by_cases hc : o.no < no
      · have hcm : cmpI o.no no = -1 := by unfold cmpI; rw [if_pos hc]
        go_wp2_with fail
        with_reducible refine (HC.out o _).mono ?_
        rintro e w1 ⟨rfl, hB1⟩
        rw [hcm]
        go_wp2_with fail
        refine ⟨⟨k + 1, hi, by go_num, rfl, by omega, hin, Dsk.below_trans' HBR.out hB1, fun q x hq hx => ?_, HHI.out⟩, by simp [intOf]; omega⟩
        by_cases e : q = k
        · subst e
          rw [HO.out] at hx
          injection hx with hx
          rw [← hx]; exact hc
        · have := rise_at HRI.out (show q < k by omega) hx HO.out
          omega
      · have hcm : ¬ cmpI o.no no < 0 := by unfold cmpI; rw [if_neg hc]; split <;> omega
        obtain ⟨z, hz⟩ : ∃ z, z = cmpI o.no no := ⟨_, rfl⟩
        rw [← hz] at hcm
        have HZ := Lib.hid hz
        clear hz
        go_wp2_with fail
        with_reducible refine (HC.out o _).mono ?_
        rintro e w1 ⟨rfl, hB1⟩
        rw [← HZ.out]
        go_wp2_with fail
        refine ⟨⟨lo, k, rfl, rfl, hk1, by omega, Dsk.below_trans' HBR.out hB1, HLO.out, fun q x hq hx => ?_⟩, by simp [intOf]; omega⟩
        by_cases e : q = k
        · subst e
          rw [HO.out] at hx
          injection hx with hx
          rw [← hx]; omega
        · have := rise_at HRI.out (show k < q by omega) HO.out hx
          omega
    · obtain rfl : lo = hi := by omega
      have hp := posL_is (l := l) (no := no) (i := lo) HLO.out (fun x hx => by have := HHI.out lo x (Nat.le_refl _) hx; omega) (by have := HN.out; omega)
      have HP := Lib.hid hp
      by_cases hln : lo < n
      · obtain ⟨o, ho⟩ : ∃ o, l[lo]? = some o := ⟨_, List.getElem?_eq_getElem (by have := HN.out; omega)⟩
        obtain ⟨b, off, rfl, x0, x1⟩ := lf_at HR.out HBR.out ho (by omega)
        have hq : isL l no = decide (o.no = no) := by unfold isL; rw [hp, ho]
        have hno : ¬ o.no < no := by have := HHI.out lo o (Nat.le_refl _) ho; omega
        have hi2 : (lo : Int) < (n : Int) := by omega
        have HQ := Lib.hid hq
        have hcm : cmpI o.no no = if no < o.no then 1 else 0 := by unfold cmpI; rw [if_neg hno]
        clear hp ho hq
        obtain ⟨z, hz⟩ : ∃ z, z = cmpI o.no no := ⟨_, rfl⟩
        have hzq : (z == 0) = isL l no := by
          rw [HQ.out, hz, hcm]
          by_cases hg : no < o.no
          · rw [if_pos hg]
            have : ¬ o.no = no := by omega
            simp [this]
          · rw [if_neg hg]
            have : o.no = no := by omega
            simp [this]
        have HZ := Lib.hid hz
        have HZQ := Lib.hid hzq
        clear hz hzq hcm
        go_wp2_with fail
        with_reducible refine (HC.out o _).mono ?_
        rintro e w1 ⟨rfl, hB1⟩
        rw [← HZ.out]
        go_wp2_with fail
        exact bodyPost_ret (v := .tuple #[.int .i64 (lo : Nat), .bool (z == 0)]) (by simp [results, Tryz.results78, go_sem]) rfl ⟨by rw [HZQ.out, HP.out], Dsk.below_trans' HBR.out hB1⟩
      · have hi2 : ¬ (lo : Int) < (n : Int) := by omega
        have hq : isL l no = false := by
          unfold isL
          rw [hp, List.getElem?_eq_none (by have := HN.out; omega)]
        have HQ := Lib.hid hq
        clear hp hq
        go_wp2_with fail
        exact bodyPost_ret (v := .tuple #[.int .i64 (lo : Nat), .bool false]) (by simp [results, Tryz.results78, go_sem]) rfl ⟨by rw [HQ.out, HP.out], HBR.out⟩

set_option maxRecDepth 100000 in
set_option maxHeartbeats 400000 in
theorem find_calls (A : Option Addr) (n c : Nat) (l : List Lf) (no : Int) (w : World) (hr : Reads w 98 2 A n (lfCells l)) (hn : n = l.length) (hR : RiseL l) (hnm : n ≤ 1000) :
    Calls Tryz.prog 59 #[.slice A n c, .int .i64 no] w fun e w' => e = .returned (.tuple #[.int .i64 (posL l no : Nat), .bool (isL l no)]) ∧ Below w.heap.size w w' := by
  have H := Lib.hid (search_calls A n c l no w hr hn hR hnm)
  clear hr hn hR
  go_enter Tryz.func59, Tryz.ntmps59
  go_wp2_with fail
  with_reducible refine H.out.mono ?_
  rintro e w1 ⟨rfl, hB⟩
  go_wp2_with fail
  exact bodyPost_ret (v := .tuple #[.int .i64 (posL l no : Nat), .bool (isL l no)]) (by simp [results, Tryz.results59, go_sem]) rfl ⟨rfl, hB⟩

end Go.Proofs.YtgeiemccjionpaaGreat.Vlt
