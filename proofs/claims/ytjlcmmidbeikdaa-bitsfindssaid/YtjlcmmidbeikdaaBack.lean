/- BitsBack: the walk. No statement is proved here. -/
import Derived.Test.YtjlcmmidbeikdaaAwake
namespace Go.Proofs.Ytjlcmmidbeikdaa
open Go.RowKit Go.Sort

theorem capN_nat (n : Nat) (h : n ≤ 512) : capN (n : Int) = n := by unfold capN; omega
theorem strEq (l : List UInt8) : ((strB l).toList == (strB l).toList) = true := by simp

/-- Some, where there are as many. -/
theorem some_is (l : List UInt8) (N k : Nat) (w : World) (hl : l.length ≤ 300) (hN : N ≤ 512) (hk : k ≤ 1000) (h : k ≤ freeN l N) :
    Calls Try.prog 10 #[.string (strB l), .int .i64 (N : Nat), .int .i64 (k : Nat)] w fun e w' => ∃ A n c, e = .returned (.tuple #[.slice A n c, .bool true]) ∧ Sps w' (.slice A n c) (runsN l k N) ∧ Below w.heap.size w w' := by
  have hs := some_calls l N k w hl (by omega)
  obtain ⟨e1, e2⟩ := some_yes (l := l) (pages := N) (n := (k : Int)) (N := N) (k := k) (i := N) (capN_nat N hN).symm (by omega) h (Nat.le_refl _)
  rw [e1, e2] at hs
  refine hs.mono fun e w' hh => ?_
  obtain ⟨v, he, ho, hb⟩ := hh
  obtain ⟨A, c, hv⟩ := ho.sps.form
  subst hv
  exact ⟨A, _, c, he, ho.sps, hb⟩
theorem some_isnt (l : List UInt8) (N k : Nat) (w : World) (hl : l.length ≤ 300) (hN : N ≤ 512) (hk : k ≤ 1000) (h : ¬ k ≤ freeN l N) :
    Calls Try.prog 10 #[.string (strB l), .int .i64 (N : Nat), .int .i64 (k : Nat)] w fun e w' => ∃ A n c, e = .returned (.tuple #[.slice A n c, .bool false]) ∧ Below w.heap.size w w' := by
  have hs := some_calls l N k w hl (by omega)
  obtain ⟨e1, e2⟩ := some_no (l := l) (pages := N) (n := (k : Int)) (N := N) (k := k) (capN_nat N hN).symm (by omega) (by omega)
  rw [e1, e2] at hs
  refine hs.mono fun e w' hh => ?_
  obtain ⟨v, he, ho, hb⟩ := hh
  obtain ⟨A, c, hv⟩ := ho.sps.form
  subst hv
  exact ⟨A, _, c, he, hb⟩
theorem free_nat (l : List UInt8) (N : Nat) (w : World) (hl : l.length ≤ 300) (hN : N ≤ 512) :
    Calls Try.prog 16 #[.string (strB l), .int .i64 (N : Nat)] w fun e w' => e = .returned (.int .i64 (freeN l N : Nat)) ∧ Below w.heap.size w w' := by
  have h := free_calls l N w hl
  rw [capN_nat N hN] at h
  exact h

set_option maxRecDepth 100000 in
set_option maxHeartbeats 4000000 in
theorem back_few (l : List UInt8) (a b : Nat) (w : World) (hl : l.length = 208) (ha : a < 65536) (hb : b < 65536) :
    Calls Try.prog 6 #[.string (strB l), .agg #[.int .u16 (a : Nat), .int .u16 (b : Nat)]] w fun e w' => e = .returned (.bool true) ∧ Below w.heap.size w w' := by
  have hs := strB_size l
  rw [hl] at hs
  have hl3 : l.length ≤ 300 := by omega
  have h64 : 64 ≤ l.length := by omega
  obtain ⟨N, hN⟩ : ∃ N, N = a % 513 := ⟨_, rfl⟩
  obtain ⟨k, hk⟩ : ∃ k, k = 1 + b % 30 := ⟨_, rfl⟩
  have hN5 : N ≤ 512 := by omega
  have hk1 : k ≤ 30 := by omega
  have e1 : (a : Int) % 513 = (N : Int) := by omega
  have e2 : 1 + (b : Int) % 30 = (k : Int) := by omega
  have E1 := Lib.hid e1
  have E2 := Lib.hid e2
  have HK := Lib.hid (mark_back l k N hN5)
  have HF := Lib.hid (freeN_marked l k N hN5 h64 N (Nat.le_refl _))
  have HR : Hid (rootN (markL l true (runsN l k N)) = rootN l) := Lib.hid (rootN_same (markL_len _ _ _) (markL_drop _ _ _))
  have HA := Lib.hid (runs_is l k N).all
  have HLen := Lib.hid (runsN_len l k N)
  have hfl := freeN_le l N
  have HX : Hid ((markL l true (runsN l k N)).length ≤ 300) := Lib.hid (by rw [markL_len]; exact hl3)
  clear e1 e2 hN hk h64 hl
  go_enter Try.func6, Try.ntmps6
  go_wp2_with fail
  go_quiet (fail)
  rw [E1.out, E2.out]
  have HB : Hid (Below w.heap.size w ((w.alloc (Obj.cells #[Value.int IntKind.u16 (a : Nat), Value.int IntKind.u16 (b : Nat)] 41)).drewN nq)) := Lib.hid (bdrewN (below_one _ _) _)
  generalize (w.alloc (Obj.cells #[Value.int IntKind.u16 (a : Nat), Value.int IntKind.u16 (b : Nat)] 41)).drewN nq = w0 at *
  by_cases hfk : k ≤ freeN l N
  · go_wp2_with fail
    (with_reducible refine (some_is l N k _ hl3 hN5 (by omega) hfk).mono ?_)
    rintro e w1 ⟨A, n, c, rfl, hS, hB⟩
    have hn : n ≤ 512 := by have := hS.at_.1; have := HLen.out; omega
    replace HB := Lib.hid (below_trans2 HB.out hB)
    have HS := Lib.hid hS
    clear hB hS
    go_wp2_with fail
    (with_reducible refine (mark_calls l true (runsN l k N) A n c _ hl3 HS.out (by omega) (fun x hx => by have := HA.out x hx; omega)).mono ?_)
    rintro e w2 ⟨rfl, hB⟩
    replace HB := Lib.hid (below_trans2 HB.out hB)
    replace HS := Lib.hid (HS.out.below hB)
    clear hB
    go_wp2_with fail
    (with_reducible refine (awake_true _).mono ?_)
    rintro e w3 ⟨rfl, hB⟩
    replace HB := Lib.hid (below_trans2 HB.out hB)
    replace HS := Lib.hid (HS.out.below hB)
    clear hB
    go_wp2_with fail
    (with_reducible refine (mark_calls (markL l true (runsN l k N)) false (runsN l k N) A n c _ HX.out HS.out (by omega) (fun x hx => by have := HA.out x hx; omega)).mono ?_)
    rintro e w4 ⟨rfl, hB⟩
    rw [HK.out]
    replace HB := Lib.hid (below_trans2 HB.out hB)
    clear hB
    go_wp2_with fail
    (with_reducible refine (free_nat _ N _ HX.out hN5).mono ?_)
    rintro e w5 ⟨rfl, hB⟩
    rw [HF.out]
    replace HB := Lib.hid (below_trans2 HB.out hB)
    clear hB
    go_wp2_with fail
    (with_reducible refine (free_nat l N _ hl3 hN5).mono ?_)
    rintro e w6 ⟨rfl, hB⟩
    replace HB := Lib.hid (below_trans2 HB.out hB)
    have hfe : (((freeN l N - k : Nat) : Int) == (freeN l N : Int) - (k : Int)) = true := by rw [beq_iff_eq]; omega
    clear hB
    go_wp2_with fail
    (with_reducible refine (root_calls _ _ HX.out).mono ?_)
    rintro e w7 ⟨rfl, hB⟩
    rw [HR.out]
    replace HB := Lib.hid (below_trans2 HB.out hB)
    clear hB
    go_wp2_with fail
    (with_reducible refine (root_calls l _ hl3).mono ?_)
    rintro e w8 ⟨rfl, hB⟩
    replace HB := Lib.hid (below_trans2 HB.out hB)
    clear hB
    go_wp2_with fail
    go_ret
    exact ⟨ret_bool (by simp), HB.out⟩
  · go_wp2_with fail
    (with_reducible refine (some_isnt l N k _ hl3 hN5 (by omega) hfk).mono ?_)
    rintro e w1 ⟨A, n, c, rfl, hB⟩
    replace HB := Lib.hid (below_trans2 HB.out hB)
    clear hB
    go_wp2_with fail
    (with_reducible refine (awake_true _).mono ?_)
    rintro e w3 ⟨rfl, hB⟩
    replace HB := Lib.hid (below_trans2 HB.out hB)
    clear hB
    go_wp2_with fail
    go_ret
    exact ⟨rfl, HB.out⟩

set_option maxRecDepth 100000 in
set_option maxHeartbeats 4000000 in
theorem back_calls (s : ByteArray) (a b : Nat) (w : World) (ha : a < 65536) (hb : b < 65536) :
    Calls Try.prog 6 #[.string s, .agg #[.int .u16 (a : Nat), .int .u16 (b : Nat)]] w fun e w' => e = .returned (.bool true) ∧ Below w.heap.size w w' := by
  by_cases h : s.size = 208
  · have := back_few s.data.toList a b w (by rw [← strB_size, strB_of]; exact h) ha hb
    rw [strB_of] at this
    exact this
  · have g : ((s.size : Int) != 208) = true := by simp; omega
    go_enter Try.func6, Try.ntmps6
    go_wp2_with fail
    (with_reducible refine (awake_true _).mono ?_)
    rintro e w3 ⟨rfl, hB⟩
    have HB := Lib.hid (below_trans2 (below_one _ _) hB)
    clear hB
    go_wp2_with fail
    go_ret
    exact ⟨rfl, HB.out⟩

end Go.Proofs.Ytjlcmmidbeikdaa
