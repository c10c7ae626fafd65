/- NameOrder: the walk. No statement is proved here. -/
import Derived.Test.YtkkflcikjmihaaaAwake
import Derived.BigQuiet
namespace Go.Proofs.Ytkkflcikjmihaaa
open Go.RowKit

theorem below_q {w u : World} {o : Obj} {n : Nat} (h : Below ((w.alloc o).drewN n).heap.size ((w.alloc o).drewN n) u) : Below w.heap.size w u :=
  Below.trans ((Below.refl w.heap.size w).alloc (Nat.le_refl _) o) ((show Below (w.alloc o).heap.size (w.alloc o) u from ⟨h.os, h.tape, h.output, h.size, h.block⟩).mono (by simp))
theorem below_a {w u : World} {o : Obj} (h : Below (w.alloc o).heap.size (w.alloc o) u) : Below w.heap.size w u :=
  Below.trans ((Below.refl w.heap.size w).alloc (Nat.le_refl _) o) (h.mono (by simp))

theorem less_irrefl (l : List UInt8) : Op.bytesLess l l = false := by
  induction l with
  | nil => rfl
  | cons x l ih =>
    rw [Op.bytesLess, ih]
    simp [UInt8.lt_irrefl]
theorem less_ne {l m : List UInt8} (h : Op.bytesLess l m = true) : (l == m) = false := by
  rw [beq_eq_false_iff_ne]
  rintro rfl
  rw [less_irrefl] at h
  cases h

set_option maxRecDepth 100000 in
set_option maxHeartbeats 8000000 in
theorem sorted_calls (l m : List UInt8) (x y : Nat) (w : World) (hx : x < 4294967296) (hy : y < 4294967296) :
    Calls Try.prog 4 #[.string (strB l), .string (strB m), .agg #[.int .u32 (x : Nat), .int .u32 (y : Nat)]] w fun e w' => e = .returned (.bool true) ∧ Below w.heap.size w w' := by
  have hnot : ∀ (x : Bool) (w : World), (Op.unary .not (.bool x)).run Try.prog w = .ok (.bool (!x)) w := fun _ _ => rfl
  have c0 : (w.alloc (.cells #[.int .u32 (x : Nat), .int .u32 (y : Nat)] 31)).cell? ⟨w.heap.size, 0, none⟩ = some (.int .u32 (x : Nat)) := by rw [cell_of_row _ _ _ _ _ _ (heap_alloc_new w _)]; rfl
  have c1 : (w.alloc (.cells #[.int .u32 (x : Nat), .int .u32 (y : Nat)] 31)).cell? ⟨w.heap.size, 1, none⟩ = some (.int .u32 (y : Nat)) := by rw [cell_of_row _ _ _ _ _ _ (heap_alloc_new w _)]; rfl
  cases hk : keyOK l with
  | false =>
    go_enter Try.func4, Try.ntmps4
    go_wp2_with fail
    (with_reducible refine (key_calls l _).mono ?_)
    rintro e w1 ⟨rfl, rfl⟩
    rw [hk]
    go_wp2_with fail
    (with_reducible refine (awake_true _).mono ?_)
    rintro e w3 ⟨rfl, hB3⟩
    go_wp2_with fail
    go_ret
    exact ⟨rfl, below_a hB3⟩
  | true =>
    cases hk2 : keyOK m with
    | false =>
      go_enter Try.func4, Try.ntmps4
      go_wp2_with fail
      (with_reducible refine (key_calls l _).mono ?_)
      rintro e w1 ⟨rfl, rfl⟩
      rw [hk]
      go_wp2_with fail
      (with_reducible refine (key_calls m _).mono ?_)
      rintro e w1 ⟨rfl, rfl⟩
      rw [hk2]
      go_wp2_with fail
      (with_reducible refine (awake_true _).mono ?_)
      rintro e w3 ⟨rfl, hB3⟩
      go_wp2_with fail
      go_ret
      exact ⟨rfl, below_a hB3⟩
    | true =>
      obtain ⟨_, hl, nl⟩ := (keyOK_is l).1 hk
      obtain ⟨_, hm, nm⟩ := (keyOK_is m).1 hk2
      have e1 := strB_toList l
      have e2 := strB_toList m
      have HL := Lib.hid (index_less l ((x : Int) / 2) ((y : Int) / 2) (by omega) (by omega) (by omega) (by omega) m nl nm)
      have HE := Lib.hid (index_eq l m ((x : Int) / 2) ((y : Int) / 2) (by omega) (by omega) (by omega) (by omega))
      have e3 := strB_toList (indexL l ((x : Int) / 2))
      have e4 := strB_toList (indexL m ((y : Int) / 2))
      have HB := Lib.hid (back_index l ((x : Int) / 2) hk (by omega) (by omega))
      clear nl nm
      cases hst : Op.bytesLess l m with
      | true =>
        have hL := HL.out
        have hE := HE.out
        have hne := less_ne hst
        rw [hst, Bool.true_or] at hL
        rw [hne, Bool.false_and] at hE
        go_enter Try.func4, Try.ntmps4
        go_wp2_with fail
        (with_reducible refine (key_calls l _).mono ?_)
        rintro e w1 ⟨rfl, rfl⟩
        rw [hk]
        go_wp2_with fail
        (with_reducible refine (key_calls m _).mono ?_)
        rintro e w1 ⟨rfl, rfl⟩
        rw [hk2]
        go_wp2_with fail
        go_quiet (fail)
        go_wp2_with fail
        (with_reducible refine (index_calls l ((x : Int) / 2) _ (by omega) (by omega) (by omega)).mono ?_)
        rintro e w2 ⟨rfl, hB2⟩
        have B2 := Lib.hid (below_q hB2)
        clear hB2
        go_wp2_with fail
        (with_reducible refine (index_calls m ((y : Int) / 2) _ (by omega) (by omega) (by omega)).mono ?_)
        rintro e w3 ⟨rfl, hB3⟩
        have B3 := Lib.hid (below_two B2.out hB3)
        clear hB3 B2
        go_wp2_with fail
        (with_reducible refine (back_calls (indexL l ((x : Int) / 2)) _ (by simp [indexL, nb_len]; omega)).mono ?_)
        rintro e w4 ⟨rfl, rfl⟩
        rw [HB.out.1, HB.out.2.1, HB.out.2.2]
        go_wp2_with fail
        (with_reducible refine (awake_true _).mono ?_)
        rintro e w5 ⟨rfl, hB5⟩
        have B5 := Lib.hid (below_two B3.out hB5)
        clear hB5 B3
        go_wp2_with fail
        go_ret
        exact ⟨rfl, B5.out⟩
      | false =>
        cases hne : (l == m) with
        | false =>
          have hL := HL.out
          have hE := HE.out
          rw [hst, hne, Bool.false_and, Bool.false_or] at hL
          rw [hne, Bool.false_and] at hE
          go_enter Try.func4, Try.ntmps4
          go_wp2_with fail
          (with_reducible refine (key_calls l _).mono ?_)
          rintro e w1 ⟨rfl, rfl⟩
          rw [hk]
          go_wp2_with fail
          (with_reducible refine (key_calls m _).mono ?_)
          rintro e w1 ⟨rfl, rfl⟩
          rw [hk2]
          go_wp2_with fail
          go_quiet (fail)
          go_wp2_with fail
          (with_reducible refine (index_calls l ((x : Int) / 2) _ (by omega) (by omega) (by omega)).mono ?_)
          rintro e w2 ⟨rfl, hB2⟩
          have B2 := Lib.hid (below_q hB2)
          clear hB2
          go_wp2_with fail
          (with_reducible refine (index_calls m ((y : Int) / 2) _ (by omega) (by omega) (by omega)).mono ?_)
          rintro e w3 ⟨rfl, hB3⟩
          have B3 := Lib.hid (below_two B2.out hB3)
          clear hB3 B2
          go_wp2_with fail
          (with_reducible refine (back_calls (indexL l ((x : Int) / 2)) _ (by simp [indexL, nb_len]; omega)).mono ?_)
          rintro e w4 ⟨rfl, rfl⟩
          rw [HB.out.1, HB.out.2.1, HB.out.2.2]
          go_wp2_with fail
          (with_reducible refine (awake_true _).mono ?_)
          rintro e w5 ⟨rfl, hB5⟩
          have B5 := Lib.hid (below_two B3.out hB5)
          clear hB5 B3
          go_wp2_with fail
          go_ret
          exact ⟨rfl, B5.out⟩
        | true =>
          have hL := HL.out
          have hE := HE.out
          rw [hst, hne, Bool.true_and, Bool.false_or] at hL
          rw [hne, Bool.true_and] at hE
          have hq : ((x : Int) / 2 == (y : Int) / 2) = decide ((x : Int) / 2 = (y : Int) / 2) := by rw [Bool.eq_iff_iff]; simp
          go_enter Try.func4, Try.ntmps4
          go_wp2_with fail
          (with_reducible refine (key_calls l _).mono ?_)
          rintro e w1 ⟨rfl, rfl⟩
          rw [hk]
          go_wp2_with fail
          (with_reducible refine (key_calls m _).mono ?_)
          rintro e w1 ⟨rfl, rfl⟩
          rw [hk2]
          go_wp2_with fail
          go_quiet (fail)
          go_wp2_with fail
          (with_reducible refine (index_calls l ((x : Int) / 2) _ (by omega) (by omega) (by omega)).mono ?_)
          rintro e w2 ⟨rfl, hB2⟩
          have B2 := Lib.hid (below_q hB2)
          clear hB2
          go_wp2_with fail
          (with_reducible refine (index_calls m ((y : Int) / 2) _ (by omega) (by omega) (by omega)).mono ?_)
          rintro e w3 ⟨rfl, hB3⟩
          have B3 := Lib.hid (below_two B2.out hB3)
          clear hB3 B2
          go_wp2_with fail
          (with_reducible refine (back_calls (indexL l ((x : Int) / 2)) _ (by simp [indexL, nb_len]; omega)).mono ?_)
          rintro e w4 ⟨rfl, rfl⟩
          rw [HB.out.1, HB.out.2.1, HB.out.2.2]
          go_wp2_with fail
          (with_reducible refine (awake_true _).mono ?_)
          rintro e w5 ⟨rfl, hB5⟩
          have B5 := Lib.hid (below_two B3.out hB5)
          clear hB5 B3
          go_wp2_with fail
          go_ret
          refine ⟨ret_bool ?_, B5.out⟩
          rw [Bool.eq_iff_iff]
end Go.Proofs.Ytkkflcikjmihaaa
