/- FreshBack: the walk. No statement is proved here. -/
import Derived.Test.YtkfjbhikibidiaaApart
import Derived.Test.YtkfjbhikibidiaaCTurn
import Derived.BigRegion
import Derived.IntWalk
namespace Go.Proofs.Ytkfjbhikibidiaa
open Go.RowKit
open Crc (Only RowB bur oth bur_len bur_at bur_step bur_zero bur_getD bur_opens oth_step opens getD_of ext_getD)

theorem ne8 (Y : UInt8) : ((Y.toNat : Int) != 0) = (Y != 0) := by
  rw [Bool.eq_iff_iff, bne_iff_ne, bne_iff_ne]
  constructor
  · intro h e; subst e; exact h rfl
  · intro h e
    exact h (UInt8.toNat_inj.1 (by show Y.toNat = 0; omega))

/-- Bytes that aren't other leave all as it was. -/
theorem bur_same {x f : List UInt8} {k i : Nat} (hf : i ≤ f.length) (h : k + i ≤ x.length) (ho : oth f i = false) : bur x k f i = x := by
  refine ext_getD (bur_len hf h) fun j => ?_
  rw [bur_getD hf h]
  by_cases g : k ≤ j ∧ j < k + i
  · rw [if_pos g]
    have hz : f.getD (j - k) 0 = 0 := by
      unfold oth at ho
      rw [List.any_eq_false] at ho
      have hj : j - k < f.length := by omega
      have hm : f[j - k] ∈ f.take i := by
        rw [List.mem_take_iff_getElem]
        exact ⟨j - k, by omega, rfl⟩
      have := ho _ hm
      rw [getD_of hj]
      simpa using this
    rw [hz]
    simp
  · rw [if_neg g]
    simp

/-- Up to four other bytes side by side are told. -/
theorem turned {r : Rec} (hr : rightR r = true) {f : List UInt8} {k i : Nat} (hf : i ≤ f.length) (h4 : i ≤ 4) (h : k + i ≤ (printL r).length) : isRec (bur (printL r) k f i) = !oth f i := by
  cases ho : oth f i with
  | false =>
    rw [bur_same hf h ho]
    exact (parse_print hr).1
  | true =>
    have h10 := (right_len hr).1
    have := bur_opens hf h4 h (by omega) (Crc.opens_seal (bodyL r))
    unfold isRec
    rw [this, ho]
    rfl

theorem turn_calls (l : List UInt8) (o : Bool) (w : World) (hl : l.length ≤ 5000) (ho : isRec l = !o) :
    Calls Try.prog 9 #[.string (strB l)] w fun e w' => ∃ R A n c, e = .returned (.tuple #[recV R (.slice A n c), .bool (!o)]) ∧ Below w.heap.size w w' := by
  refine (parse_calls l w (by omega)).mono ?_
  rintro e w' ⟨A, n, c, rfl, _, hB⟩
  rw [ho]
  exact ⟨_, A, n, c, rfl, hB⟩

theorem more_calls (r : Rec) (hr : rightR r = true) (w : World) :
    Calls Try.prog 9 #[.string (strB (printL r) ++ ⟨#[120]⟩)] w fun e w' => ∃ A n c, e = .returned (.tuple #[recV zeroR (.slice A n c), .bool false]) ∧ Below w.heap.size w w' := by
  rw [show (⟨#[120]⟩ : ByteArray) = strB [120] from rfl, strB_append]
  exact none_calls _ (by rw [List.length_append]; have := (right_len hr).2; simp; omega) (parse_more hr 120) w

theorem same_self (r : Rec) (A : Option Addr) (n c : Nat) (A' : Option Addr) (n' c' : Nat) (w : World) (hv : Sps w (.slice A n c) r.spans) (hu : Sps w (.slice A' n' c') r.spans) (hlen : n ≤ 1000) :
    Calls Try.prog 10 #[recV r (.slice A n c), recV r (.slice A' n' c')] w fun e w' => e = .returned (.bool true) ∧ Below w.heap.size w w' := by
  have h := same_calls r r A n c A' n' c' w hv hu hlen
  rw [decide_eq_true rfl] at h
  exact h

/-- What lies when the record and the bytes are there. -/
structure BK (w W : World) (r : Rec) (A : Option Addr) (n c : Nat) (b0 b1 b2 b3 : UInt8) : Prop where
  x : RBox W w.heap.size r (.slice A n c)
  y : W.heap[w.heap.size + 1]? = some (.cells #[.int .u8 b0.toNat, .int .u8 b1.toNat, .int .u8 b2.toNat, .int .u8 b3.toNat] 28 (0, 0))
  u : Sps W (.slice A n c) r.spans
  below : Below w.heap.size w W
section
variable {w W W' : World} {r : Rec} {A : Option Addr} {n c : Nat} {b0 b1 b2 b3 : UInt8}
theorem BK.more (h : BK w W r A n c b0 b1 b2 b3) (hb : Below W.heap.size W W') : BK w W' r A n c b0 b1 b2 b3 :=
  ⟨h.x.below hb, (hb.block _ (Array.getElem?_eq_some_iff.1 h.y).1).trans h.y, h.u.below hb, below_trans' h.below hb⟩
theorem BK.new (hv : Sps w (.slice A n c) r.spans) : BK w ((w.alloc (.cells (recC r (.slice A n c)) 26)).alloc (.cells #[.int .u8 b0.toNat, .int .u8 b1.toNat, .int .u8 b2.toNat, .int .u8 b3.toNat] 28)) r A n c b0 b1 b2 b3 := by
  have hB := below_trans' (below_one w (.cells (recC r (.slice A n c)) 26)) (below_one (w.alloc (.cells (recC r (.slice A n c)) 26)) (.cells #[.int .u8 b0.toNat, .int .u8 b1.toNat, .int .u8 b2.toNat, .int .u8 b3.toNat] 28))
  refine ⟨(RBox.new w _ _).below (below_one _ _), ?_, hv.below hB, hB⟩
  have := heap_alloc_new (w.alloc (.cells (recC r (.slice A n c)) 26)) (.cells #[.int .u8 b0.toNat, .int .u8 b1.toNat, .int .u8 b2.toNat, .int .u8 b3.toNat] 28)
  rw [show (w.alloc (.cells (recC r (.slice A n c)) 26)).heap.size = w.heap.size + 1 by simp] at this
  exact this
end

set_option maxRecDepth 100000 in
set_option maxHeartbeats 16000000 in
theorem back_law (r : Rec) (A : Option Addr) (n c : Nat) (at_ : Nat) (b0 b1 b2 b3 : UInt8) (w : World) (hv : Sps w (.slice A n c) r.spans) (hz : SzR r) (ha : at_ < 65536) :
    Calls Try.prog 3 #[recV r (.slice A n c), .int .u16 at_, .agg #[.int .u8 b0.toNat, .int .u8 b1.toNat, .int .u8 b2.toNat, .int .u8 b3.toNat]] w fun e w' => e = .returned (.bool true) ∧ Below w.heap.size w w' := by
  have C1 := Lib.hid (fun W => small_calls r A n c W hv.at_.1 hz)
  have C3 := Lib.hid (fun (hs : smallB r = true) W h => right_calls r A n c W h (by have := small_len hs; have := hv.at_.1; omega))
  have C5 := Lib.hid (fun (hs : smallB r = true) W h => print_calls r A n c W h (by have := small_len hs; have := hv.at_.1; omega))
  have C7 := Lib.hid (fun A' n' c' W h1 h2 h3 => same_self r A' n' c' A n c W h1 h2 h3)
  unfold recV at C1 C3 C5 C7
  have HN := Lib.hid hv.at_.1
  obtain ⟨Y, hY, hBK⟩ : ∃ Y, Y = (w.alloc (.cells (recC r (.slice A n c)) 26)).alloc (.cells #[.int .u8 b0.toNat, .int .u8 b1.toNat, .int .u8 b2.toNat, .int .u8 b3.toNat] 28) ∧ BK w Y r A n c b0 b1 b2 b3 := ⟨_, rfl, BK.new hv⟩
  unfold recC at hY
  have HY := Lib.hid hY
  have HP := Lib.hid hBK
  clear hY hBK hv hz
  unfold recV
  cases s1 : smallB r with
  | false =>
    go_enter Try.func3, Try.ntmps3
    go_wp2_with fail
    rw [← HY.out]
    (with_reducible refine (C1.out _).mono ?_)
    rintro e w1 ⟨rfl, hB1⟩
    rw [s1]
    go_wp2_with fail
    (with_reducible refine (awake_true _).mono ?_)
    rintro e w2 ⟨rfl, hB2⟩
    go_wp2_with fail
    go_ret
    exact ⟨rfl, ((HP.out.more hB1).more hB2).below⟩
  | true =>
    go_enter Try.func3, Try.ntmps3
    go_wp2_with fail
    rw [← HY.out]
    clear HY
    (with_reducible refine (C1.out _).mono ?_)
    rintro e w1 ⟨rfl, hB1⟩
    rw [s1]
    replace HP := Lib.hid (HP.out.more hB1)
    clear hB1
    obtain ⟨k0, k1, k2, k3, k4, k5, k6, k7, k8⟩ := HP.out.x.at_
    go_wp2_with fail
    (with_reducible refine (C3.out s1 _ HP.out.u).mono ?_)
    rintro e w2 ⟨rfl, hB2⟩
    replace HP := Lib.hid (HP.out.more hB2)
    clear hB2 k0 k1 k2 k3 k4 k5 k6 k7 k8
    cases r1 : rightR r with
    | false =>
      go_wp2_with fail
      (with_reducible refine (awake_true _).mono ?_)
      rintro e w5 ⟨rfl, hB5⟩
      go_wp2_with fail
      go_ret
      exact ⟨rfl, (HP.out.more hB5).below⟩
    | true =>
      obtain ⟨k0, k1, k2, k3, k4, k5, k6, k7, k8⟩ := HP.out.x.at_
      go_wp2_with fail
      (with_reducible refine (C5.out s1 _ HP.out.u).mono ?_)
      rintro e w3 ⟨rfl, hB3⟩
      replace HP := Lib.hid (HP.out.more hB3)
      clear hB3 k0 k1 k2 k3 k4 k5 k6 k7 k8
      go_wp2_with fail
      (with_reducible refine (back_calls r r1 _).mono ?_)
      rintro e w4 ⟨A4, n4, c4, rfl, hS4, hB4⟩
      have HX4 := Lib.hid (RBox.new w4 r (.slice A4 n4 c4))
      have hB4' := below_trans' hB4 (below_one w4 (.cells (recC r (.slice A4 n4 c4)) 26))
      have HS4 := Lib.hid (hS4.below (below_one w4 (.cells (recC r (.slice A4 n4 c4)) 26)))
      replace HP := Lib.hid (HP.out.more hB4')
      have HN4 : Hid (n4 ≤ 1000) := Lib.hid (by have := hS4.at_.1; have := small_len s1; omega)
      clear hS4 hB4 hB4'
      obtain ⟨Z4, hZ4⟩ : ∃ Z, Z = w4.alloc (.cells (recC r (.slice A4 n4 c4)) 26) := ⟨_, rfl⟩
      rw [← hZ4] at HX4 HS4 HP
      have HZ4 := Lib.hid hZ4
      unfold recC at HZ4
      clear hZ4
      obtain ⟨k0, k1, k2, k3, k4, k5, k6, k7, k8⟩ := HP.out.x.at_
      obtain ⟨m0, m1, m2, m3, m4, m5, m6, m7, m8⟩ := HX4.out.at_
      rw [HZ4.out] at k0 k1 k2 k3 k4 k5 k6 k7 k8 m0 m1 m2 m3 m4 m5 m6 m7 m8
      unfold recV
      go_wp2_with fail
      rw [← HZ4.out]
      clear k0 k1 k2 k3 k4 k5 k6 k7 k8 m0 m1 m2 m3 m4 m5 m6 m7 m8 HZ4
      (with_reducible refine (C7.out _ _ _ _ HS4.out HP.out.u HN4.out).mono ?_)
      rintro e w5 ⟨rfl, hB5⟩
      replace HP := Lib.hid (HP.out.more hB5)
      clear hB5 HX4 HS4 HN4
      have HL := Lib.hid (right_len r1)
      obtain ⟨L, hL⟩ : ∃ L, L = printL r := ⟨_, rfl⟩
      have HLL := Lib.hid hL
      have HLE : Hid (printL r = L) := Lib.hid hL.symm
      rw [← hL] at HL
      have hsz : (strB L).size = L.length := strB_size L
      have h10 : 10 ≤ (strB L).size := by rw [hsz]; exact HL.out.1
      have h200 : (strB L).size ≤ 200 := by rw [hsz]; exact HL.out.2
      have HSZ := Lib.hid hsz
      have g10 : ¬ ((strB L).size : Int) < 10 := by omega
      clear hL hsz
      rw [HLE.out]
      have hcv := run_bytes_of_string (P := Try.prog) w5 9 35 5 (strB L) Try.underlying9 Try.underlying35 Try.underlying5
      go_wp2_with fail
      clear hcv
      generalize grownCap w5 (strB L).size 0 5 = cap
      have hR0 : RowB ((w5.alloc (Obj.cells (bytesRow (strB L) cap) 5 ((bytesRow (strB L) cap).size, (bytesRow (strB L) cap).size + 1))).drew) w5.heap.size L := RowB.new w5 L cap
      have hP0 : BK w ((w5.alloc (Obj.cells (bytesRow (strB L) cap) 5 ((bytesRow (strB L) cap).size, (bytesRow (strB L) cap).size + 1))).drew) r A n c b0 b1 b2 b3 := HP.out.more (bdrew (below_one _ _))
      have hgb : w.heap.size + 1 < w5.heap.size := (Array.getElem?_eq_some_iff.1 HP.out.y).1
      generalize ((w5.alloc (Obj.cells (bytesRow (strB L) cap) 5 ((bytesRow (strB L) cap).size, (bytesRow (strB L) cap).size + 1))).drew) = W0 at *
      obtain ⟨k, hk⟩ : ∃ k : Nat, (at_ : Int) % ((strB L).size : Int) = (k : Int) := ⟨at_ % (strB L).size, by simp⟩
      have hkn : k < (strB L).size := by have := Int.emod_lt_of_pos (at_ : Int) (show 0 < ((strB L).size : Int) by omega); omega
      simp only [hk]
      have hgw : w.heap.size + 1 ≠ w5.heap.size := by omega
      clear hk HP
      generalize w5.heap.size = g at *
      have HR0 := Lib.hid hR0
      have HP := Lib.hid hP0
      have HR1 := Lib.hid r1
      clear hR0 hP0 C1 C3 C5 C7 HN s1 r1
      go_loopw [12, 13] (fun o v wr => ∃ i : Nat, i ≤ 4 ∧ k + i ≤ (strB L).size ∧ v = .int .i64 i ∧ o = .bool (oth [b0, b1, b2, b3] i) ∧ RowB wr g (bur L k [b0, b1, b2, b3] i) ∧ Only g W0 wr) (fun _ v _ => 4 - (intOf v).toNat)
      case atStart => exact ⟨0, Nat.zero_le _, by omega, rfl, rfl, by rw [bur_zero (by rw [← HSZ.out]; omega)]; exact HR0.out, Only.refl _ _⟩
      case round =>
        obtain ⟨i, hi, hki, rfl, rfl, hR, hO⟩ := hrel
        by_cases hc : i < 4 ∧ k + i < (strB L).size
        · obtain ⟨hi4, hkl⟩ := hc
          have hbl := bur_len (x := L) (k := k) (f := [b0, b1, b2, b3]) (i := i) hi (by rw [← HSZ.out]; omega)
          have c1 := hR.cell (j := k + i) (by rw [hbl, ← HSZ.out]; omega)
          rw [bur_at hi (by rw [← HSZ.out]; omega)] at c1
          have c2 := hR.free (j := k + i) (by rw [hbl, ← HSZ.out]; omega)
          have c3 : wr.cell? ⟨w.heap.size + 1, i, none⟩ = some (.int .u8 (([b0, b1, b2, b3].getD i 0).toNat : Nat)) := by
            rw [hO.cell (by exact hgw), Go.Joins.cell_of_block HP.out.y]
            have : i = 0 ∨ i = 1 ∨ i = 2 ∨ i = 3 := by omega
            rcases this with rfl | rfl | rfl | rfl <;> rfl
          have HS := Lib.hid (bur_step (x := L) (k := k) (f := [b0, b1, b2, b3]) (i := i) (by simp; omega) (by rw [← HSZ.out]; omega))
          have HT := Lib.hid (oth_step (f := [b0, b1, b2, b3]) (i := i) (by simp; omega))
          have HR := Lib.hid hR
          have HOn := Lib.hid hO
          clear hR hO hbl
          have hgo : ∀ (X Y : UInt8), bits .xor .u8 (X.toNat : Int) (Y.toNat : Int) = ((X.toNat ^^^ Y.toNat : Nat) : Int) := fun X Y => by
            exact u8_xor_nat _ _ X.toNat_lt Y.toNat_lt
          generalize L.getD (k + i) 0 = X at *
          generalize [b0, b1, b2, b3].getD i 0 = Y at *
          have hx := hgo X Y
          clear hgo
          go_wp2
          have w1' : IntKind.i64.wrap ((k : Int) + (i : Int)) = (k : Int) + i := IntWalk.i64_in _ (by omega)
          have w2' : ((k : Int) + (i : Int)).toNat = k + i := by omega
          have w3' : (0 : Int) ≤ (k : Int) + i := by omega
          have w4' : ((k : Int) + (i : Int)) < ((strB L).size : Int) := by omega
          have w5' : k + i < (strB L).size := by omega
          go_region
          clear w1' w2' w3' w4' w5'
          have hR2 : RowB (wr.setCell ⟨g, k + i, none⟩ (.int .u8 ((X.toNat ^^^ Y.toNat : Nat) : Int))).drew g (bur L k [b0, b1, b2, b3] (i + 1)) := by
            rw [HS.out, ← UInt8.toNat_xor]
            exact RowB.keep (HR.out.set (j := k + i) (by rw [bur_len hi (by rw [← HSZ.out]; omega), ← HSZ.out]; omega) (X ^^^ Y)) rfl
          have hO2 : Only g W0 (wr.setCell ⟨g, k + i, none⟩ (.int .u8 ((X.toNat ^^^ Y.toNat : Nat) : Int))).drew := (HOn.out.setCell _ rfl _).drew
          have c4 : (wr.setCell ⟨g, k + i, none⟩ (.int .u8 ((X.toNat ^^^ Y.toNat : Nat) : Int))).drew.cell? ⟨w.heap.size + 1, i, none⟩ = some (.int .u8 (Y.toNat : Nat)) := by
            rw [World.cell?_drew, World.cell?_setCell_other _ _ _ _ (fun h => hgw (congrArg Addr.block h).symm)]; exact c3
          have HR2 := Lib.hid hR2
          have HO2 := Lib.hid hO2
          clear hR2 hO2 c1 c2 c3 hx HS HR HOn
          generalize (wr.setCell ⟨g, k + i, none⟩ (.int .u8 ((X.toNat ^^^ Y.toNat : Nat) : Int))).drew = wr2 at *
          generalize oth [b0, b1, b2, b3] i = o at *
          cases o with
          | true =>
            go_wp2
            go_roundw
            case rel => exact ⟨i + 1, by omega, by omega, by go_num, by rw [HT.out]; rfl, HR2.out, HO2.out⟩
            case measure => simp [intOf]; omega
          | false =>
            go_wp2
            go_roundw
            case rel => exact ⟨i + 1, by omega, by omega, by go_num, by rw [HT.out, ne8, Bool.false_or], HR2.out, HO2.out⟩
            case measure => simp [intOf]; omega
        · have hbl : (bur L k [b0, b1, b2, b3] i).length = (strB L).size := by
            rw [bur_len (by simpa using hi) (by rw [← HSZ.out]; omega), HSZ.out]
          have hcv := hR.back cap
          rw [hbl] at hcv
          have hop : isRec (bur L k [b0, b1, b2, b3] i) = !oth [b0, b1, b2, b3] i := by
            rw [HLL.out]
            exact turned HR1.out (by simpa using hi) hi (by rw [← HLL.out, ← HSZ.out]; omega)
          have hsz : (bur L k [b0, b1, b2, b3] i).length ≤ 5000 := by rw [hbl]; omega
          have HB2 : Hid (Below w.heap.size w wr) := Lib.hid (HP.out.below.trans (hO.below (by omega)))
          have CM : Hid (∀ W, Calls Try.prog 9 #[.string (strB L ++ ⟨#[120]⟩)] W fun e w' => ∃ A n c, e = .returned (.tuple #[recV zeroR (.slice A n c), .bool false]) ∧ Below W.heap.size W w') := Lib.hid (fun W => by rw [HLL.out]; exact more_calls r HR1.out W)
          generalize bur L k [b0, b1, b2, b3] i = B at *
          generalize oth [b0, b1, b2, b3] i = o at *
          have HOP := Lib.hid hop
          have HZ5 := Lib.hid hsz
          have hz2 : ¬ 9223372036854775807 < (strB L).size + 1 := by omega
          clear hop hsz hbl hR hO
          by_cases hi4 : i < 4
          · have hkl : ¬ ((k : Int) + (i : Int)) < ((strB L).size : Int) := by omega
            clear hc
            go_wp2_with fail
            (with_reducible refine (turn_calls B o _ HZ5.out HOP.out).mono ?_)
            rintro e w6 ⟨R6, A6, n6, c6, rfl, hB6⟩
            replace HB2 := Lib.hid (below_trans' (below_trans' HB2.out hB6) (below_one w6 (.cells (recC R6 (.slice A6 n6 c6)) 26)))
            unfold recC at HB2
            unfold recV
            clear hB6 hcv
            go_wp2_with fail
            (with_reducible refine (CM.out _).mono ?_)
            rintro e w7 ⟨A7, n7, c7, rfl, hB7⟩
            replace HB2 := Lib.hid (below_trans' (below_trans' HB2.out hB7) (below_one w7 (.cells (recC zeroR (.slice A7 n7 c7)) 26)))
            unfold recC at HB2
            unfold recV
            clear hB7
            go_wp2_with fail
            (with_reducible refine (awake_true _).mono ?_)
            rintro e w8 ⟨rfl, hB8⟩
            replace HB2 := Lib.hid (below_trans' HB2.out hB8)
            clear hB8
            cases o
            all_goals
              go_wp2_with fail
              go_ret
              exact ⟨rfl, HB2.out⟩
          · clear hc
            go_wp2_with fail
            (with_reducible refine (turn_calls B o _ HZ5.out HOP.out).mono ?_)
            rintro e w6 ⟨R6, A6, n6, c6, rfl, hB6⟩
            replace HB2 := Lib.hid (below_trans' (below_trans' HB2.out hB6) (below_one w6 (.cells (recC R6 (.slice A6 n6 c6)) 26)))
            unfold recC at HB2
            unfold recV
            clear hB6 hcv
            go_wp2_with fail
            (with_reducible refine (CM.out _).mono ?_)
            rintro e w7 ⟨A7, n7, c7, rfl, hB7⟩
            replace HB2 := Lib.hid (below_trans' (below_trans' HB2.out hB7) (below_one w7 (.cells (recC zeroR (.slice A7 n7 c7)) 26)))
            unfold recC at HB2
            unfold recV
            clear hB7
            go_wp2_with fail
            (with_reducible refine (awake_true _).mono ?_)
            rintro e w8 ⟨rfl, hB8⟩
            replace HB2 := Lib.hid (below_trans' HB2.out hB8)
            clear hB8
            cases o
            all_goals
              go_wp2_with fail
              go_ret
              exact ⟨rfl, HB2.out⟩

end Go.Proofs.Ytkfjbhikibidiaa
