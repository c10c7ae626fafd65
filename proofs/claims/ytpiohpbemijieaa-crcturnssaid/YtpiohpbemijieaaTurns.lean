/- CrcTurns: the walk. No statement is proved here. -/
import Derived.Test.YtpiohpbemijieaaTurnP
import Derived.BigRegion
import Derived.IntWalk
namespace Go.Proofs.Ytpiohpbemijieaa
open Go.RowKit

theorem ne8 (Y : UInt8) : ((Y.toNat : Int) != 0) = (Y != 0) := by
  rw [Bool.eq_iff_iff, bne_iff_ne, bne_iff_ne]
  constructor
  · intro h e; subst e; exact h rfl
  · intro h e
    exact h (UInt8.toNat_inj.1 (by show Y.toNat = 0; omega))

theorem below_le' {a b c : World} (h : Below a.heap.size a b) (k : Below b.heap.size b c) : Below a.heap.size b c := k.mono h.size

theorem openB (l : List UInt8) (o : Bool) (w : World) (h : l.length ≤ 5000) (ho : opens l = !o) :
    Calls Try.prog 7 #[.string (strB l)] w fun e w' => ∃ t, e = .returned (.tuple #[.string t, .bool (!o)]) ∧ Below w.heap.size w w' := by
  refine (open_calls (strB l) w (by rw [strB_size]; unfold maxLen; omega)).mono ?_
  rintro e w' ⟨rfl, hB⟩
  rw [strB_data, ho]
  exact ⟨_, rfl, hB⟩

set_option maxRecDepth 100000 in
set_option maxHeartbeats 1600000 in
theorem turns_few (l : List UInt8) (at_ : Nat) (b0 b1 b2 b3 : UInt8) (w : World) (hl : l.length ≤ 1000) (ha : at_ < 65536) :
    Calls Try.prog 4 #[.string (strB l), .int .u16 at_, .agg #[.int .u8 b0.toNat, .int .u8 b1.toNat, .int .u8 b2.toNat, .int .u8 b3.toNat]] w fun e w' => e = .returned (.bool true) ∧ Below w.heap.size w w' := by
  have HL1 : Hid (l.length ≤ 5000) := by show l.length ≤ 5000; omega
  have g1 : ¬ (1000 : Int) < (strB l).size := by rw [strB_size]; omega
  have g1' : (strB l).size ≤ 1000 := by rw [strB_size]; omega
  have g3 : ((strB (sealB l)).size : Int) = ((strB l).size : Int) + 4 := by rw [strB_size, strB_size, sealB_len]; omega
  have hnot : ∀ (x : Bool) (w : World), (Op.unary .not (.bool x)).run Try.prog w = .ok (.bool (!x)) w := fun _ _ => rfl
  go_enter Try.func4, Try.ntmps4
  go_wp2_with fail
  (with_reducible refine (sealL l _ HL1.out).mono ?_)
  rintro e w1 ⟨rfl, hB1⟩
  go_wp2_with fail
  (with_reducible refine (openL l _ HL1.out).mono ?_)
  rintro e w2 ⟨rfl, hB2⟩
  have hcv := run_bytes_of_string (P := Try.prog) w2 9 31 5 (strB (sealB l)) Try.underlying9 Try.underlying31 Try.underlying5
  go_wp2_with fail
  clear hcv
  have hNe : (sealB l).length = (strB l).size + 4 := by rw [sealB_len, strB_size]
  have ho := opens_seal l
  have hz1 := hB1.size
  have hz2 := hB2.size
  have hzw : w.heap.size < w1.heap.size := by
    have : w.heap.size + 1 ≤ w1.heap.size := by simpa using hz1
    omega
  generalize grownCap w2 (strB (sealB l)).size 0 5 = cap
  have hR0 : RowB ((w2.alloc (Obj.cells (bytesRow (strB (sealB l)) cap) 5 ((bytesRow (strB (sealB l)) cap).size, (bytesRow (strB (sealB l)) cap).size + 1))).drew) w2.heap.size (sealB l) := RowB.new w2 (sealB l) cap
  have hB0 : Below w.heap.size w ((w2.alloc (Obj.cells (bytesRow (strB (sealB l)) cap) 5 ((bytesRow (strB (sealB l)) cap).size, (bytesRow (strB (sealB l)) cap).size + 1))).drew) :=
    ((((Go.Joins.below_alloc1 w _).trans (hB1.mono (by simp))).trans (hB2.mono (by omega))).alloc (by omega) _).drew
  have h50 : ((w2.alloc (Obj.cells (bytesRow (strB (sealB l)) cap) 5 ((bytesRow (strB (sealB l)) cap).size, (bytesRow (strB (sealB l)) cap).size + 1))).drew).heap[w.heap.size]? = some (.cells #[.int .u8 b0.toNat, .int .u8 b1.toNat, .int .u8 b2.toNat, .int .u8 b3.toNat] 30 (0, 0)) := by
    rw [heap_drew, Below.heap_alloc _ _ _ (by omega), hB2.block _ (by omega), hB1.block _ (by simp)]
    exact heap_alloc_new w _
  generalize ((w2.alloc (Obj.cells (bytesRow (strB (sealB l)) cap) 5 ((bytesRow (strB (sealB l)) cap).size, (bytesRow (strB (sealB l)) cap).size + 1))).drew) = W0 at *
  obtain ⟨k, hk⟩ : ∃ k : Nat, (at_ : Int) % (((strB l).size : Int) + 4) = (k : Int) := ⟨((at_ : Int) % (((strB l).size : Int) + 4)).toNat, by have := Int.emod_nonneg (at_ : Int) (show ((strB l).size : Int) + 4 ≠ 0 by omega); omega⟩
  have hkn : k < (strB l).size + 4 := by have := Int.emod_lt_of_pos (at_ : Int) (show 0 < ((strB l).size : Int) + 4 by omega); omega
  simp only [hk]
  have hgw : w.heap.size ≠ w2.heap.size := by omega
  have hgb : w.heap.size ≤ w2.heap.size := by omega
  clear hk hB1 hB2 hz1 hz2 hzw
  generalize w2.heap.size = g at *
  have HN := Lib.hid hNe
  have HO := Lib.hid ho
  have HR0 := Lib.hid hR0
  have HB0 := Lib.hid hB0
  have H50 := Lib.hid h50
  clear hNe ho hR0 hB0 h50
  go_loopw [12, 13] (fun o v wr => ∃ i : Nat, i ≤ 4 ∧ k + i ≤ (strB l).size + 4 ∧ v = .int .i64 i ∧ o = .bool (oth [b0, b1, b2, b3] i) ∧ RowB wr g (bur (sealB l) k [b0, b1, b2, b3] i) ∧ Only g W0 wr) (fun _ v _ => 4 - (intOf v).toNat)
  case atStart => exact ⟨0, Nat.zero_le _, by omega, rfl, rfl, by rw [bur_zero (by rw [HN.out]; omega)]; exact HR0.out, Only.refl _ _⟩
  case round =>
    obtain ⟨i, hi, hki, rfl, rfl, hR, hO⟩ := hrel
    by_cases hc : i < 4 ∧ k + i < (strB l).size + 4
    · obtain ⟨hi4, hkl⟩ := hc
      have hbl := bur_len (x := sealB l) (k := k) (f := [b0, b1, b2, b3]) (i := i) hi (by rw [HN.out]; omega)
      have c1 := hR.cell (j := k + i) (by rw [hbl, HN.out]; omega)
      rw [bur_at hi (by rw [HN.out]; omega)] at c1
      have c2 := hR.free (j := k + i) (by rw [hbl, HN.out]; omega)
      have c3 : wr.cell? ⟨w.heap.size, i, none⟩ = some (.int .u8 (([b0, b1, b2, b3].getD i 0).toNat : Nat)) := by
        rw [hO.cell (by exact hgw), Go.Joins.cell_of_block H50.out]
        have : i = 0 ∨ i = 1 ∨ i = 2 ∨ i = 3 := by omega
        rcases this with rfl | rfl | rfl | rfl <;> rfl
      have HS := Lib.hid (bur_step (x := sealB l) (k := k) (f := [b0, b1, b2, b3]) (i := i) (by simp; omega) (by rw [HN.out]; omega))
      have HT := Lib.hid (oth_step (f := [b0, b1, b2, b3]) (i := i) (by simp; omega))
      have HR := Lib.hid hR
      have HOn := Lib.hid hO
      clear hR hO hbl
      have hgo : ∀ (X Y : UInt8), bits .xor .u8 (X.toNat : Int) (Y.toNat : Int) = ((X.toNat ^^^ Y.toNat : Nat) : Int) := fun X Y => by
        exact u8_xor_nat _ _ X.toNat_lt Y.toNat_lt
      generalize (sealB l).getD (k + i) 0 = X at *
      generalize [b0, b1, b2, b3].getD i 0 = Y at *
      have hx := hgo X Y
      clear hgo
      go_wp2
      have w1' : IntKind.i64.wrap ((k : Int) + (i : Int)) = (k : Int) + i := IntWalk.i64_in _ (by omega)
      have w2' : ((k : Int) + (i : Int)).toNat = k + i := by omega
      have w3' : (0 : Int) ≤ (k : Int) + i := by omega
      have w4' : ((k : Int) + (i : Int)) < ((strB l).size : Int) + 4 := by omega
      have w5' : k + i < (strB (sealB l)).size := by omega
      go_region
      clear w1' w2' w3' w4' w5'
      have hR2 : RowB (wr.setCell ⟨g, k + i, none⟩ (.int .u8 ((X.toNat ^^^ Y.toNat : Nat) : Int))).drew g (bur (sealB l) k [b0, b1, b2, b3] (i + 1)) := by
        rw [HS.out, ← UInt8.toNat_xor]
        exact RowB.keep (HR.out.set (j := k + i) (by rw [bur_len hi (by rw [HN.out]; omega), HN.out]; omega) (X ^^^ Y)) rfl
      have hO2 : Only g W0 (wr.setCell ⟨g, k + i, none⟩ (.int .u8 ((X.toNat ^^^ Y.toNat : Nat) : Int))).drew := (HOn.out.setCell _ rfl _).drew
      have c4 : (wr.setCell ⟨g, k + i, none⟩ (.int .u8 ((X.toNat ^^^ Y.toNat : Nat) : Int))).drew.cell? ⟨w.heap.size, i, none⟩ = some (.int .u8 (Y.toNat : Nat)) := by
        rw [World.cell?_drew, World.cell?_setCell_other _ _ _ _ (fun h => hgw (congrArg Addr.block h).symm)]; exact c3
      have HR2 := Lib.hid hR2
      have HO2 := Lib.hid hO2
      clear hR2 hO2 c1 c2 c3 hx HS HR HOn
      generalize (wr.setCell ⟨g, k + i, none⟩ (.int .u8 ((X.toNat ^^^ Y.toNat : Nat) : Int))).drew = wr2 at *
      generalize oth [b0, b1, b2, b3] i = o at *
      cases o with
      | true =>
        go_wp2
        go_roundw
        case rel => exact ⟨i + 1, by omega, by omega, by go_num, by rw [HT.out]; rfl, HR2.out, HO2.out⟩
        case measure => simp [intOf]; omega
      | false =>
        go_wp2
        go_roundw
        case rel => exact ⟨i + 1, by omega, by omega, by go_num, by rw [HT.out, ne8, Bool.false_or], HR2.out, HO2.out⟩
        case measure => simp [intOf]; omega
    · have hbl : (bur (sealB l) k [b0, b1, b2, b3] i).length = (strB (sealB l)).size := by
        rw [bur_len (by simpa using hi) (by rw [HN.out]; omega), strB_size]
      have hcv := hR.back cap
      rw [hbl] at hcv
      have hop := bur_opens (x := sealB l) (k := k) (f := [b0, b1, b2, b3]) (i := i) (by simpa using hi) hi (by rw [HN.out]; omega) (by rw [HN.out]; omega) HO.out
      have hsz : (bur (sealB l) k [b0, b1, b2, b3] i).length ≤ 5000 := by rw [hbl]; omega
      have HB2 : Hid (Below w.heap.size w wr) := HB0.out.trans (hO.below hgb)
      generalize bur (sealB l) k [b0, b1, b2, b3] i = B at *
      generalize oth [b0, b1, b2, b3] i = o at *
      have HOP := Lib.hid hop
      have HSZ := Lib.hid hsz
      clear hop hsz hbl hR hO
      by_cases hi4 : i < 4
      · have hkl : ¬ ((k : Int) + (i : Int)) < ((strB l).size : Int) + 4 := by omega
        clear hc
        go_wp2_with fail
        refine (openB B o _ HSZ.out HOP.out).mono ?_
        rintro e w3 ⟨t, rfl, hB3⟩
        go_wp2_with fail
        (with_reducible refine (awake_true _).mono ?_)
        rintro e w4 ⟨rfl, hB4⟩
        cases o
        all_goals
          go_wp2_with fail
          go_ret
          exact ⟨rfl, HB2.out.trans (below_le' HB2.out (below_two hB3 hB4))⟩
      · clear hc
        go_wp2_with fail
        refine (openB B o _ HSZ.out HOP.out).mono ?_
        rintro e w3 ⟨t, rfl, hB3⟩
        go_wp2_with fail
        (with_reducible refine (awake_true _).mono ?_)
        rintro e w4 ⟨rfl, hB4⟩
        cases o
        all_goals
          go_wp2_with fail
          go_ret
          exact ⟨rfl, HB2.out.trans (below_le' HB2.out (below_two hB3 hB4))⟩

set_option maxRecDepth 100000 in
set_option maxHeartbeats 1600000 in
theorem turns_calls (s : ByteArray) (at_ : Nat) (b0 b1 b2 b3 : UInt8) (w : World) (ha : at_ < 65536) :
    Calls Try.prog 4 #[.string s, .int .u16 at_, .agg #[.int .u8 b0.toNat, .int .u8 b1.toNat, .int .u8 b2.toNat, .int .u8 b3.toNat]] w fun e w' => e = .returned (.bool true) ∧ Below w.heap.size w w' := by
  by_cases h : s.size ≤ 1000
  · have h := turns_few s.data.toList at_ b0 b1 b2 b3 w (by rw [len_data]; exact h) ha
    rw [strB_of] at h
    exact h
  · have g1 : (1000 : Int) < s.size := by omega
    go_enter Try.func4, Try.ntmps4
    go_wp2_with fail
    (with_reducible refine (awake_true _).mono ?_)
    rintro e w3 ⟨rfl, hB3⟩
    go_wp2_with fail
    go_ret
    exact ⟨rfl, (Go.Joins.below_alloc1 w _).trans (hB3.mono (by simp))⟩
end Go.Proofs.Ytpiohpbemijieaa
