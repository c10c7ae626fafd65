/- Contracts and plain mathematics that the statement's proof wants: no statement is proved here, nothing is assumed. -/
import Derived.Test.YtgeiemccjionpaaGreatMg19
import Derived.Test.YtgeiemccjionpaaGreatMg23
import Derived.Test.YtgeiemccjionpaaGreatMg25
/- HRun -/
namespace Go.Proofs.YtgeiemccjionpaaGreat.Chn
open Go.RowKit Go.Sort
open Dsk Vlt
open Bit (Sps OwnS SBox spsC own_snoc news2 one2)

theorem make_sps (n : Nat) (hn : n ≤ 100000) (W : World) : ∃ Z : Array Value, Z.size = n * 2 ∧ (Instr.makeSlice 80 (.int .i64 0) (.int .i64 (n : Nat))).run Tryz.prog W = .ok (.slice (some ⟨W.heap.size, 0, none⟩) 0 n) (W.alloc (.cells Z 79)) := by
  obtain ⟨i0, hi, hz0, hz1, hz2⟩ := info_parts Bit.info26
  refine ⟨madeCells (Value.cells (.agg #[.int .i64 0, .int .i64 0])) (n * 2), size_madeCells _ _, ?_⟩
  have := run_make (P := Tryz.prog) W 80 79 i0 _ Tryz.underlying80 hi hz0 .i64 .i64 0 (n : Int) (by omega) (by omega) (by rw [hz2]; omega) (by omega)
  rw [this, hz1]
  rfl
theorem ones_len (l : List Int) : (onesI l).length = l.length := by simp [onesI]
theorem ones_take {l : List Int} {i : Nat} {o : Int} (h : l[i]? = some o) : onesI (l.take (i + 1)) = onesI (l.take i) ++ [(o, 1)] := by
  rw [List.take_add_one, h]
  simp [onesI]
theorem take_len {l : List Int} {i n : Nat} (h : n = l.length) (hi : i ≤ n) : (onesI (l.take i)).length = i := by
  rw [ones_len, List.length_take]
  omega

set_option maxRecDepth 100000 in
set_option maxHeartbeats 4000000 in
theorem runs_calls (v : Value) (l : List Int) (w : World) (hv : IsInts w v l) (hl : l.length ≤ 1000) :
    Calls Tryz.prog 51 #[v] w fun e w' => ∃ v', e = .returned v' ∧ Sps w' v' (onesI l) ∧ Below w.heap.size w w' := by
  obtain ⟨A, n, c, rfl, hn, hnc, hr⟩ := hv.open_
  obtain ⟨i1, hi0, hz0, hz1, hz2⟩ := info_parts Bit.info26
  have hn1 : n ≤ 1000 := by omega
  obtain ⟨Z, hZ, hmk⟩ := make_sps n (by omega) w
  obtain ⟨Y, hY⟩ : ∃ Y, Y = w.alloc (.cells Z 79) := ⟨_, rfl⟩
  have hown : OwnS w.heap.size Y (.slice (some ⟨w.heap.size, 0, none⟩) 0 n) [] := by
    have := World.ownsRow_made (base := w.heap.size) (e := 79) (size := 2) w Z n (by omega) (by unfold maxLen; omega) hZ
    rw [← hY] at this
    exact this
  have HOWN := Lib.hid hown
  have HBEL : Hid (Below w.heap.size w Y) := Lib.hid (by rw [hY]; exact below_one _ _)
  rw [← hY] at hmk
  have HR := Lib.hid hr
  have HN := Lib.hid hn
  clear hr hn hown hY hZ hv hl
  go_enter Tryz.func51, Tryz.ntmps51
  go_wp2_with fail
  clear hmk
  go_loopw [3, 11] (fun s3 s11 wr => ∃ (i : Nat) (Z1 : Option Addr) (z1 : Nat), i ≤ n ∧ s11 = .int .i64 i ∧ s3 = .slice Z1 i z1 ∧ OwnS w.heap.size wr (.slice Z1 i z1) (onesI (l.take i)) ∧ Below w.heap.size w wr) (fun _ u _ => n - (intOf u).toNat)
  case atStart => exact ⟨0, _, _, Nat.zero_le _, rfl, rfl, HOWN.out, HBEL.out⟩
  case round =>
    obtain ⟨i, Z1, z1, hi, rfl, rfl, how, hbr⟩ := hrel
    have HBR := Lib.hid hbr
    have HO := Lib.hid how
    clear how
    by_cases hlt : i < n
    · obtain ⟨o, ho⟩ : ∃ o, l[i]? = some o := ⟨_, List.getElem?_eq_getElem (by have := HN.out; omega)⟩
      obtain ⟨b, off, rfl, x0⟩ := int_at HR.out hbr ho (by omega)
      have hi1 : (0 : Int) ≤ (i : Int) := by omega
      have hi2 : (i : Int) < (n : Int) := by omega
      have HNX := Lib.hid (ones_take ho)
      have HLE := Lib.hid (take_len HN.out hi)
      have HOI : Hid (wr.ownsRow w.heap.size 79 2 (.slice Z1 i z1) i (spsC (onesI (l.take i)))) := Lib.hid (by have := HO.out; unfold OwnS at this; rw [HLE.out] at this; exact this)
      have hBs : w.heap.size ≤ wr.heap.size := hbr.size
      clear hbr ho
      go_wp2_with (at_builtin; refine wpList_append_own_at _ (by rfl) (.tmp 15) (.tmp 18) 80 (by rfl) w.heap.size 79 i1 _ 2 16 Tryz.underlying80 hi0 hz0 hz1 hz2 (by rfl) (by omega) _ i (spsC (onesI (l.take i))) (by rfl) (by exact World.ownsRow.alloc HOI.out _) ⟨wr.heap.size, 0, none⟩ 1 1 [.int .i64 o, .int .i64 1] (by rfl) (by rfl) (by exact news2 (o, 1) rfl) (one2 (o, 1)) (Nat.le_trans (show i + 1 ≤ 1000000 by omega) (by decide)) (by omega) (by simp; omega) ?_; intro v' w9 hown' hgrow' hnil' hat')
      have ho2 := own_snoc (l := onesI (l.take i)) (x := (o, 1)) (by rw [HLE.out]; exact hown')
      obtain ⟨A2, c2, hA⟩ := ho2.sps.form
      have hle2 : (onesI (l.take i) ++ [(o, 1)]).length = i + 1 := by rw [List.length_append, HLE.out]; rfl
      rw [hle2] at hA
      have HO2 : Hid (OwnS w.heap.size w9 v' (onesI (l.take (i + 1)))) := Lib.hid (by rw [HNX.out]; exact ho2)
      have HB2 : Hid (Below w.heap.size w w9) := Lib.hid (below_grown (HBR.out.alloc hBs _) hgrow' HO.out.ge (by simp; omega))
      clear ho2 hown' hgrow' hnil' hat' hle2
      subst hA
      go_wp2_with fail
      exact ⟨⟨i + 1, A2, c2, by omega, by go_num, rfl, HO2.out, HB2.out⟩, by simp [intOf]; omega⟩
    · obtain rfl : i = n := by omega
      have HT : Hid (l.take i = l) := Lib.hid (by rw [HN.out]; exact List.take_length)
      clear hbr
      go_wp2_with fail
      go_ret
      exact ⟨_, rfl, by have := HO.out.sps; rw [HT.out] at this; exact this, HBR.out⟩

set_option maxRecDepth 100000 in
set_option maxHeartbeats 4000000 in
theorem spans_calls (v : Value) (l : List Int) (w : World) (hv : IsInts w v l) (hl : l.length ≤ 1000) :
    Calls Tryz.prog 40 #[v] w fun e w' => ∃ v', e = .returned v' ∧ Sps w' v' (onesI l) ∧ Below w.heap.size w w' := by
  obtain ⟨A, n, c, rfl, hn, hnc, hr⟩ := hv.open_
  obtain ⟨i1, hi0, hz0, hz1, hz2⟩ := info_parts Bit.info26
  have hn1 : n ≤ 1000 := by omega
  have HR := Lib.hid hr
  have HN := Lib.hid hn
  clear hr hn hv hl
  go_enter Tryz.func40, Tryz.ntmps40
  go_wp2_with fail
  go_loopw [3, 4] (fun s3 s11 wr => ∃ (i : Nat) (Z1 : Option Addr) (z1 : Nat), i ≤ n ∧ s11 = .int .i64 i ∧ s3 = .slice Z1 i z1 ∧ OwnS w.heap.size wr (.slice Z1 i z1) (onesI (l.take i)) ∧ Below w.heap.size w wr) (fun _ u _ => n - (intOf u).toNat)
  case atStart => exact ⟨0, _, _, Nat.zero_le _, rfl, rfl, OwnS.nil _ _, Below.refl _ _⟩
  case round =>
    obtain ⟨i, Z1, z1, hi, rfl, rfl, how, hbr⟩ := hrel
    have HBR := Lib.hid hbr
    have HO := Lib.hid how
    clear how
    by_cases hlt : i < n
    · obtain ⟨o, ho⟩ : ∃ o, l[i]? = some o := ⟨_, List.getElem?_eq_getElem (by have := HN.out; omega)⟩
      obtain ⟨b, off, rfl, x0⟩ := int_at HR.out hbr ho (by omega)
      have hi1 : (0 : Int) ≤ (i : Int) := by omega
      have hi2 : (i : Int) < (n : Int) := by omega
      have HNX := Lib.hid (ones_take ho)
      have HLE := Lib.hid (take_len HN.out hi)
      have HOI : Hid (wr.ownsRow w.heap.size 79 2 (.slice Z1 i z1) i (spsC (onesI (l.take i)))) := Lib.hid (by have := HO.out; unfold OwnS at this; rw [HLE.out] at this; exact this)
      have hBs : w.heap.size ≤ wr.heap.size := hbr.size
      clear hbr ho
      go_wp2_with (at_builtin; refine wpList_append_own_at _ (by rfl) (.tmp 11) (.tmp 17) 80 (by rfl) w.heap.size 79 i1 _ 2 16 Tryz.underlying80 hi0 hz0 hz1 hz2 (by rfl) (by omega) _ i (spsC (onesI (l.take i))) (by rfl) (by exact World.ownsRow.alloc HOI.out _) ⟨wr.heap.size, 0, none⟩ 1 1 [.int .i64 o, .int .i64 1] (by rfl) (by rfl) (by exact news2 (o, 1) rfl) (one2 (o, 1)) (Nat.le_trans (show i + 1 ≤ 1000000 by omega) (by decide)) (by omega) (by simp; omega) ?_; intro v' w9 hown' hgrow' hnil' hat')
      have ho2 := own_snoc (l := onesI (l.take i)) (x := (o, 1)) (by rw [HLE.out]; exact hown')
      obtain ⟨A2, c2, hA⟩ := ho2.sps.form
      have hle2 : (onesI (l.take i) ++ [(o, 1)]).length = i + 1 := by rw [List.length_append, HLE.out]; rfl
      rw [hle2] at hA
      have HO2 : Hid (OwnS w.heap.size w9 v' (onesI (l.take (i + 1)))) := Lib.hid (by rw [HNX.out]; exact ho2)
      have HB2 : Hid (Below w.heap.size w w9) := Lib.hid (below_grown (HBR.out.alloc hBs _) hgrow' HO.out.ge (by simp; omega))
      clear ho2 hown' hgrow' hnil' hat' hle2
      subst hA
      go_wp2_with fail
      exact ⟨⟨i + 1, A2, c2, by omega, by go_num, rfl, HO2.out, HB2.out⟩, by simp [intOf]; omega⟩
    · obtain rfl : i = n := by omega
      have HT : Hid (l.take i = l) := Lib.hid (by rw [HN.out]; exact List.take_length)
      clear hbr
      go_wp2_with fail
      go_ret
      exact ⟨_, rfl, by have := HO.out.sps; rw [HT.out] at this; exact this, HBR.out⟩
end Go.Proofs.YtgeiemccjionpaaGreat.Chn

/- HSame -/
namespace Go.Proofs.YtgeiemccjionpaaGreat.Chn
open Go.RowKit Go.Sort
open Dsk Vlt

set_option maxRecDepth 100000 in
set_option maxHeartbeats 8000000 in
theorem lsame_calls (v u : Value) (l : List Int) (w : World) (hv : IsInts w v l) (hu : IsInts w u l) (hl : l.length ≤ 1000000) :
    Calls Tryz.prog 18 #[v, u] w fun e w' => e = .returned (.bool true) ∧ Below w.heap.size w w' := by
  obtain ⟨PA, pn, pc, rfl, hpl, hpc, hprd⟩ := hv.open_
  obtain ⟨SA, sn, sc, rfl, hsl, hsc, hsrd⟩ := hu.open_
  obtain rfl : sn = pn := by omega
  obtain ⟨n, hn⟩ : ∃ m, m = sn := ⟨_, rfl⟩
  subst hn
  have HL := Lib.hid hpl
  have hn9 : n ≤ 1000000 := by omega
  have HB0 : Hid (Below w.heap.size w w) := Lib.hid (Below.refl _ _)
  have HP := Lib.hid hprd
  have HS := Lib.hid hsrd
  clear hv hu hl hpl hsl hpc hsc hprd hsrd
  go_enter Tryz.func18, Tryz.ntmps18
  go_wp2_with fail
  go_loopw [5] (fun s5 wr => ∃ i : Nat, i ≤ n ∧ s5 = .int .i64 i ∧ Below w.heap.size w wr) (fun u _ => n - (intOf u).toNat)
  case atStart => exact ⟨0, Nat.zero_le _, rfl, HB0.out⟩
  case round =>
    obtain ⟨i, hi, rfl, hbl⟩ := hrel
    obtain ⟨w2, rfl⟩ : ∃ w2, w2 = wr := ⟨_, rfl⟩
    have HBL := Lib.hid hbl
    clear hbl
    by_cases hi1 : i < n
    · obtain ⟨p, hp⟩ : ∃ q, l[i]? = some q := ⟨_, List.getElem?_eq_getElem (by rw [← HL.out]; exact hi1)⟩
      obtain ⟨pb, po, rfl, y0⟩ := int_at HP.out HBL.out hp (by omega)
      obtain ⟨sb, so, rfl, y1⟩ := int_at HS.out HBL.out hp (by omega)
      have hi2 : (i : Int) < (n : Int) := by omega
      have hi4 : (0 : Int) ≤ (i : Int) := by omega
      have hw1 : IntKind.i64.wrap ((i : Int) + 1) = (i : Int) + 1 := by rw [wrap_small _ (by omega) (by omega)]
      go_upto_region 6 with (fail)
      go_region
      go_wp2_with fail
      exact ⟨⟨i + 1, by omega, by go_num, HBL.out.drew⟩, by simp [intOf]; omega⟩
    · obtain rfl : i = n := by omega
      go_wp2_with fail
      go_ret
      exact ⟨rfl, HBL.out⟩
end Go.Proofs.YtgeiemccjionpaaGreat.Chn
