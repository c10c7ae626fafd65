/- DiskReads' walk. No statement is proved here. -/
import Derived.Test.YtnnbbkfdijionaaAwake
import Derived.Test.YtnnbbkfdijionaaPlayed
namespace Go.Proofs.Ytnnbbkfdijionaa
open Go.RowKit
attribute [local go_sem ↓] Go.wp_at_zero Go.wp_at_succ

/-- A disk that was started: its sectors alone. -/
def cleanD (zs : List ByteArray) : DK := ⟨zs, [], false, -1⟩
/-- And one of its sectors is to be P. -/
def oneD (zs : List ByteArray) (k : Nat) (P : ByteArray) : DK := ⟨zs, [((k : Int), P)], false, -1⟩

theorem wr_clean (zs : List ByteArray) (k : Nat) (data : ByteArray) (hk : k < zs.length) (hd : data.size ≤ 256) : wrD (cleanD zs) k data = oneD zs k (padB data) ∧ wrE (cleanD zs) k data = 0 := by
  have h : wrOk (cleanD zs) k data := ⟨by omega, by simp [cleanD]; omega, hd⟩
  unfold wrD wrE
  rw [if_pos h, if_pos h]
  simp [writeD, deedB, deedD, cleanD, oneD, withF, withSt]

theorem fl_one (zs : List ByteArray) (k : Nat) (P : ByteArray) (hk : k < zs.length) : flD (oneD zs k P) = cleanD (zs.set k P) ∧ flE (oneD zs k P) = 0 := by
  have e : settleF allBits [((k : Int), P)] zs = zs.set k P := by
    show setStep allBits 0 ((k : Int), P) zs = _
    unfold setStep
    rw [if_pos ⟨by decide, by simp, by dsimp only; omega⟩]
    simp
  simp [flD, flE, oneD, cleanD, deedB, deedD, e]

theorem rd_clean (zs : List ByteArray) (i : Nat) (hi : i < zs.length) : rdS (cleanD zs) i = zs.getD i ByteArray.empty ∧ rdE (cleanD zs) i = 0 := by
  have h : rdOk (cleanD zs) i := ⟨by omega, by simp [cleanD]; omega⟩
  unfold rdS rdE
  rw [if_pos ⟨h, rfl⟩, if_pos h]
  simp [cleanD, readF]

theorem rd_one (zs : List ByteArray) (k i : Nat) (P : ByteArray) (hi : i < zs.length) : rdS (oneD zs k P) i = (if i = k then P else zs.getD i ByteArray.empty) ∧ rdE (oneD zs k P) i = 0 := by
  have h : rdOk (oneD zs k P) i := ⟨by omega, by simp [oneD]; omega⟩
  unfold rdS rdE
  rw [if_pos ⟨h, rfl⟩, if_pos h]
  by_cases e : i = k
  · simp [oneD, readF, e]
  · have e' : ¬ (k : Int) = (i : Int) := by omega
    simp [oneD, readF, e, e']

theorem clean_ok {zs : List ByteArray} (h : zs.length = 5) : (cleanD zs).ok := ⟨by simp [cleanD]; omega, by simp [cleanD], by simp [cleanD], by simp [cleanD]⟩
theorem one_ok {zs : List ByteArray} (h : zs.length = 5) (k : Nat) (P : ByteArray) : (oneD zs k P).ok := ⟨by simp [oneD]; omega, by simp [oneD], by simp [oneD], by simp [oneD]⟩

/-- Started behind deeds. -/
theorem started_calls (v : Value) (d : DK) (W : World) (hv : IsDisk W v d) (hg : Good 5 60 d) (stay : Nat) (hst : stay < 18446744073709551616) :
    Calls Try.prog 20 #[v, .int .u64 stay] W fun e w' => ∃ A c B m, ∃ zs : List ByteArray, e = .returned (.agg #[.slice A 5 c, .slice B 0 m, .bool false, .int .i64 (-1)]) ∧ IsDisk w' (.agg #[.slice A 5 c, .slice B 0 m, .bool false, .int .i64 (-1)]) (cleanD zs) ∧ zs.length = 5 ∧ Below W.heap.size W w' := by
  refine (start_calls v d stay W hv (hg.ok (by omega) (by omega)) hst).mono ?_
  rintro e w' ⟨v', rfl, hv', hb'⟩
  have hl : (settleF stay d.wet d.sure).length = 5 := by rw [settleF, settleK_length]; exact hg.sure
  obtain ⟨A, c, B, m, rfl⟩ := parts_of hv' 5 0 false (-1) hl rfl rfl rfl
  exact ⟨A, c, B, m, _, rfl, hv', hl, hb'⟩

/-- A write in it. -/
theorem wclean_calls (A B : Option Addr) (c m : Nat) (zs : List ByteArray) (k : Nat) (data : ByteArray) (W : World) (hv : IsDisk W (.agg #[.slice A 5 c, .slice B 0 m, .bool false, .int .i64 (-1)]) (cleanD zs)) (hz : zs.length = 5) (hk : k < 5) (hd : data.size ≤ 256) :
    Calls Try.prog 22 #[.agg #[.slice A 5 c, .slice B 0 m, .bool false, .int .i64 (-1)], .int .i64 k, .string data] W fun e w' => ∃ A c B m, e = .returned (.tuple #[.agg #[.slice A 5 c, .slice B 1 m, .bool false, .int .i64 (-1)], .int .i64 0]) ∧ IsDisk w' (.agg #[.slice A 5 c, .slice B 1 m, .bool false, .int .i64 (-1)]) (oneD zs k (padB data)) ∧ Below W.heap.size W w' := by
  refine (write_calls _ _ k data W hv (clean_ok hz)).mono ?_
  have h := wr_clean zs k data (by omega) hd
  rw [h.1, h.2]
  rintro e w' ⟨v', rfl, hv', hb'⟩
  obtain ⟨A, c, B, m, rfl⟩ := parts_of hv' 5 1 false (-1) hz rfl rfl rfl
  exact ⟨A, c, B, m, rfl, hv', hb'⟩

/-- And flushed. -/
theorem fone_calls (A B : Option Addr) (c m : Nat) (zs : List ByteArray) (k : Nat) (P : ByteArray) (W : World) (hv : IsDisk W (.agg #[.slice A 5 c, .slice B 1 m, .bool false, .int .i64 (-1)]) (oneD zs k P)) (hz : zs.length = 5) (hk : k < 5) :
    Calls Try.prog 19 #[.agg #[.slice A 5 c, .slice B 1 m, .bool false, .int .i64 (-1)]] W fun e w' => ∃ A c B m, e = .returned (.tuple #[.agg #[.slice A 5 c, .slice B 0 m, .bool false, .int .i64 (-1)], .int .i64 0]) ∧ IsDisk w' (.agg #[.slice A 5 c, .slice B 0 m, .bool false, .int .i64 (-1)]) (cleanD (zs.set k P)) ∧ Below W.heap.size W w' := by
  have hcl : Calls Try.prog 19 _ _ fun e w' => ∃ v', e = .returned (.tuple #[v', .int .i64 (flE (oneD zs k P))]) ∧ IsDisk w' v' (flD (oneD zs k P)) ∧ Below W.heap.size W w' := flush_calls _ _ W hv (one_ok hz k P)
  refine hcl.mono ?_
  have h := fl_one zs k P (by omega)
  rw [h.1, h.2]
  rintro e w' ⟨v', rfl, hv', hb'⟩
  obtain ⟨A, c, B, m, rfl⟩ := parts_of hv' 5 0 false (-1) (by simp [cleanD, hz]) rfl rfl rfl
  exact ⟨A, c, B, m, rfl, hv', hb'⟩

theorem rclean_calls (v : Value) (zs : List ByteArray) (i : Nat) (W : World) (hv : IsDisk W v (cleanD zs)) (hz : zs.length = 5) (hi : i < 5) :
    Calls Try.prog 23 #[v, .int .i64 i] W fun e w' => e = .returned (.tuple #[.string (zs.getD i ByteArray.empty), .int .i64 0]) ∧ Below W.heap.size W w' := by
  have h := rd_clean zs i (by omega)
  have := read_calls _ _ i W hv (clean_ok hz)
  rwa [h.1, h.2] at this

theorem rone_calls (v : Value) (zs : List ByteArray) (k i : Nat) (P : ByteArray) (W : World) (hv : IsDisk W v (oneD zs k P)) (hz : zs.length = 5) (hi : i < 5) :
    Calls Try.prog 23 #[v, .int .i64 i] W fun e w' => e = .returned (.tuple #[.string (if i = k then P else zs.getD i ByteArray.empty), .int .i64 0]) ∧ Below W.heap.size W w' := by
  have h := rd_one zs k i P (by omega)
  have := read_calls _ _ i W hv (one_ok hz k P)
  rwa [h.1, h.2] at this

/-- Three disks in their boxes. -/
structure Thr (w : World) (g7 g9 g11 : Nat) (A7 B7 A9 B9 A11 B11 : Option Addr) (c7 m7 c9 m9 c11 m11 : Nat) (zs : List ByteArray) (k : Nat) (P : ByteArray) (W : World) : Prop where
  b7 : W.heap[g7]? = some (.cells #[.slice A7 5 c7, .slice B7 0 m7, .bool false, .int .i64 (-1)] 28 (0, 0))
  b9 : W.heap[g9]? = some (.cells #[.slice A9 5 c9, .slice B9 1 m9, .bool false, .int .i64 (-1)] 28 (0, 0))
  b11 : W.heap[g11]? = some (.cells #[.slice A11 5 c11, .slice B11 0 m11, .bool false, .int .i64 (-1)] 28 (0, 0))
  d7 : IsDisk W (.agg #[.slice A7 5 c7, .slice B7 0 m7, .bool false, .int .i64 (-1)]) (cleanD zs)
  d9 : IsDisk W (.agg #[.slice A9 5 c9, .slice B9 1 m9, .bool false, .int .i64 (-1)]) (oneD zs k P)
  d11 : IsDisk W (.agg #[.slice A11 5 c11, .slice B11 0 m11, .bool false, .int .i64 (-1)]) (cleanD (zs.set k P))
  below : Below w.heap.size w W

theorem Thr.keep {w : World} {g7 g9 g11 : Nat} {A7 B7 A9 B9 A11 B11 : Option Addr} {c7 m7 c9 m9 c11 m11 : Nat} {zs : List ByteArray} {k : Nat} {P : ByteArray} {W W' : World} (h : Thr w g7 g9 g11 A7 B7 A9 B9 A11 B11 c7 m7 c9 m9 c11 m11 zs k P W) (hb : Below W.heap.size W W') : Thr w g7 g9 g11 A7 B7 A9 B9 A11 B11 c7 m7 c9 m9 c11 m11 zs k P W' :=
  ⟨box_kept _ h.b7 hb, box_kept _ h.b9 hb, box_kept _ h.b11 hb, h.d7.below hb, h.d9.below hb, h.d11.below hb, below_trans' h.below hb⟩

set_option maxRecDepth 100000 in
set_option maxHeartbeats 4000000 in
theorem reads_calls (A0 : Option Addr) (len cap : Nat) (xs : List AK) (at_ : Nat) (data : ByteArray) (w : World) (hat : at_ < 256) (hlm : len ≤ 9223372036854775807) (hR : ActIn w A0 len xs) :
    Calls Try.prog 5 #[.slice A0 len cap, .int .u8 at_, .string data] w fun e w' => e = .returned (.bool true) ∧ Below w.heap.size w w' := by
  obtain ⟨k, hk⟩ : ∃ k, k = at_ % 5 := ⟨_, rfl⟩
  have hk5 : k < 5 := by omega
  have hki : (at_ : Int) % 5 = (k : Int) := by omega
  have hsmall := small_calls A0 len cap xs w hR hlm
  have HR := Lib.hid hR
  have HKI := Lib.hid hki
  have HSM := Lib.hid hsmall
  have HA : ∀ W, Calls Try.prog 9 #[] W _ := awake_true
  have HAW := Lib.hid HA
  clear hR hki hsmall HA hk
  go_enter Try.func5, Try.ntmps5
  go_wp2_with fail
  with_reducible refine HSM.out.mono ?_
  rintro e w1 ⟨b, rfl, hsm, hb1⟩
  have HB1 := Lib.hid hb1
  clear hb1 HSM
  cases b with
  | false =>
    clear hsm
    go_wp2_with (go_at_call 9; (with_reducible refine (HAW.out _).mono ?_); rintro e w2 ⟨rfl, hb⟩)
    go_ret
    exact ⟨rfl, below_trans' HB1.out hb⟩
  | true =>
    have hl60 := hsm rfl
    clear hsm
    by_cases h256 : 256 < data.size
    · have hd : decide ((256 : Int) < (data.size : Int)) = true := by simp; omega
      go_wp2_with (go_at_call 9; (with_reducible refine (HAW.out _).mono ?_); rintro e w2 ⟨rfl, hb⟩)
      go_ret
      exact ⟨rfl, below_trans' HB1.out hb⟩
    · have hd : decide ((256 : Int) < (data.size : Int)) = false := by simp; omega
      have hR1 : ActIn w1 A0 len xs := ⟨HR.out.1, HR.out.2.1, fun h => by
        obtain ⟨b, off, ea, hb, hc⟩ := HR.out.2.2 h
        refine ⟨b, off, ea, Nat.lt_of_lt_of_le hb HB1.out.size, fun j a ha => ?_⟩
        obtain ⟨c0, c1, c2, c3⟩ := hc j a ha
        exact ⟨(HB1.out.cell (p := ⟨b, off + j * 4, none⟩) hb).trans c0, (HB1.out.cell (p := ⟨b, off + j * 4 + 1, none⟩) hb).trans c1, (HB1.out.cell (p := ⟨b, off + j * 4 + 2, none⟩) hb).trans c2, (HB1.out.cell (p := ⟨b, off + j * 4 + 3, none⟩) hb).trans c3⟩⟩
      have HPL := Lib.hid (played_calls A0 len cap xs w1 hR1 hl60)
      clear hR1
      go_wp2_with fail
      with_reducible refine HPL.out.mono ?_
      rintro e w2 ⟨v2, D2, rfl, hv2, hg2, hb2⟩
      have HB2 := Lib.hid (below_trans' HB1.out hb2)
      have hst0 : Calls Try.prog 20 #[v2, .int .u64 0] w2 _ := started_calls v2 D2 w2 hv2 hg2 0 (by omega)
      have HST := Lib.hid hst0
      clear hv2 hg2 hb2 HPL HB1 hst0
      go_wp2_with fail
      with_reducible refine HST.out.mono ?_
      rintro e w3 ⟨A7, c7, B7, m7, zs, rfl, hv3, hz5, hb3⟩
      obtain ⟨X3, g7, eX, eg, hG, hbX⟩ := box_new w3 (.slice A7 5 c7) (.slice B7 0 m7) (.bool false) (.int .i64 (-1))
      go_upto_region 4 with (fail)
      have HB3 := Lib.hid (below_trans' HB2.out (below_trans' hb3 hbX))
      have HV3 := Lib.hid (hv3.below hbX)
      have HG3 := Lib.hid hG
      obtain ⟨⟨p0, p1, p2, p3⟩, _⟩ := box4 hG
      have HWC := Lib.hid (wclean_calls A7 B7 c7 m7 zs k data X3 HV3.out hz5 hk5 (by omega))
      clear eX eg hG hbX hb3 hv3 HST HB2
      obtain ⟨P, hP⟩ : ∃ P, P = padB data := ⟨_, rfl⟩
      rw [← hP] at HWC
      have HP := Lib.hid hP
      clear hP
      go_upto_region 5 with (fail)
      rw [HKI.out]
      go_wp2_with fail
      with_reducible refine HWC.out.mono ?_
      rintro e w4 ⟨A9, c9, B9, m9, rfl, hv4, hb4⟩
      obtain ⟨X4, g9, eX, eg, hG, hbX⟩ := box_new w4 (.slice A9 5 c9) (.slice B9 1 m9) (.bool false) (.int .i64 (-1))
      go_upto_region 6 with (fail)
      have hb' := below_trans' hb4 hbX
      have HB4 := Lib.hid (below_trans' HB3.out hb')
      have HV7 := Lib.hid (HV3.out.below hb')
      have HG7 := Lib.hid (box_kept _ HG3.out hb')
      have HV4 := Lib.hid (hv4.below hbX)
      have HG4 := Lib.hid hG
      clear p0 p1 p2 p3
      obtain ⟨⟨p0, p1, p2, p3⟩, _⟩ := box4 hG
      have HFC := Lib.hid (fone_calls A9 B9 c9 m9 zs k P X4 HV4.out hz5 hk5)
      clear eX eg hG hbX hb4 hv4 hb' HWC HB3 HG3 HV3
      go_wp2_with fail
      with_reducible refine HFC.out.mono ?_
      rintro e w5 ⟨A11, c11, B11, m11, rfl, hv5, hb5⟩
      obtain ⟨X5, g11, eX, eg, hG, hbX⟩ := box_new w5 (.slice A11 5 c11) (.slice B11 0 m11) (.bool false) (.int .i64 (-1))
      go_upto_region 7 with (fail)
      have hb' := below_trans' hb5 hbX
      have hthr0 : Thr w g7 g9 g11 A7 B7 A9 B9 A11 B11 c7 m7 c9 m9 c11 m11 zs k P X5 := ⟨box_kept _ HG7.out hb', box_kept _ HG4.out hb', hG, HV7.out.below hb', HV4.out.below hb', hv5.below hbX, below_trans' HB4.out hb'⟩
      clear eX eg hG hbX hb5 hv5 hb' HFC HB4 HG4 HV4 HV7 HG7 p0 p1 p2 p3 HR
      generalize Value.tuple #[Value.agg #[Value.slice A9 5 c9, Value.slice B9 1 m9, Value.bool false, Value.int IntKind.i64 (-1)], Value.int IntKind.i64 0] = tu1
      generalize Value.agg #[Value.slice A9 5 c9, Value.slice B9 1 m9, Value.bool false, Value.int IntKind.i64 (-1)] = ag1
      generalize Value.tuple #[Value.agg #[Value.slice A11 5 c11, Value.slice B11 0 m11, Value.bool false, Value.int IntKind.i64 (-1)], Value.int IntKind.i64 0] = tu2
      generalize Value.agg #[Value.slice A11 5 c11, Value.slice B11 0 m11, Value.bool false, Value.int IntKind.i64 (-1)] = ag2
      go_wp2_with fail
      go_loopw [13] (fun u13 wr => ∃ i : Nat, i ≤ 5 ∧ u13 = .int .i64 i ∧ Thr w g7 g9 g11 A7 B7 A9 B9 A11 B11 c7 m7 c9 m9 c11 m11 zs k P wr) (fun u _ => 5 - (intOf u).toNat)
      case atStart => exact ⟨0, Nat.zero_le _, rfl, hthr0⟩
      case round =>
        obtain ⟨i, hi, rfl, hthr⟩ := hrel
        have HT := Lib.hid hthr
        clear hthr hthr0
        by_cases hlt : i < 5
        · have hl : decide ((i : Int) < 5) = true := by simp; omega
          obtain ⟨S, hS⟩ : ∃ S, S = zs.getD i ByteArray.empty := ⟨_, rfl⟩
          obtain ⟨a, ha⟩ : ∃ a, a = if i = k then P else S := ⟨_, rfl⟩
          have hset : (zs.set k P).getD i ByteArray.empty = a := by
            rw [ha, hS, List.getD_eq_getElem?_getD, List.getElem?_set, List.getD_eq_getElem?_getD]
            by_cases e : i = k
            · subst e; simp [show i < zs.length by omega]
            · rw [if_neg e, if_neg (fun h => e h.symm)]
          have hr9 := fun (W : World) hv => rone_calls (.agg #[.slice A9 5 c9, .slice B9 1 m9, .bool false, .int .i64 (-1)]) zs k i P W hv hz5 hlt
          have hr11 := fun (W : World) hv => rclean_calls (.agg #[.slice A11 5 c11, .slice B11 0 m11, .bool false, .int .i64 (-1)]) (zs.set k P) i W hv (by simp [hz5]) hlt
          have hr7 := fun (W : World) hv => rclean_calls (.agg #[.slice A7 5 c7, .slice B7 0 m7, .bool false, .int .i64 (-1)]) zs i W hv hz5 hlt
          simp only [← hS, ← ha, hset] at hr9 hr11 hr7
          have hfull : ∀ W : World, Calls Try.prog 24 #[.string data] W fun e w' => e = .returned (.string P) ∧ Below W.heap.size W w' := fun W => by rw [HP.out]; exact full_calls data W (by omega)
          have HR9 := Lib.hid hr9
          have HR11 := Lib.hid hr11
          have HR7 := Lib.hid hr7
          have HF := Lib.hid hfull
          have HA := Lib.hid ha
          clear hr9 hr11 hr7 hfull hset hS ha
          obtain ⟨⟨p0, p1, p2, p3⟩, _⟩ := box4 HT.out.b9
          go_wp2_with fail
          with_reducible refine (HR9.out _ HT.out.d9).mono ?_
          rintro e y1 ⟨rfl, hb⟩
          have HT1 := Lib.hid (HT.out.keep hb)
          clear hb p0 p1 p2 p3
          obtain ⟨⟨p0, p1, p2, p3⟩, _⟩ := box4 HT1.out.b11
          go_wp2_with fail
          with_reducible refine (HR11.out _ HT1.out.d11).mono ?_
          rintro e y2 ⟨rfl, hb⟩
          have HT2 := Lib.hid (HT1.out.keep hb)
          clear hb p0 p1 p2 p3
          obtain ⟨⟨p0, p1, p2, p3⟩, _⟩ := box4 HT2.out.b7
          go_wp2_with fail
          with_reducible refine (HR7.out _ HT2.out.d7).mono ?_
          rintro e y3 ⟨rfl, hb⟩
          have HT3 := Lib.hid (HT2.out.keep hb)
          clear hb p0 p1 p2 p3 HT HT1 HT2 HR9 HR11 HR7
          by_cases hik : i = k
          · subst hik
            have haP : a = P := by rw [HA.out, if_pos rfl]
            clear HA
            subst haP
            go_wp2_with (go_at_call 24; (with_reducible refine (HF.out _).mono ?_); rintro e y4 ⟨rfl, hb⟩)
            exact ⟨⟨i + 1, by omega, by go_num, HT3.out.keep hb⟩, by simp [intOf]; omega⟩
          · have haS : a = S := by rw [HA.out, if_neg hik]
            clear HA
            subst haS
            have hne : ((i : Int) == (k : Int)) = false := by simp; omega
            go_wp2_with fail
            exact ⟨⟨i + 1, by omega, by go_num, HT3.out⟩, by simp [intOf]; omega⟩
        · have hl : decide ((i : Int) < 5) = false := by simp; omega
          go_wp2_with (go_at_call 9; (with_reducible refine (HAW.out _).mono ?_); rintro e y ⟨rfl, hb⟩)
          go_ret
          exact ⟨rfl, below_trans' HT.out.below hb⟩

end Go.Proofs.Ytnnbbkfdijionaa
