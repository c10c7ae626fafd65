/- DiskDies' walk. No statement is proved here. -/
import Derived.Test.YtnnbbkfdijionaaClean
import Derived.BigQuiet
namespace Go.Proofs.Ytnnbbkfdijionaa
open Go.RowKit
attribute [local go_sem ↓] Go.wp_at_zero Go.wp_at_succ

/-- A started disk, armed. -/
theorem aclean_calls (A B : Option Addr) (c m : Nat) (zs : List ByteArray) (q : Nat) (W : World) (hv : IsDisk W (.agg #[.slice A 5 c, .slice B 0 m, .bool false, .int .i64 (-1)]) (cleanD zs)) :
    Calls Try.prog 25 #[.agg #[.slice A 5 c, .slice B 0 m, .bool false, .int .i64 (-1)], .int .i64 q] W fun e w' => ∃ A n c B m p, ∃ D : DK, e = .returned (.agg #[.slice A n c, .slice B m p, .bool D.dead, .int .i64 D.left]) ∧ IsDisk w' (.agg #[.slice A n c, .slice B m p, .bool D.dead, .int .i64 D.left]) D ∧ D = ⟨zs, [], false, q⟩ ∧ Below W.heap.size W w' := by
  refine (arm_calls _ _ q W hv).mono ?_
  rintro e w' ⟨v', rfl, hv', hb'⟩
  obtain ⟨A, n, c, B, m, p, rfl⟩ := hv'.parts
  exact ⟨A, n, c, B, m, p, _, rfl, hv', by simp [cleanD]; omega, hb'⟩

/-- What an armed disk is, behind so many deeds that were done. -/
structure DieD (zs : List ByteArray) (i done q : Nat) (D : DK) : Prop where
  sure : D.sure = zs
  wet : D.wet.length ≤ i
  left : D.left = (q : Int) - done
  dead : D.dead = true → done = q
  dq : done ≤ q

theorem DieD.ok {zs : List ByteArray} {i done q : Nat} {D : DK} (h : DieD zs i done q D) (hz : zs.length = 5) (hi : i ≤ 60) (hq : q < 20) : D.ok :=
  ⟨by rw [h.sure]; omega, by have := h.wet; omega, by have := h.left; have := h.dq; omega, by have := h.left; omega⟩

theorem DieD.deed {zs : List ByteArray} {i done q : Nat} {D : DK} (h : DieD zs i done q D) : deedB D = decide (done < q) := by
  unfold deedB
  have h1 := h.left
  have h2 := h.dq
  by_cases hd : done < q
  · have e1 : D.dead = false := by
      cases e : D.dead with
      | false => rfl
      | true => have := h.dead e; omega
    have e2 : (D.left == 0) = false := by simp; omega
    rw [e1, e2]
    simp [hd]
  · have e2 : (D.left == 0) = true := by simp; omega
    rw [e2]
    simp [hd]

theorem DieD.bad {zs : List ByteArray} {i done q : Nat} {D : DK} (h : DieD zs i done q D) (at_ : Int) (data : ByteArray) (hz : zs.length = 5) (hb : at_ < 0 ∨ 5 ≤ at_ ∨ 256 < data.size) : wrE D at_ data = 1 ∧ DieD zs (i + 1) done q (wrD D at_ data) := by
  have hn : ¬ wrOk D at_ data := by
    unfold wrOk
    rw [h.sure, hz]
    omega
  unfold wrE wrD
  rw [if_neg hn, if_neg hn]
  exact ⟨rfl, h.sure, by have := h.wet; omega, h.left, h.dead, h.dq⟩

theorem DieD.does {zs : List ByteArray} {i done q : Nat} {D : DK} (h : DieD zs i done q D) (at_ : Int) (data : ByteArray) (hz : zs.length = 5) (h0 : 0 ≤ at_) (h5 : at_ < 5) (h2 : data.size ≤ 256) (hd : done < q) : wrE D at_ data = 0 ∧ DieD zs (i + 1) (done + 1) q (wrD D at_ data) := by
  have hn : wrOk D at_ data := by
    unfold wrOk
    rw [h.sure, hz]
    omega
  have hdb := h.deed
  rw [decide_eq_true hd] at hdb
  unfold wrE wrD writeD
  rw [if_pos hn, if_pos hn, if_pos hdb, if_pos hdb]
  have e1 : ¬ (D.dead = true ∨ D.left = 0) := by
    simp [deedB] at hdb
    simp [hdb]
  have e2 : 0 < D.left := by have := h.left; omega
  have hl := withF_len (at_, padB data) D.wet
  have hw := h.wet
  have hlf := h.left
  refine ⟨rfl, ?_⟩
  unfold deedD
  rw [if_neg e1, if_pos e2]
  exact ⟨h.sure, by dsimp only; omega, by dsimp only; omega, fun e => by have := h.dead e; omega, by omega⟩

theorem DieD.down {zs : List ByteArray} {i done q : Nat} {D : DK} (h : DieD zs i done q D) (at_ : Int) (data : ByteArray) (hz : zs.length = 5) (h0 : 0 ≤ at_) (h5 : at_ < 5) (h2 : data.size ≤ 256) (hd : ¬ done < q) : wrE D at_ data = 12 ∧ DieD zs (i + 1) done q (wrD D at_ data) := by
  have hn : wrOk D at_ data := by
    unfold wrOk
    rw [h.sure, hz]
    omega
  have hdb := h.deed
  rw [decide_eq_false hd] at hdb
  have hdb' : ¬ deedB D = true := by rw [hdb]; simp
  unfold wrE wrD writeD
  rw [if_pos hn, if_pos hn, if_neg hdb', if_neg hdb']
  have hw := h.wet
  have hlf := h.left
  have hdq := h.dq
  refine ⟨rfl, ?_⟩
  unfold deedD
  rw [if_pos (.inr (by omega))]
  exact ⟨h.sure, by dsimp only; omega, hlf, fun _ => by omega, hdq⟩

/-- Two disks in their boxes: the one that was flushed, and the armed one. -/
structure DieRel (w : World) (g7 g9 i done q : Nat) (A7 B7 : Option Addr) (c7 m7 : Nat) (zs : List ByteArray) (A B : Option Addr) (n c m p : Nat) (D : DK) (wr : World) : Prop where
  b7 : wr.heap[g7]? = some (.cells #[.slice A7 5 c7, .slice B7 0 m7, .bool false, .int .i64 (-1)] 28 (0, 0))
  d7 : IsDisk wr (.agg #[.slice A7 5 c7, .slice B7 0 m7, .bool false, .int .i64 (-1)]) (cleanD zs)
  b9 : wr.heap[g9]? = some (.cells #[.slice A n c, .slice B m p, .bool D.dead, .int .i64 D.left] 28 (0, 0))
  d9 : IsDisk wr (.agg #[.slice A n c, .slice B m p, .bool D.dead, .int .i64 D.left]) D
  die : DieD zs i done q D
  below : Below w.heap.size w wr
  le9 : w.heap.size ≤ g9
  ne : g7 ≠ g9

theorem DieRel.step {w wr y : World} {g7 g9 i done done2 q : Nat} {A7 B7 A B : Option Addr} {c7 m7 n c m p : Nat} {zs : List ByteArray} {D D2 : DK} (h : DieRel w g7 g9 i done q A7 B7 c7 m7 zs A B n c m p D wr) (hg : DieD zs (i + 1) done2 q D2) {A2 B2 : Option Addr} {n2 c2 m2 p2 : Nat} (hb : Below wr.heap.size wr y) (hv : IsDisk y (.agg #[.slice A2 n2 c2, .slice B2 m2 p2, .bool D2.dead, .int .i64 D2.left]) D2) :
    DieRel w g7 g9 (i + 1) done2 q A7 B7 c7 m7 zs A2 B2 n2 c2 m2 p2 D2 ((((y.setCell ⟨g9, 0, none⟩ (.slice A2 n2 c2)).setCell ⟨g9, 1, none⟩ (.slice B2 m2 p2)).setCell ⟨g9, 2, none⟩ (.bool D2.dead)).setCell ⟨g9, 3, none⟩ (.int .i64 D2.left)) := by
  have h9 := box_kept _ h.b9 hb
  have h7 := box_kept _ h.b7 hb
  exact ⟨(store4_other _ _ _ _ _ _ _ h.ne).trans h7, (h.d7.below hb).other h9 (by decide) (by decide) (store4_other _ _ _ _ _ _), heap_store4 h9, hv.other h9 (by decide) (by decide) (store4_other _ _ _ _ _ _), hg, below_store4 (below_trans' h.below hb) _ h.le9 _ _ _ _, h.le9, h.ne⟩

/-- Where no bit stays, what is to be is gone. -/
theorem settle_zero (wet : List Wt) (sure : List ByteArray) : ∀ k, settleK 0 wet sure k = sure
  | 0 => rfl
  | k + 1 => by
    unfold settleK
    split
    · unfold setStep
      rw [settle_zero wet sure k, if_neg (by simp)]
    · exact settle_zero wet sure k

/-- Started with no bit: what was sure is there. -/
theorem start0_calls (v : Value) (D : DK) (zs : List ByteArray) (W : World) (hv : IsDisk W v D) (hok : D.ok) (hs : D.sure = zs) (hz : zs.length = 5) :
    Calls Try.prog 20 #[v, .int .u64 0] W fun e w' => ∃ A c B m, e = .returned (.agg #[.slice A 5 c, .slice B 0 m, .bool false, .int .i64 (-1)]) ∧ IsDisk w' (.agg #[.slice A 5 c, .slice B 0 m, .bool false, .int .i64 (-1)]) (cleanD zs) ∧ Below W.heap.size W w' := by
  refine (start_calls v D 0 W hv hok (by omega)).mono ?_
  rintro e w' ⟨v', rfl, hv', hb'⟩
  rw [settleF, settle_zero, hs] at hv'
  obtain ⟨A, c, B, m, rfl⟩ := parts_of hv' 5 0 false (-1) hz rfl rfl rfl
  exact ⟨A, c, B, m, rfl, hv', hb'⟩

set_option maxRecDepth 100000 in
set_option maxHeartbeats 4000000 in
theorem dying_calls (A0 : Option Addr) (len cap : Nat) (xs : List AK) (at_ : Nat) (A1 : Option Addr) (len1 cap1 : Nat) (ys : List AK) (w : World) (hat : at_ < 256) (hlm : len ≤ 9223372036854775807) (hlm1 : len1 ≤ 9223372036854775807) (hR : ActIn w A0 len xs) (hR1 : ActIn w A1 len1 ys) :
    Calls Try.prog 6 #[.slice A0 len cap, .int .u8 at_, .slice A1 len1 cap1] w fun e w' => e = .returned (.bool true) ∧ Below w.heap.size w w' := by
  obtain ⟨q, hq⟩ : ∃ q, q = at_ % 20 := ⟨_, rfl⟩
  have hq20 : q < 20 := by omega
  have hqi : (at_ : Int) % 20 = (q : Int) := by omega
  have HSM := Lib.hid (small_calls A0 len cap xs w hR hlm)
  have HR := Lib.hid hR
  have HR1 := Lib.hid hR1
  have HA : ∀ W, Calls Try.prog 9 #[] W _ := awake_true
  have HAW := Lib.hid HA
  clear hR hR1 HA hq
  go_enter Try.func6, Try.ntmps6
  go_wp2_with fail
  with_reducible refine HSM.out.mono ?_
  rintro e w1 ⟨b, rfl, hsm, hb1⟩
  have HB1 := Lib.hid hb1
  clear hb1 HSM
  cases b with
  | false =>
    clear hsm
    go_wp2_with (go_at_call 9; (with_reducible refine (HAW.out _).mono ?_); rintro e w2 ⟨rfl, hb⟩)
    go_ret
    exact ⟨rfl, below_trans' HB1.out hb⟩
  | true =>
    have hl60 := hsm rfl
    clear hsm
    have HSM := Lib.hid (small_calls A1 len1 cap1 ys w1 (HR1.out.below HB1.out) hlm1)
    go_wp2_with fail
    with_reducible refine HSM.out.mono ?_
    rintro e w1' ⟨b, rfl, hsm, hb1⟩
    have HB1' := Lib.hid (below_trans' HB1.out hb1)
    clear hb1 HSM HB1
    cases b with
    | false =>
      clear hsm
      go_wp2_with (go_at_call 9; (with_reducible refine (HAW.out _).mono ?_); rintro e w2 ⟨rfl, hb⟩)
      go_ret
      exact ⟨rfl, below_trans' HB1'.out hb⟩
    | true =>
      have hl61 := hsm rfl
      clear hsm
      have HPL := Lib.hid (played_calls A0 len cap xs w1' (HR.out.below HB1'.out) hl60)
      go_wp2_with fail
      with_reducible refine HPL.out.mono ?_
      rintro e w2 ⟨v2, D2, rfl, hv2, hg2, hb2⟩
      have HB2 := Lib.hid (below_trans' HB1'.out hb2)
      have hst0 : Calls Try.prog 20 #[v2, .int .u64 0] w2 _ := started_calls v2 D2 w2 hv2 hg2 0 (by omega)
      have HST := Lib.hid hst0
      clear hv2 hg2 hb2 HPL HB1' hst0
      go_wp2_with fail
      with_reducible refine HST.out.mono ?_
      rintro e w3 ⟨A6, c6, B6, m6, zs, rfl, hv3, hz5, hb3⟩
      have HB3 := Lib.hid (below_trans' HB2.out hb3)
      have HFC := Lib.hid (fclean_calls A6 B6 c6 m6 zs w3 hv3 hz5)
      clear hv3 hb3 HB2 HST
      go_wp2_with fail
      with_reducible refine HFC.out.mono ?_
      rintro e w4 ⟨A7, c7, B7, m7, rfl, hv4, hb4⟩
      obtain ⟨X4, g7, eX, eg, hG, hbX⟩ := box_new w4 (.slice A7 5 c7) (.slice B7 0 m7) (.bool false) (.int .i64 (-1))
      go_upto_region 4 with (fail)
      have HB4 := Lib.hid (below_trans' HB3.out (below_trans' hb4 hbX))
      have HV4 := Lib.hid (hv4.below hbX)
      have HG4 := Lib.hid hG
      have hz7 : g7 < X4.heap.size := (Array.getElem?_eq_some_iff.1 hG).1
      obtain ⟨⟨p0, p1, p2, p3⟩, _⟩ := box4 hG
      have HAC := Lib.hid (aclean_calls A7 B7 c7 m7 zs q X4 HV4.out)
      clear eX eg hG hbX hb4 hv4 HFC HB3
      go_wp2_with fail
      with_reducible refine HAC.out.mono ?_
      rintro e w5 ⟨A, n, c, B, m, p, D, rfl, hv5, hD5, hb5⟩
      obtain ⟨X5, g9, eX, eg, hG, hbX⟩ := box_new w5 (.slice A n c) (.slice B m p) (.bool D.dead) (.int .i64 D.left)
      have hE5 := Lib.hid hD5
      clear hD5
      go_upto_region 5 with (fail)
      have hb' := below_trans' hb5 hbX
      have hne : g7 ≠ g9 := by have := hb5.size; omega
      have hle9 : w.heap.size ≤ g9 := by have := hb5.size; have := HB4.out.size; omega
      have hrel0 : DieRel w g7 g9 0 0 q A7 B7 c7 m7 zs A B n c m p D X5 := ⟨box_kept _ HG4.out hb', HV4.out.below hb', hG, hv5.below hbX, by rw [hE5.out]; exact ⟨rfl, by simp, by simp, fun h => (by cases h), by omega⟩, below_trans' HB4.out hb', hle9, hne⟩
      clear eX eg hG hbX hb5 hv5 hb' HAC HB4 HG4 HV4 p0 p1 p2 p3 HR hE5 hz7
      generalize Value.agg #[Value.slice A n c, Value.slice B m p, Value.bool D.dead, Value.int IntKind.i64 D.left] = ag0
      generalize Value.tuple #[Value.agg #[Value.slice A7 5 c7, Value.slice B7 0 m7, Value.bool false, Value.int IntKind.i64 (-1)], Value.int IntKind.i64 0] = tu1
      generalize Value.agg #[Value.slice A7 5 c7, Value.slice B7 0 m7, Value.bool false, Value.int IntKind.i64 (-1)] = ag1
      generalize Value.agg #[Value.slice A6 5 c6, Value.slice B6 0 m6, Value.bool false, Value.int IntKind.i64 (-1)] = ag2
      go_wp2_with fail
      go_loopw [10, 11] (fun u10 u11 wr => ∃ (i done : Nat) (A B : Option Addr) (n c m p : Nat) (D : DK), i ≤ len1 ∧ u11 = .int .i64 i ∧ u10 = .int .i64 done ∧ DieRel w g7 g9 i done q A7 B7 c7 m7 zs A B n c m p D wr) (fun _ u _ => len1 - (intOf u).toNat)
      case atStart => exact ⟨0, 0, A, B, n, c, m, p, D, Nat.zero_le _, rfl, rfl, hrel0⟩
      case round =>
        obtain ⟨i, done, A, B, n, c, m, p, D, hi, rfl, rfl, hrel⟩ := hrel
        clear hrel0
        by_cases hlt : i < len1
        · obtain ⟨a, ha⟩ : ∃ a, ys[i]? = some a := ⟨_, List.getElem?_eq_getElem (by have := HR1.out.1; omega)⟩
          obtain ⟨b, off, rfl, hbl, hcell⟩ := HR1.out.2.2 (by omega)
          have hb := hrel.below
          have hc1 := (hb.cell (p := ⟨b, off + i * 4 + 1, none⟩) hbl).trans (hcell i a ha).2.1
          have hc2 := (hb.cell (p := ⟨b, off + i * 4 + 2, none⟩) hbl).trans (hcell i a ha).2.2.1
          obtain ⟨⟨p0, p1, p2, p3⟩, f0, f1, f2, f3⟩ := box4 hrel.b9
          have hi1 : (0 : Int) ≤ (i : Int) := by omega
          have hi2 : (i : Int) < (len1 : Int) := by omega
          have hwr : ∀ (E : Int) (done2 : Nat), (wrE D a.place a.data = E ∧ DieD zs (i + 1) done2 q (wrD D a.place a.data)) → ∀ W : World, IsDisk W (.agg #[.slice A n c, .slice B m p, .bool D.dead, .int .i64 D.left]) D → Calls Try.prog 22 #[.agg #[.slice A n c, .slice B m p, .bool D.dead, .int .i64 D.left], .int .i64 a.place, .string a.data] W fun e w' => ∃ A2 n2 c2 B2 m2 d2 D2, e = .returned (.tuple #[.agg #[.slice A2 n2 c2, .slice B2 m2 d2, .bool D2.dead, .int .i64 D2.left], .int .i64 E]) ∧ IsDisk w' (.agg #[.slice A2 n2 c2, .slice B2 m2 d2, .bool D2.dead, .int .i64 D2.left]) D2 ∧ DieD zs (i + 1) done2 q D2 ∧ Below W.heap.size W w' := fun E done2 hE W hv => by
            refine (write_calls _ D a.place a.data W hv (hrel.die.ok hz5 (by omega) hq20)).mono ?_
            rintro e w' ⟨v', rfl, hv', hb'⟩
            obtain ⟨A2, n2, c2, B2, m2, d2, rfl⟩ := hv'.parts
            exact ⟨A2, n2, c2, B2, m2, d2, _, by rw [hE.1], hv', hE.2, hb'⟩
          have HWR := Lib.hid hwr
          have HREL := Lib.hid hrel
          clear hcell ha hb hrel hwr
          by_cases h0 : a.place < 0
          · have hp0 : decide (a.place < 0) = true := decide_eq_true h0
            have HDO := Lib.hid (HWR.out 1 done (HREL.out.die.bad a.place a.data hz5 (.inl h0)))
            clear HWR
            go_upto_region 11 with (fail)
            go_region_with (first | (go_at_call 22; (with_reducible refine (HDO.out _ (disk_drew HREL.out.d9)).mono ?_); rintro e y ⟨A2, n2, c2, B2, m2, d2, D2, rfl, hvy, hgy, hby⟩; have HvY := Lib.hid hvy; have HgY := Lib.hid hgy; have HbY := Lib.hid hby; have hyb := box4 (box_kept _ HREL.out.b9 (below_of_drew (by with_reducible exact hby))); obtain ⟨⟨z0, z1, z2, z3⟩, e0, e1, e2, e3⟩ := hyb; clear hvy hgy hby))
            all_goals
              have HR' := Lib.hid (HREL.out.step HgY.out (below_of_drew HbY.out) HvY.out)
              clear HDO HREL
              go_wp2_with fail
              exact ⟨⟨i + 1, done, A2, B2, n2, c2, m2, d2, D2, by omega, by go_num, by go_num, HR'.out⟩, by simp [intOf]; omega⟩
          · have hp0 : decide (a.place < 0) = false := decide_eq_false h0
            by_cases h5 : 5 ≤ a.place
            · have hp5 : decide (5 ≤ a.place) = true := decide_eq_true h5
              have HDO := Lib.hid (HWR.out 1 done (HREL.out.die.bad a.place a.data hz5 (.inr (.inl h5))))
              clear HWR
              go_upto_region 11 with (fail)
              go_region_with (first | (go_at_call 22; (with_reducible refine (HDO.out _ (disk_drew HREL.out.d9)).mono ?_); rintro e y ⟨A2, n2, c2, B2, m2, d2, D2, rfl, hvy, hgy, hby⟩; have HvY := Lib.hid hvy; have HgY := Lib.hid hgy; have HbY := Lib.hid hby; have hyb := box4 (box_kept _ HREL.out.b9 (below_of_drew (by with_reducible exact hby))); obtain ⟨⟨z0, z1, z2, z3⟩, e0, e1, e2, e3⟩ := hyb; clear hvy hgy hby))
              all_goals
                have HR' := Lib.hid (HREL.out.step HgY.out (below_of_drew HbY.out) HvY.out)
                clear HDO HREL
                go_wp2_with fail
                exact ⟨⟨i + 1, done, A2, B2, n2, c2, m2, d2, D2, by omega, by go_num, by go_num, HR'.out⟩, by simp [intOf]; omega⟩
            · have hp5 : decide (5 ≤ a.place) = false := decide_eq_false h5
              by_cases h2 : 256 < a.data.size
              · have hp2 : decide ((256 : Int) < (a.data.size : Int)) = true := by simp; omega
                have HDO := Lib.hid (HWR.out 1 done (HREL.out.die.bad a.place a.data hz5 (.inr (.inr h2))))
                clear HWR
                go_upto_region 11 with (fail)
                go_region_with (first | (go_at_call 22; (with_reducible refine (HDO.out _ (disk_drew HREL.out.d9)).mono ?_); rintro e y ⟨A2, n2, c2, B2, m2, d2, D2, rfl, hvy, hgy, hby⟩; have HvY := Lib.hid hvy; have HgY := Lib.hid hgy; have HbY := Lib.hid hby; have hyb := box4 (box_kept _ HREL.out.b9 (below_of_drew (by with_reducible exact hby))); obtain ⟨⟨z0, z1, z2, z3⟩, e0, e1, e2, e3⟩ := hyb; clear hvy hgy hby))
                all_goals
                  have HR' := Lib.hid (HREL.out.step HgY.out (below_of_drew HbY.out) HvY.out)
                  clear HDO HREL
                  go_wp2_with fail
                  exact ⟨⟨i + 1, done, A2, B2, n2, c2, m2, d2, D2, by omega, by go_num, by go_num, HR'.out⟩, by simp [intOf]; omega⟩
              · have hp2 : decide ((256 : Int) < (a.data.size : Int)) = false := by simp; omega
                by_cases hd : done < q
                · have hpd : decide ((done : Int) < (q : Int)) = true := by simp; omega
                  have HDO := Lib.hid (HWR.out 0 (done + 1) (HREL.out.die.does a.place a.data hz5 (by omega) (by omega) (by omega) hd))
                  clear HWR
                  go_upto_region 11 with (fail)
                  go_region_with (first | (go_at_call 22; (with_reducible refine (HDO.out _ (disk_drew HREL.out.d9)).mono ?_); rintro e y ⟨A2, n2, c2, B2, m2, d2, D2, rfl, hvy, hgy, hby⟩; have HvY := Lib.hid hvy; have HgY := Lib.hid hgy; have HbY := Lib.hid hby; have hyb := box4 (box_kept _ HREL.out.b9 (below_of_drew (by with_reducible exact hby))); obtain ⟨⟨z0, z1, z2, z3⟩, e0, e1, e2, e3⟩ := hyb; clear hvy hgy hby))
                  all_goals
                    have HR' := Lib.hid (HREL.out.step HgY.out (below_of_drew HbY.out) HvY.out)
                    clear HDO HREL
                    go_wp2_with fail
                    exact ⟨⟨i + 1, (done + 1), A2, B2, n2, c2, m2, d2, D2, by omega, by go_num, by go_num, HR'.out⟩, by simp [intOf]; omega⟩
                · have hpd : decide ((done : Int) < (q : Int)) = false := by simp; omega
                  have HDO := Lib.hid (HWR.out 12 done (HREL.out.die.down a.place a.data hz5 (by omega) (by omega) (by omega) hd))
                  clear HWR
                  go_upto_region 11 with (fail)
                  go_region_with (first | (go_at_call 22; (with_reducible refine (HDO.out _ (disk_drew HREL.out.d9)).mono ?_); rintro e y ⟨A2, n2, c2, B2, m2, d2, D2, rfl, hvy, hgy, hby⟩; have HvY := Lib.hid hvy; have HgY := Lib.hid hgy; have HbY := Lib.hid hby; have hyb := box4 (box_kept _ HREL.out.b9 (below_of_drew (by with_reducible exact hby))); obtain ⟨⟨z0, z1, z2, z3⟩, e0, e1, e2, e3⟩ := hyb; clear hvy hgy hby))
                  all_goals
                    have HR' := Lib.hid (HREL.out.step HgY.out (below_of_drew HbY.out) HvY.out)
                    clear HDO HREL
                    go_wp2_with fail
                    exact ⟨⟨i + 1, done, A2, B2, n2, c2, m2, d2, D2, by omega, by go_num, by go_num, HR'.out⟩, by simp [intOf]; omega⟩
        · have hnl : decide ((i : Int) < (len1 : Int)) = false := by simp; omega
          obtain ⟨⟨p0, p1, p2, p3⟩, _⟩ := box4 hrel.b9
          have HREL := Lib.hid hrel
          have HS0 := Lib.hid (start0_calls _ D zs wr hrel.d9 (hrel.die.ok hz5 (by omega) hq20) hrel.die.sure hz5)
          clear hrel
          go_wp2_with fail
          with_reducible refine HS0.out.mono ?_
          rintro e w6 ⟨A14, c14, B14, m14, rfl, hv6, hb6⟩
          obtain ⟨X6, g14, eX, eg, hG, hbX⟩ := box_new w6 (.slice A14 5 c14) (.slice B14 0 m14) (.bool false) (.int .i64 (-1))
          go_upto_region 17 with (fail)
          have hb' := below_trans' hb6 hbX
          have HB6 := Lib.hid (below_trans' HREL.out.below hb')
          obtain ⟨b14, o14, rfl, hl14, hc14⟩ := clean_at (hv6.below hbX) hz5
          obtain ⟨b7, o7, rfl, hl7, hc7⟩ := clean_at (HREL.out.d7.below hb') hz5
          have HC14 := Lib.hid hc14
          have HC7 := Lib.hid hc7
          have HG14 := Lib.hid hG
          have HG7 := Lib.hid (box_kept _ HREL.out.b7 hb')
          clear p0 p1 p2 p3 hc14 hc7
          obtain ⟨⟨p0, p1, p2, p3⟩, _⟩ := box4 hG
          obtain ⟨⟨q0, q1, q2, q3⟩, _⟩ := box4 HG7.out
          clear eX eg hG hbX hb6 hv6 hb' HS0 HREL
          go_wp2_with fail
          go_loopw [15] (fun u15 wr => ∃ i : Nat, i ≤ 5 ∧ u15 = .int .i64 i ∧ Below X6.heap.size X6 wr) (fun u _ => 5 - (intOf u).toNat)
          case atStart => exact ⟨0, Nat.zero_le _, rfl, Below.refl _ _⟩
          case round =>
            obtain ⟨j, hj, rfl, hbr⟩ := hrel
            have HBR := Lib.hid hbr
            clear hbr p0 p1 p2 p3 q0 q1 q2 q3
            obtain ⟨⟨p0, p1, p2, p3⟩, _⟩ := box4 (box_kept _ HG14.out HBR.out)
            obtain ⟨⟨q0, q1, q2, q3⟩, _⟩ := box4 (box_kept _ HG7.out HBR.out)
            by_cases hj5 : j < 5
            · have hl : decide ((j : Int) < 5) = true := by simp; omega
              have hj1 : (0 : Int) ≤ (j : Int) := by omega
              have hj2 : (j : Int) < 5 := by omega
              have hx := (HBR.out.cell (p := ⟨b14, o14 + j, none⟩) hl14).trans (HC14.out j hj5)
              have hy := (HBR.out.cell (p := ⟨b7, o7 + j, none⟩) hl7).trans (HC7.out j hj5)
              generalize zs.getD j ByteArray.empty = S at hx hy
              go_wp2_with fail
              go_quiet (fail)
              go_wp2_with fail
              exact ⟨⟨j + 1, by omega, by go_num, HBR.out.trans ⟨rfl, rfl, rfl, Nat.le_refl _, fun _ _ => rfl⟩⟩, by simp [intOf]; omega⟩
            · have hl : decide ((j : Int) < 5) = false := by simp; omega
              go_wp2_with (go_at_call 9; (with_reducible refine (HAW.out _).mono ?_); rintro e y ⟨rfl, hb⟩)
              go_ret
              exact ⟨rfl, below_trans' HB6.out (below_trans' HBR.out hb)⟩

end Go.Proofs.Ytnnbbkfdijionaa
