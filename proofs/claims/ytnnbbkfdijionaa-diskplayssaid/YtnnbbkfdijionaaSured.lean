/- DiskSure's walk. No statement is proved here. -/
import Derived.Test.YtnnbbkfdijionaaClean
import Derived.BigQuiet
namespace Go.Proofs.Ytnnbbkfdijionaa
open Go.RowKit
attribute [local go_sem ↓] Go.wp_at_zero Go.wp_at_succ

theorem bytes_ne {a b : ByteArray} (h : ¬ a = b) : (a.toList == b.toList) = false := by
  rw [ByteArray.toList_eq, ByteArray.toList_eq, Bool.eq_false_iff]
  intro e
  have e1 := eq_of_beq e
  apply h
  cases a with | mk x => cases b with | mk y => simpa using e1

theorem step_mem (p : Wt) (st : List Wt × Bool) (o x : Wt) (h : x ∈ (stepW p st o).1) : x ∈ st.1 ∨ x = p ∨ (x = o ∧ o.1 ≠ p.1) := by
  obtain ⟨l, b⟩ := st
  unfold stepW at h
  by_cases h1 : b = false ∧ p.1 < o.1
  · by_cases h2 : o.1 = p.1
    · omega
    · simp [h1.1, h1.2, h2] at h
      rcases h with h | h | h
      · exact .inl h
      · exact .inr (.inl h)
      · exact .inr (.inr ⟨h, h2⟩)
  · dsimp only at h
    rw [if_neg h1] at h
    by_cases h2 : o.1 = p.1
    · rw [if_pos h2] at h
      exact .inl h
    · rw [if_neg h2] at h
      simp at h
      rcases h with h | h
      · exact .inl h
      · exact .inr (.inr ⟨h, h2⟩)

theorem fold_mem (p : Wt) (l : List Wt) : ∀ (st : List Wt × Bool) (x : Wt), x ∈ (l.foldl (stepW p) st).1 → x ∈ st.1 ∨ x = p ∨ (x ∈ l ∧ x.1 ≠ p.1) := by
  induction l with
  | nil => intro st x h; exact .inl h
  | cons o l ih =>
    intro st x h
    rw [List.foldl_cons] at h
    rcases ih _ x h with h | h | h
    · rcases step_mem p st o x h with h | h | ⟨rfl, h⟩
      · exact .inl h
      · exact .inr (.inl h)
      · exact .inr (.inr ⟨by simp, h⟩)
    · exact .inr (.inl h)
    · exact .inr (.inr ⟨by simp [h.1], h.2⟩)

theorem with_mem (p : Wt) (l : List Wt) (x : Wt) (h : x ∈ withF p l) : x = p ∨ (x ∈ l ∧ x.1 ≠ p.1) := by
  have hf := fold_mem p l ([], false) x
  unfold withF withSt at h
  split at h
  · rcases hf h with h | h | h
    · cases h
    · exact .inl h
    · exact .inr h
  · rcases List.mem_append.1 h with h | h
    · rcases hf h with h | h | h
      · cases h
      · exact .inl h
      · exact .inr h
    · exact .inl (by simpa using h)

/-- Of one place there is one. -/
def Uniq (l : List Wt) : Prop := ∀ o ∈ l, ∀ x ∈ l, o.1 = x.1 → o = x

theorem Uniq.with_ {l : List Wt} (h : Uniq l) (p : Wt) : Uniq (withF p l) := by
  intro o ho x hx e
  rcases with_mem p l o ho with rfl | ⟨h1, h2⟩
  · rcases with_mem o l x hx with rfl | ⟨_, h4⟩
    · rfl
    · exact absurd e.symm h4
  · rcases with_mem p l x hx with rfl | ⟨h3, _⟩
    · exact absurd e h2
    · exact h o h1 x h3 e

theorem settle_at (stay : Nat) (wet : List Wt) (zs : List ByteArray) (j : Nat) : ∀ k, (settleK stay wet zs k).getD j ByteArray.empty = zs.getD j ByteArray.empty ∨ ∃ o ∈ wet, o.1 = (j : Int) ∧ (settleK stay wet zs k).getD j ByteArray.empty = o.2
  | 0 => .inl rfl
  | k + 1 => by
    unfold settleK
    split
    · rename_i o ho
      unfold setStep
      split
      · rename_i hc
        by_cases e : o.1.toNat = j
        · refine .inr ⟨o, List.mem_of_getElem? ho, by omega, ?_⟩
          have hlen : j < (settleK stay wet zs k).length := by omega
          rw [e]
          simp [List.getD_eq_getElem?_getD, hlen]
        · rw [List.getD_eq_getElem?_getD, List.getElem?_set, if_neg e, ← List.getD_eq_getElem?_getD]
          exact settle_at stay wet zs j k
      · exact settle_at stay wet zs j k
    · exact settle_at stay wet zs j k

theorem read_uniq {wet : List Wt} (h : Uniq wet) (zs : List ByteArray) (j : Nat) (o : Wt) (ho : o ∈ wet) (hj : o.1 = (j : Int)) : readF wet zs j = o.2 := by
  unfold readF
  cases e : wet.reverse.find? (fun o => o.1 == (j : Int)) with
  | none =>
    have := List.find?_eq_none.1 e o (by simpa using ho)
    simp [hj] at this
  | some x =>
    have h1 := List.find?_some e
    have h2 := List.mem_of_find?_eq_some e
    have h3 : x = o := h x (by simpa using h2) o ho (by rw [hj]; simpa using h1)
    rw [h3]

/-- A disk that was sure, and what is to be in it. -/
structure SureD (zs : List ByteArray) (i : Nat) (D : DK) : Prop where
  sure : D.sure = zs
  wet : D.wet.length ≤ i
  dead : D.dead = false
  left : D.left = -1
  uniq : Uniq D.wet

theorem SureD.ok {zs : List ByteArray} {i : Nat} {D : DK} (h : SureD zs i D) (hz : zs.length = 5) (hi : i ≤ 60) : D.ok :=
  ⟨by rw [h.sure]; omega, by have := h.wet; omega, by have := h.left; omega, by have := h.left; omega⟩

theorem SureD.more {zs : List ByteArray} {i j : Nat} {D : DK} (h : SureD zs i D) (hij : i ≤ j) : SureD zs j D := ⟨h.sure, Nat.le_trans h.wet hij, h.dead, h.left, h.uniq⟩

theorem SureD.write {zs : List ByteArray} {i : Nat} {D : DK} (h : SureD zs i D) (at_ : Int) (data : ByteArray) : SureD zs (i + 1) (wrD D at_ data) := by
  unfold wrD
  split
  · have e1 : deedB D = true := by simp [deedB, h.dead, h.left]
    have e2 : deedD D = D := by simp [deedD, h.dead, h.left]
    unfold writeD
    rw [if_pos e1, e2]
    exact ⟨h.sure, Nat.le_trans (withF_len _ _) (by have := h.wet; omega), h.dead, h.left, h.uniq.with_ _⟩
  · exact h.more (by omega)

/-- What is there behind a start: what was sure, or what was to be. -/
theorem SureD.end_ {zs : List ByteArray} {i : Nat} {D : DK} (h : SureD zs i D) (stay j : Nat) : (settleF stay D.wet zs).getD j ByteArray.empty = zs.getD j ByteArray.empty ∨ (settleF stay D.wet zs).getD j ByteArray.empty = readF D.wet zs j := by
  rcases settle_at stay D.wet zs j D.wet.length with e | ⟨o, ho, hj, e⟩
  · exact .inl e
  · refine .inr ?_
    rw [read_uniq h.uniq zs j o ho hj]
    exact e

/-- Two disks in their boxes: the one that was flushed, and the one that is written. -/
structure SurRel (w : World) (g7 g9 i : Nat) (A7 B7 : Option Addr) (c7 m7 : Nat) (zs : List ByteArray) (A B : Option Addr) (n c m p : Nat) (D : DK) (wr : World) : Prop where
  b7 : wr.heap[g7]? = some (.cells #[.slice A7 5 c7, .slice B7 0 m7, .bool false, .int .i64 (-1)] 28 (0, 0))
  d7 : IsDisk wr (.agg #[.slice A7 5 c7, .slice B7 0 m7, .bool false, .int .i64 (-1)]) (cleanD zs)
  b9 : wr.heap[g9]? = some (.cells #[.slice A n c, .slice B m p, .bool D.dead, .int .i64 D.left] 28 (0, 0))
  d9 : IsDisk wr (.agg #[.slice A n c, .slice B m p, .bool D.dead, .int .i64 D.left]) D
  sur : SureD zs i D
  below : Below w.heap.size w wr
  le9 : w.heap.size ≤ g9
  ne : g7 ≠ g9

theorem SurRel.step {w wr y : World} {g7 g9 i : Nat} {A7 B7 A B : Option Addr} {c7 m7 n c m p : Nat} {zs : List ByteArray} {D D2 : DK} (h : SurRel w g7 g9 i A7 B7 c7 m7 zs A B n c m p D wr) (hg : SureD zs (i + 1) D2) {A2 B2 : Option Addr} {n2 c2 m2 p2 : Nat} (hb : Below wr.heap.size wr y) (hv : IsDisk y (.agg #[.slice A2 n2 c2, .slice B2 m2 p2, .bool D2.dead, .int .i64 D2.left]) D2) :
    SurRel w g7 g9 (i + 1) A7 B7 c7 m7 zs A2 B2 n2 c2 m2 p2 D2 ((((y.setCell ⟨g9, 0, none⟩ (.slice A2 n2 c2)).setCell ⟨g9, 1, none⟩ (.slice B2 m2 p2)).setCell ⟨g9, 2, none⟩ (.bool D2.dead)).setCell ⟨g9, 3, none⟩ (.int .i64 D2.left)) := by
  have h9 := box_kept _ h.b9 hb
  have h7 := box_kept _ h.b7 hb
  exact ⟨(store4_other _ _ _ _ _ _ _ h.ne).trans h7, (h.d7.below hb).other h9 (by decide) (by decide) (store4_other _ _ _ _ _ _), heap_store4 h9, hv.other h9 (by decide) (by decide) (store4_other _ _ _ _ _ _), hg, below_store4 (below_trans' h.below hb) _ h.le9 _ _ _ _, h.le9, h.ne⟩

theorem SurRel.more {w wr : World} {g7 g9 i : Nat} {A7 B7 A B : Option Addr} {c7 m7 n c m p : Nat} {zs : List ByteArray} {D : DK} (h : SurRel w g7 g9 i A7 B7 c7 m7 zs A B n c m p D wr) : SurRel w g7 g9 (i + 1) A7 B7 c7 m7 zs A B n c m p D wr :=
  ⟨h.b7, h.d7, h.b9, h.d9, h.sur.more (by omega), h.below, h.le9, h.ne⟩

/-- Started: of five sectors. -/
theorem startS_calls (v : Value) (D : DK) (zs : List ByteArray) (stay : Nat) (W : World) (hv : IsDisk W v D) (hok : D.ok) (hs : D.sure = zs) (hz : zs.length = 5) (hst : stay < 18446744073709551616) :
    Calls Try.prog 20 #[v, .int .u64 stay] W fun e w' => ∃ A c B m, e = .returned (.agg #[.slice A 5 c, .slice B 0 m, .bool false, .int .i64 (-1)]) ∧ IsDisk w' (.agg #[.slice A 5 c, .slice B 0 m, .bool false, .int .i64 (-1)]) (cleanD (settleF stay D.wet zs)) ∧ Below W.heap.size W w' := by
  refine (start_calls v D stay W hv hok hst).mono ?_
  rintro e w' ⟨v', rfl, hv', hb'⟩
  rw [hs] at hv'
  obtain ⟨A, c, B, m, rfl⟩ := parts_of hv' 5 0 false (-1) (by dsimp only; rw [settleF, settleK_length]; exact hz) rfl rfl rfl
  exact ⟨A, c, B, m, rfl, hv', hb'⟩

set_option maxRecDepth 100000 in
set_option maxHeartbeats 4000000 in
theorem sured_calls (A0 : Option Addr) (len cap : Nat) (xs : List AK) (A1 : Option Addr) (len1 cap1 : Nat) (ys : List AK) (stay : Nat) (w : World) (hst : stay < 18446744073709551616) (hlm : len ≤ 9223372036854775807) (hlm1 : len1 ≤ 9223372036854775807) (hR : ActIn w A0 len xs) (hR1 : ActIn w A1 len1 ys) :
    Calls Try.prog 4 #[.slice A0 len cap, .slice A1 len1 cap1, .int .u64 stay] w fun e w' => e = .returned (.bool true) ∧ Below w.heap.size w w' := by
  have HSM := Lib.hid (small_calls A0 len cap xs w hR hlm)
  have HR := Lib.hid hR
  have HR1 := Lib.hid hR1
  have HSTY := Lib.hid hst
  have HA : ∀ W, Calls Try.prog 9 #[] W _ := awake_true
  have HAW := Lib.hid HA
  clear hR hR1 HA hst
  go_enter Try.func4, Try.ntmps4
  go_wp2_with fail
  with_reducible refine HSM.out.mono ?_
  rintro e w1 ⟨b, rfl, hsm, hb1⟩
  have HB1 := Lib.hid hb1
  clear hb1 HSM
  cases b with
  | false =>
    clear hsm
    go_wp2_with (go_at_call 9; (with_reducible refine (HAW.out _).mono ?_); rintro e w2 ⟨rfl, hb⟩)
    go_ret
    exact ⟨rfl, below_trans' HB1.out hb⟩
  | true =>
    have hl60 := hsm rfl
    clear hsm
    have HSM := Lib.hid (small_calls A1 len1 cap1 ys w1 (HR1.out.below HB1.out) hlm1)
    go_wp2_with fail
    with_reducible refine HSM.out.mono ?_
    rintro e w1' ⟨b, rfl, hsm, hb1⟩
    have HB1' := Lib.hid (below_trans' HB1.out hb1)
    clear hb1 HSM HB1
    cases b with
    | false =>
      clear hsm
      go_wp2_with (go_at_call 9; (with_reducible refine (HAW.out _).mono ?_); rintro e w2 ⟨rfl, hb⟩)
      go_ret
      exact ⟨rfl, below_trans' HB1'.out hb⟩
    | true =>
      have hl61 := hsm rfl
      clear hsm
      have HPL := Lib.hid (played_calls A0 len cap xs w1' (HR.out.below HB1'.out) hl60)
      go_wp2_with fail
      with_reducible refine HPL.out.mono ?_
      rintro e w2 ⟨v2, D2, rfl, hv2, hg2, hb2⟩
      have HB2 := Lib.hid (below_trans' HB1'.out hb2)
      have hst0 : Calls Try.prog 20 #[v2, .int .u64 0] w2 _ := started_calls v2 D2 w2 hv2 hg2 0 (by omega)
      have HST := Lib.hid hst0
      clear hv2 hg2 hb2 HPL HB1' hst0
      go_wp2_with fail
      with_reducible refine HST.out.mono ?_
      rintro e w3 ⟨A6, c6, B6, m6, zs, rfl, hv3, hz5, hb3⟩
      have HB3 := Lib.hid (below_trans' HB2.out hb3)
      have HFC := Lib.hid (fclean_calls A6 B6 c6 m6 zs w3 hv3 hz5)
      clear hv3 hb3 HB2 HST
      go_wp2_with fail
      with_reducible refine HFC.out.mono ?_
      rintro e w4 ⟨A7, c7, B7, m7, rfl, hv4, hb4⟩
      obtain ⟨X4, g7, eX, eg, hG, hbX⟩ := box_new w4 (.slice A7 5 c7) (.slice B7 0 m7) (.bool false) (.int .i64 (-1))
      go_upto_region 4 with (fail)
      have HB4 := Lib.hid (below_trans' HB3.out (below_trans' hb4 hbX))
      have HV4 := Lib.hid (hv4.below hbX)
      have HG4 := Lib.hid hG
      have hz7 : g7 < X4.heap.size := (Array.getElem?_eq_some_iff.1 hG).1
      obtain ⟨⟨p0, p1, p2, p3⟩, _⟩ := box4 hG
      clear eX eg hG hbX hb4 hv4 HFC HB3
      obtain ⟨X5, g9, eX, eg, hG, hbX⟩ := box_new X4 (.slice A7 5 c7) (.slice B7 0 m7) (.bool false) (.int .i64 (-1))
      go_upto_region 5 with (fail)
      have hne : g7 ≠ g9 := by omega
      have hle9 : w.heap.size ≤ g9 := by have := HB4.out.size; omega
      have hrel0 : SurRel w g7 g9 0 A7 B7 c7 m7 zs A7 B7 5 c7 0 m7 (cleanD zs) X5 := ⟨box_kept _ HG4.out hbX, HV4.out.below hbX, hG, HV4.out.below hbX, ⟨rfl, by simp [cleanD], rfl, rfl, fun _ h => by cases h⟩, below_trans' HB4.out hbX, hle9, hne⟩
      clear eX eg hG hbX HB4 HG4 HV4 p0 p1 p2 p3 HR hz7
      generalize Value.tuple #[Value.agg #[Value.slice A7 5 c7, Value.slice B7 0 m7, Value.bool false, Value.int IntKind.i64 (-1)], Value.int IntKind.i64 0] = tu1
      generalize Value.agg #[Value.slice A7 5 c7, Value.slice B7 0 m7, Value.bool false, Value.int IntKind.i64 (-1)] = ag1
      generalize Value.agg #[Value.slice A6 5 c6, Value.slice B6 0 m6, Value.bool false, Value.int IntKind.i64 (-1)] = ag2
      go_wp2_with fail
      go_loopw [10] (fun u10 wr => ∃ (i : Nat) (A B : Option Addr) (n c m p : Nat) (D : DK), i ≤ len1 ∧ u10 = .int .i64 i ∧ SurRel w g7 g9 i A7 B7 c7 m7 zs A B n c m p D wr) (fun u _ => len1 - (intOf u).toNat)
      case atStart => exact ⟨0, A7, B7, 5, c7, 0, m7, cleanD zs, Nat.zero_le _, rfl, hrel0⟩
      case round =>
        obtain ⟨i, A, B, n, c, m, p, D, hi, rfl, hrel⟩ := hrel
        clear hrel0
        by_cases hlt : i < len1
        · obtain ⟨a, ha⟩ : ∃ a, ys[i]? = some a := ⟨_, List.getElem?_eq_getElem (by have := HR1.out.1; omega)⟩
          obtain ⟨b, off, rfl, hbl, hcell⟩ := HR1.out.2.2 (by omega)
          have hb := hrel.below
          have hc0 := (hb.cell (p := ⟨b, off + i * 4, none⟩) hbl).trans (hcell i a ha).1
          have hc1 := (hb.cell (p := ⟨b, off + i * 4 + 1, none⟩) hbl).trans (hcell i a ha).2.1
          have hc2 := (hb.cell (p := ⟨b, off + i * 4 + 2, none⟩) hbl).trans (hcell i a ha).2.2.1
          obtain ⟨⟨p0, p1, p2, p3⟩, f0, f1, f2, f3⟩ := box4 hrel.b9
          have hi1 : (0 : Int) ≤ (i : Int) := by omega
          have hi2 : (i : Int) < (len1 : Int) := by omega
          by_cases hk : a.kind = 0
          · rw [hk] at hc0
            have hwr : ∀ W : World, IsDisk W (.agg #[.slice A n c, .slice B m p, .bool D.dead, .int .i64 D.left]) D → Calls Try.prog 22 #[.agg #[.slice A n c, .slice B m p, .bool D.dead, .int .i64 D.left], .int .i64 a.place, .string a.data] W fun e w' => ∃ A2 n2 c2 B2 m2 d2 D2 E, e = .returned (.tuple #[.agg #[.slice A2 n2 c2, .slice B2 m2 d2, .bool D2.dead, .int .i64 D2.left], .int .i64 E]) ∧ IsDisk w' (.agg #[.slice A2 n2 c2, .slice B2 m2 d2, .bool D2.dead, .int .i64 D2.left]) D2 ∧ SureD zs (i + 1) D2 ∧ Below W.heap.size W w' := fun W hv => by
              refine (write_calls _ D a.place a.data W hv (hrel.sur.ok hz5 (by omega))).mono ?_
              rintro e w' ⟨v', rfl, hv', hb'⟩
              obtain ⟨A2, n2, c2, B2, m2, d2, rfl⟩ := hv'.parts
              exact ⟨A2, n2, c2, B2, m2, d2, _, _, rfl, hv', hrel.sur.write _ _, hb'⟩
            have HDO := Lib.hid hwr
            have HREL := Lib.hid hrel
            clear hcell ha hb hrel hwr hk
            go_upto_region 9 with (fail)
            go_region_with (first | (go_at_call 22; (with_reducible refine (HDO.out _ (disk_drew HREL.out.d9)).mono ?_); rintro e y ⟨A2, n2, c2, B2, m2, d2, D2, E, rfl, hvy, hgy, hby⟩; have HvY := Lib.hid hvy; have HgY := Lib.hid hgy; have HbY := Lib.hid hby; have hyb := box4 (box_kept _ HREL.out.b9 (below_of_drew (by with_reducible exact hby))); obtain ⟨⟨z0, z1, z2, z3⟩, e0, e1, e2, e3⟩ := hyb; clear hvy hgy hby))
            all_goals
              have HR' := Lib.hid (HREL.out.step HgY.out (below_of_drew HbY.out) HvY.out)
              clear HDO HREL
              go_wp2_with fail
              exact ⟨⟨i + 1, A2, B2, n2, c2, m2, d2, D2, by omega, by go_num, HR'.out⟩, by simp [intOf]; omega⟩
          · have hk0 : (a.kind == 0) = false := by simpa using hk
            have HREL := Lib.hid hrel
            clear hcell ha hb hrel hk
            go_wp2_with fail
            exact ⟨⟨i + 1, A, B, n, c, m, p, D, by omega, by go_num, HREL.out.more⟩, by simp [intOf]; omega⟩
        · have hnl : decide ((i : Int) < (len1 : Int)) = false := by simp; omega
          obtain ⟨⟨p0, p1, p2, p3⟩, _⟩ := box4 hrel.b9
          have HREL := Lib.hid hrel
          have HS0 := Lib.hid (startS_calls _ D zs stay wr hrel.d9 (hrel.sur.ok hz5 (by omega)) hrel.sur.sure hz5 HSTY.out)
          have HE := Lib.hid (hrel.sur.end_ stay)
          clear hrel
          obtain ⟨ss, hss⟩ : ∃ ss, ss = settleF stay D.wet zs := ⟨_, rfl⟩
          have hs5 : ss.length = 5 := by rw [hss, settleF, settleK_length]; exact hz5
          rw [← hss] at HS0 HE
          clear hss
          go_wp2_with fail
          with_reducible refine HS0.out.mono ?_
          rintro e w6 ⟨A14, c14, B14, m14, rfl, hv6, hb6⟩
          obtain ⟨X6, g14, eX, eg, hG, hbX⟩ := box_new w6 (.slice A14 5 c14) (.slice B14 0 m14) (.bool false) (.int .i64 (-1))
          go_upto_region 11 with (fail)
          have hb' := below_trans' hb6 hbX
          have HB6 := Lib.hid (below_trans' HREL.out.below hb')
          obtain ⟨b14, o14, rfl, hl14, hc14⟩ := clean_at (hv6.below hbX) hs5
          obtain ⟨b7, o7, rfl, hl7, hc7⟩ := clean_at (HREL.out.d7.below hb') hz5
          have HC14 := Lib.hid hc14
          have HC7 := Lib.hid hc7
          have HG14 := Lib.hid hG
          have HG7 := Lib.hid (box_kept _ HREL.out.b7 hb')
          have HG9 := Lib.hid (box_kept _ HREL.out.b9 hb')
          have HD9 := Lib.hid (HREL.out.d9.below hb')
          have HSU := Lib.hid HREL.out.sur
          clear p0 p1 p2 p3 hc14 hc7
          obtain ⟨⟨p0, p1, p2, p3⟩, _⟩ := box4 hG
          obtain ⟨⟨q0, q1, q2, q3⟩, _⟩ := box4 HG7.out
          clear eX eg hG hbX hb6 hv6 hb' HS0 HREL
          go_wp2_with fail
          go_loopw [12] (fun u12 wr => ∃ i : Nat, i ≤ 5 ∧ u12 = .int .i64 i ∧ Below X6.heap.size X6 wr) (fun u _ => 5 - (intOf u).toNat)
          case atStart => exact ⟨0, Nat.zero_le _, rfl, Below.refl _ _⟩
          case round =>
            obtain ⟨j, hj, rfl, hbr⟩ := hrel
            have HBR := Lib.hid hbr
            clear hbr p0 p1 p2 p3 q0 q1 q2 q3
            by_cases hj5 : j < 5
            · have hl : decide ((j : Int) < 5) = true := by simp; omega
              have hj1 : (0 : Int) ≤ (j : Int) := by omega
              have hj2 : (j : Int) < 5 := by omega
              have hrd : ∀ W : World, IsDisk W (.agg #[.slice A n c, .slice B m p, .bool D.dead, .int .i64 D.left]) D → Calls Try.prog 23 #[.agg #[.slice A n c, .slice B m p, .bool D.dead, .int .i64 D.left], .int .i64 j] W fun e w' => e = .returned (.tuple #[.string (readF D.wet zs j), .int .i64 0]) ∧ Below W.heap.size W w' := fun W hv => by
                have := read_ok _ D j W hv (HSU.out.ok hz5 (by omega)) (by omega) (by rw [HSU.out.sure, hz5]; omega) HSU.out.dead
                rwa [HSU.out.sure] at this
              have hend := HE.out j
              obtain ⟨L, hL⟩ : ∃ L, L = readF D.wet zs j := ⟨_, rfl⟩
              obtain ⟨Y, hY⟩ : ∃ Y, Y = ss.getD j ByteArray.empty := ⟨_, rfl⟩
              obtain ⟨Z, hZ⟩ : ∃ Z, Z = zs.getD j ByteArray.empty := ⟨_, rfl⟩
              have hx0 := HC14.out j hj5
              have hy0 := HC7.out j hj5
              rw [← hL, ← hY, ← hZ] at hend
              simp only [← hL] at hrd
              rw [← hY] at hx0
              rw [← hZ] at hy0
              have HEND := Lib.hid hend
              have HRD := Lib.hid hrd
              have HX0 := Lib.hid hx0
              have HY0 := Lib.hid hy0
              clear hend hrd hx0 hy0 hL hY hZ
              obtain ⟨⟨r0, r1, r2, r3⟩, _⟩ := box4 (box_kept _ HG9.out HBR.out)
              go_wp2_with fail
              with_reducible refine (HRD.out _ (HD9.out.below HBR.out)).mono ?_
              rintro e y ⟨rfl, hb⟩
              have HBY := Lib.hid (below_trans' HBR.out hb)
              clear hb r0 r1 r2 r3 HBR
              obtain ⟨⟨p0, p1, p2, p3⟩, _⟩ := box4 (box_kept _ HG14.out HBY.out)
              obtain ⟨⟨q0, q1, q2, q3⟩, _⟩ := box4 (box_kept _ HG7.out HBY.out)
              have hx := (HBY.out.cell (p := ⟨b14, o14 + j, none⟩) hl14).trans HX0.out
              have hy := (HBY.out.cell (p := ⟨b7, o7 + j, none⟩) hl7).trans HY0.out
              by_cases hYZ : Y = Z
              · subst hYZ
                clear HEND
                go_upto_region 17 with (fail)
                go_quiet (fail)
                go_wp2_with fail
                exact ⟨⟨j + 1, by omega, by go_num, HBY.out.trans ⟨rfl, rfl, rfl, Nat.le_refl _, fun _ _ => rfl⟩⟩, by simp [intOf]; omega⟩
              · have hYL : Y = L := HEND.out.resolve_left hYZ
                have hne2 := bytes_ne hYZ
                clear HEND hYZ
                subst hYL
                go_upto_region 17 with (fail)
                go_quiet (fail)
                go_wp2_with fail
                exact ⟨⟨j + 1, by omega, by go_num, HBY.out.trans ⟨rfl, rfl, rfl, Nat.le_refl _, fun _ _ => rfl⟩⟩, by simp [intOf]; omega⟩
            · have hl : decide ((j : Int) < 5) = false := by simp; omega
              go_wp2_with (go_at_call 9; (with_reducible refine (HAW.out _).mono ?_); rintro e y ⟨rfl, hb⟩)
              go_ret
              exact ⟨rfl, below_trans' HB6.out (below_trans' HBR.out hb)⟩

end Go.Proofs.Ytnnbbkfdijionaa
