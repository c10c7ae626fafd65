/- Contracts and plain mathematics that the statement's proof wants: no statement is proved here, nothing is assumed. -/
import Derived.Maps.AppendAt
import Derived.Deep.RegionLaw
import Derived.Deep.AppendLies
import Derived.Test.YtnbbijpmkhdgpaaGreatMg07
import Derived.Test.YtnbbijpmkhdgpaaGreatMg16
import Derived.Test.YtnbbijpmkhdgpaaGreatMg17
import Derived.Test.YtnbbijpmkhdgpaaGreatMg18
/- DRList -/
namespace Go.Proofs.YtnbbijpmkhdgpaaGreat.Dsk
open Go.RowKit

end Go.Proofs.YtnbbijpmkhdgpaaGreat.Dsk

/- DRPut -/
namespace Go.Proofs.YtnbbijpmkhdgpaaGreat.Dsk
open Go.RowKit
attribute [local go_sem ↓] Go.wp_at_zero Go.wp_at_succ

theorem own_ge {W : World} {base : Nat} {e : TypeId} {size n : Nat} {v : Value} {xs : List Value} (h : W.ownsRow base e size v n xs) : ∀ k, v.ownBlock = some k → base ≤ k := by
  intro k hk
  rcases h.2 with ⟨rfl, _⟩ | ⟨g, cap, cur, rfl, hb, _⟩
  · simp [Value.ownBlock] at hk
  · simp [Value.ownBlock] at hk
    omega

theorem disk_wet {W : World} {A B : Option Addr} {n c m p : Nat} {b : Bool} {l : Int} {d : DK} (h : IsDisk W (.agg #[.slice A n c, .slice B m p, .bool b, .int .i64 l]) d) : m = d.wet.length ∧ Reads W 72 2 B m (wetCells d.wet) := by
  obtain ⟨vs, vw, e, _, ⟨A1, c1, e1, _, hr⟩⟩ := h
  simp only [Value.agg.injEq, Array.mk.injEq, List.cons.injEq] at e
  obtain ⟨_, e0, _⟩ := e
  rw [e1] at e0
  injection e0 with e2 e3 e4
  subst e2
  rw [← e3] at hr
  exact ⟨e3, hr⟩

theorem tw_take {p : Wt} : ∀ (l : List Wt) (i : Nat), (∀ q x, q < i → l[q]? = some x → x.1 < p.1) → (∀ x, l[i]? = some x → ¬ x.1 < p.1) → i ≤ l.length → l.takeWhile (fun o => decide (o.1 < p.1)) = l.take i ∧ l.dropWhile (fun o => decide (o.1 < p.1)) = l.drop i
  | [], i, _, _, h3 => by simp at h3; subst h3; simp
  | x :: l, 0, _, h2, _ => by
    have := h2 x rfl
    simp [this]
  | x :: l, i + 1, h1, h2, h3 => by
    have h0 := h1 0 x (by omega) rfl
    have ih := tw_take (p := p) l i (fun q y hq hy => h1 (q + 1) y (by omega) (by simpa using hy)) (fun y hy => h2 y (by simpa using hy)) (by simpa using h3)
    simp [h0, ih.1, ih.2]

theorem acc_next {wet : List Wt} {i j : Nat} {o p : Wt} (h : i ≤ j) (ho : wet[j]? = some o) (pre : List Wt) : pre ++ ((wet.drop i).take (j + 1 - i)).filter (fun o => decide (o.1 ≠ p.1)) = (pre ++ ((wet.drop i).take (j - i)).filter (fun o => decide (o.1 ≠ p.1))) ++ (if o.1 = p.1 then [] else [o]) := by
  have e : j + 1 - i = (j - i) + 1 := by omega
  rw [e, List.take_add_one, List.getElem?_drop, show i + (j - i) = j by omega, ho]
  by_cases h1 : o.1 = p.1 <;> simp [h1]

set_option maxRecDepth 100000 in
set_option maxHeartbeats 4000000 in
theorem rwrite_done (v : Value) (d : DK) (at_ : Int) (data : ByteArray) (w : World) (hv : IsDisk w v d) (hd : d.ok) (h1 : 0 ≤ at_) (h2 : at_ < d.sure.length) (h3 : data.size ≤ 256) (hdown : deedB d = true) (hrise : Rising d.wet) :
    Calls Tryz.prog 21 #[v, .int .i64 at_, .string data] w fun e w' => ∃ v', e = .returned (.tuple #[v', .int .i64 0]) ∧ IsDisk w' v' { deedD d with wet := withF (at_, padB data) d.wet } ∧ Below w.heap.size w w' := by
  obtain ⟨A, n, c, A', m, c', rfl⟩ := hv.parts
  have hnl : d.sure.length = n := by
    obtain ⟨vs, vw, e, ⟨A1, c1, e1, _⟩, _⟩ := hv
    simp only [Value.agg.injEq, Array.mk.injEq, List.cons.injEq] at e
    rw [e1] at e
    injection e.1 with _ e2
    exact e2.symm
  rw [hnl] at h2
  have hd0 : decide (at_ < 0) = false := decide_eq_false (by omega)
  have hd1' : decide ((n : Int) ≤ at_) = false := decide_eq_false (by omega)
  have hd2 : decide ((256 : Int) < (data.size : Int)) = false := by simp; omega
  have hwt : (deedD d).wet = d.wet := by unfold deedD; split <;> (try split) <;> rfl
  have hsr : (deedD d).sure = d.sure := by unfold deedD; split <;> (try split) <;> rfl
  have hdo := deedD_ok hd
  obtain ⟨d1, hd1⟩ : ∃ d1, d1 = deedD d := ⟨_, rfl⟩
  obtain ⟨b1, hb1⟩ : ∃ b1, b1 = deedB d := ⟨_, rfl⟩
  have hde : ∀ W : World, Below w.heap.size w W → Calls Tryz.prog 50 #[.agg #[.slice A n c, .slice A' m c', .bool d.dead, .int .i64 d.left]] W fun e w' => ∃ v', e = .returned (.tuple #[v', .bool b1]) ∧ IsDisk w' v' d1 ∧ Below W.heap.size W w' := fun W hb => by
    rw [hd1, hb1]; exact rdeed_calls _ d W (hv.below hb) hd.lo hd.hi
  rw [← hd1] at hwt hsr hdo ⊢
  rw [hdown] at hb1
  subst hb1
  rw [← hwt] at hrise ⊢
  clear hd1 hwt hsr hv hd hnl
  obtain ⟨sure, wet, dead, left⟩ := d
  dsimp only at hde
  have HDE := Lib.hid hde
  have HDO := Lib.hid hdo
  have HRISE := Lib.hid hrise
  clear hrise
  clear hde hdo
  go_enter Tryz.func21, Tryz.ntmps21
  go_wp2_with fail
  have hb0 : Below w.heap.size w ((w.alloc (.cells #[.slice A n c, .slice A' m c', .bool dead, .int .i64 left] 28)).alloc (.cells #[.slice none 0 0, .slice none 0 0, .bool false, .int .i64 0] 28)) := ((Below.refl _ _).alloc (Nat.le_refl _) _).alloc (by simp) _
  with_reducible refine (HDE.out _ hb0).mono ?_
  clear HDE
  rintro e w1 ⟨v1, rfl, hv1, hb1⟩
  obtain ⟨A1, n1, c1, A1', m1, c1', rfl⟩ := hv1.parts
  obtain ⟨sure1, wet1, dead1, left1⟩ := d1
  dsimp only at hv1 ⊢
  have hg1 := box_kept w.heap.size (box_alloc (heap_alloc_new w _) _) hb1
  have hg2 : w1.heap[w.heap.size + 1]? = some (.cells #[.slice none 0 0, .slice none 0 0, .bool false, .int .i64 0] 28 (0, 0)) := box_kept (w.heap.size + 1) (by have := heap_alloc_new (w.alloc (.cells #[.slice A n c, .slice A' m c', .bool dead, .int .i64 left] 28)) (.cells #[.slice none 0 0, .slice none 0 0, .bool false, .int .i64 0] 28); simpa using this) hb1
  have hbw := below_trans' hb0 hb1
  obtain ⟨w2, e2, hG2, hK2, hB2⟩ := box_store4 hg1 (.slice A1 n1 c1) (.slice A1' m1 c1') (.bool dead1) (.int .i64 left1)
  have HV2 := Lib.hid (hv1.other hg1 (by decide) (by decide) hK2)
  have HB := Lib.hid (hB2 _ _ hbw (Nat.le_refl _))
  have hr2 : w2.heap[w.heap.size + 1]? = _ := (hK2 _ (by omega)).trans hg2
  obtain ⟨⟨hp0, hp1, hp2, hp3⟩, hf0, hf1, hf2, hf3⟩ := box4 hg1
  have HG2 := Lib.hid hG2
  have HR2 := Lib.hid hr2
  have E2 := Lib.hid e2
  clear hb0 hb1 hv1 hg1 hg2 hbw e2 hG2 hK2 hB2 hr2
  go_upto_region 4 with (fail)
  rw [E2.out]
  clear hp0 hp1 hp2 hp3 hf0 hf1 hf2 hf3 E2
  obtain ⟨⟨hp0, hp1, hp2, hp3⟩, hf0, hf1, hf2, hf3⟩ := box4 HG2.out
  obtain ⟨⟨hq0, hq1, hq2, hq3⟩, hr0, hr1, hr2, hr3⟩ := box4 HR2.out
  obtain ⟨k, hk⟩ : ∃ k : Nat, k = 256 - data.size := ⟨_, rfl⟩
  have hk2 : (256 : Int) - (data.size : Int) = (k : Int) := by omega
  obtain ⟨i0, hi, hz0, hz1, hz2⟩ := info_parts Tryz.info5
  have hmk : ∀ W : World, (Instr.makeSlice 76 (.int .i64 (256 - (data.size : Int))) (.int .i64 (256 - (data.size : Int)))).run Tryz.prog W = .ok (.slice (some ⟨W.heap.size, 0, none⟩) k k) (W.alloc (.cells (madeCells (Value.cells (.int .u8 0)) k) 5)) := by
    intro W
    have := run_make (P := Tryz.prog) W 76 5 i0 (.int .u8 0) Tryz.underlying76 hi hz0 .i64 .i64 (256 - (data.size : Int)) (256 - (data.size : Int)) (by omega) (by omega) (by rw [hz2]; omega) (by omega)
    rw [this, hk2, hz1]
    simp
  obtain ⟨t, ht⟩ : ∃ t : ByteArray, t = ⟨(List.replicate k (0 : UInt8)).toArray⟩ := ⟨_, rfl⟩
  have hcv : ∀ W : World, (convert 76 9 (.slice (some ⟨W.heap.size, 0, none⟩) k k)).run Tryz.prog (W.alloc (.cells (madeCells #[.int .u8 0] k) 5)) = .ok (.string t) (W.alloc (.cells (madeCells #[.int .u8 0] k) 5)) := by
    intro W
    have h0 := run_convert_bytes_back (P := Tryz.prog) (W.alloc (.cells (madeCells #[.int .u8 0] k) 5)) 76 9 5 ⟨W.heap.size, 0, none⟩ k (List.replicate k 0) Tryz.underlying76 Tryz.underlying5 Tryz.underlying9 ?_
    · rw [ht]; simpa using h0
    · intro j hj
      have hj' : j < k := by simpa using hj
      rw [Addr.add_lit, cell_of_row _ _ _ _ _ _ (heap_alloc_new W _)]
      simp [madeCells, hj', Nat.mod_one]
  have e2 := padB_eq data k hk
  have hts : t.size = k := by rw [ht]; simp [ByteArray.size]
  have hts2 : t.size ≤ 256 := by omega
  rw [← ht] at e2
  have E3 := Lib.hid e2
  clear e2 ht hts hk hk2 hi hz0 hz1 hz2
  go_upto_region 7 with (fail)
  rw [E3.out]
  obtain ⟨P, hP⟩ : ∃ P, P = padB data := ⟨_, rfl⟩
  rw [← hP]
  obtain ⟨X, gW, eX, eW, hGW, hbX⟩ : ∃ X gW, ((w2.alloc (.cells (madeCells #[.int .u8 0] k) 5)).alloc (.cells #[.int .i64 at_, .string P] 72)) = X ∧ w2.heap.size + 1 = gW ∧ X.heap[gW]? = some (.cells #[.int .i64 at_, .string P] 72 (0, 0)) ∧ Below w2.heap.size w2 X := ⟨_, _, rfl, rfl, by have := heap_alloc_new (w2.alloc (.cells (madeCells #[.int .u8 0] k) 5)) (.cells #[.int .i64 at_, .string P] 72); simpa using this, ((Below.refl _ _).alloc (Nat.le_refl _) _).alloc (by simp) _⟩
  rw [eX, eW]
  have HVX := Lib.hid (HV2.out.below hbX)
  have HGD := Lib.hid (box_kept _ HG2.out hbX)
  have HGR := Lib.hid (box_kept _ HR2.out hbX)
  have HGW := Lib.hid hGW
  have HBX := Lib.hid (below_trans' HB.out hbX)
  obtain ⟨hm1, hwr⟩ := disk_wet HVX.out
  dsimp only at hm1 hwr
  have HM := Lib.hid hm1
  have HW := Lib.hid hwr
  have HP := Lib.hid hP
  have hm2 : m1 ≤ 2000 := by have := HDO.out.wet; dsimp only at this; omega
  obtain ⟨i1, hi, hz0, hz1, hz2⟩ := info_parts Tryz.info52
  clear eX eW hGW hbX hm1 hwr hP HV2 HG2 HR2 HB hp0 hp1 hp2 hp3 hf0 hf1 hf2 hf3 hq0 hq1 hq2 hq3 hr0 hr1 hr2 hr3 E3 hts2 hdown
  obtain ⟨⟨p0, p1, p2, p3⟩, _⟩ := box4 HGD.out
  generalize Value.tuple #[Value.agg #[Value.slice A1 n1 c1, Value.slice A1' m1 c1', Value.bool dead1, Value.int IntKind.i64 left1], Value.bool true] = tu1
  generalize Value.agg #[Value.slice A1 n1 c1, Value.slice A1' m1 c1', Value.bool dead1, Value.int IntKind.i64 left1] = ag1
  generalize Value.agg #[Value.slice A n c, Value.slice A' m c', Value.bool dead, Value.int IntKind.i64 left] = ag2
  go_wp2_with fail
  go_loopw [10, 11] (fun u10 u11 wr => ∃ i : Nat, i ≤ m1 ∧ u11 = .int .i64 i ∧ (∀ q x, q < i → wet1[q]? = some x → x.1 < at_) ∧ wr.ownsRow X.heap.size 72 2 u10 i (wetCells (wet1.take i)) ∧ Below X.heap.size X wr) (fun _ u _ => m1 - (intOf u).toNat)
  case atStart => exact ⟨0, Nat.zero_le _, rfl, fun q x hq => absurd hq (by omega), World.ownsRow_nil _ _ _ _, Below.refl _ _⟩
  case round =>
    obtain ⟨i, hi', rfl, hlow, hown, hbr⟩ := hrel
    have HLOW := Lib.hid hlow
    have HOWN := Lib.hid hown
    have HBR := Lib.hid hbr
    clear hlow hown hbr p0 p1 p2 p3
    obtain ⟨⟨p0, p1, p2, p3⟩, _⟩ := box4 (box_kept _ HGD.out HBR.out)
    by_cases hgo : ∃ o, wet1[i]? = some o ∧ o.1 < at_
    · obtain ⟨⟨oa, od⟩, ho, hlt⟩ := hgo
      have hilt : i < m1 := by have := (List.getElem?_eq_some_iff.1 ho).1; have := HM.out; omega
      obtain ⟨b, off, rfl, hbl, hcell⟩ := HW.out.at_ (by omega)
      obtain ⟨hw0, hw1⟩ := wetCells_at wet1 i _ ho
      have hc0 := (HBR.out.cell (p := ⟨b, off + i * 2, none⟩) hbl).trans (hcell _ _ hw0)
      have hc1 := (HBR.out.cell (p := ⟨b, off + i * 2 + 1, none⟩) hbl).trans (hcell _ _ hw1)
      dsimp only at hlt hc0 hc1
      have hdl : decide (oa < at_) = true := decide_eq_true hlt
      have hi1 : (0 : Int) ≤ (i : Int) := by omega
      have hi2 : (i : Int) < (m1 : Int) := by omega
      have HO := Lib.hid ho
      clear hcell hw0 hw1 ho
      go_wp2_with (at_builtin; refine wpList_append_own_at _ (by rfl) (.tmp 63) (.tmp 69) 26 (by rfl) X.heap.size 72 i1 (.agg #[.int .i64 0, .string ⟨#[]⟩]) 2 24 Tryz.underlying26 hi hz0 hz1 hz2 (by rfl) (by omega) _ i (wetCells (wet1.take i)) (by rfl) (by exact HOWN.out.alloc _) ⟨wr.heap.size, 0, none⟩ 1 1 [.int .i64 oa, .string od] (by rfl) (by rfl) (by exact news2 rfl _ _ _) (by simp [Value.oneCell']) (Nat.le_trans (show i + 1 ≤ 1000000 by omega) (by decide)) (by omega) (by have := HBR.out.size; simp; omega) ?_; intro v' w' hown' hgrow' hnil' hat')
      refine ⟨⟨i + 1, by omega, by go_num, fun q x hq hx => ?_, ?_, (HBR.out.alloc HBR.out.size _).grown hgrow' (by have := HBR.out.size; simp; omega) (own_ge (HOWN.out.alloc (.cells #[.int .i64 oa, .string od] 72)))⟩, by simp [intOf]; omega⟩
      · by_cases e : q = i
        · subst e
          rw [HO.out] at hx
          injection hx with hx
          subst hx
          exact hlt
        · exact HLOW.out q x (by omega) hx
      · rw [List.take_add_one, HO.out]
        simpa [wetCells] using hown'
    · have hstop : ∀ x, wet1[i]? = some x → ¬ x.1 < at_ := fun x hx hl => hgo ⟨x, hx, hl⟩
      have htw := tw_take (p := (at_, P)) wet1 i HLOW.out hstop (by have := HM.out; omega)
      have HTW := Lib.hid htw
      have HST := Lib.hid hstop
      obtain ⟨A2, c2, ev, _⟩ := SL.of_own HOWN.out
      subst ev
      clear hgo hstop htw HLOW
      obtain ⟨⟨r0, r1⟩, _⟩ := box2 (box_kept _ HGW.out HBR.out)
      by_cases hilt : i < m1
      · obtain ⟨⟨oa, od⟩, ho⟩ : ∃ o, wet1[i]? = some o := ⟨_, List.getElem?_eq_getElem (by have := HM.out; omega)⟩
        have hge := HST.out _ ho
        obtain ⟨b, off, e0, hbl, hcell⟩ := HW.out.at_ (by omega)
        subst e0
        obtain ⟨hw0, hw1⟩ := wetCells_at wet1 i _ ho
        have hc0 := (HBR.out.cell (p := ⟨b, off + i * 2, none⟩) hbl).trans (hcell _ _ hw0)
        dsimp only at hge hc0
        have hdl : decide (oa < at_) = false := decide_eq_false hge
        have hi1 : (0 : Int) ≤ (i : Int) := by omega
        have hi2 : (i : Int) < (m1 : Int) := by omega
        clear hcell hw0 hw1 ho hge
        go_upto_region 12 with (fail)
        go_wp2_with (at_builtin; refine wpList_append_own_at _ (by rfl) (.tmp 73) (.tmp 75) 26 (by rfl) X.heap.size 72 i1 (.agg #[.int .i64 0, .string ⟨#[]⟩]) 2 24 Tryz.underlying26 hi hz0 hz1 hz2 (by rfl) (by omega) _ i (wetCells (wet1.take i)) (by rfl) (by exact HOWN.out.alloc _) ⟨wr.heap.size, 0, none⟩ 1 1 [.int .i64 at_, .string P] (by rfl) (by rfl) (by exact news2 rfl _ _ _) (by simp [Value.oneCell']) (Nat.le_trans (show i + 1 ≤ 1000000 by omega) (by decide)) (by omega) (by have := HBR.out.size; simp; omega) ?_; intro v3 w3 hown3 hgrow3 hnil3 hat3)
        have hbr3 : Below X.heap.size X w3 := (HBR.out.alloc HBR.out.size _).grown hgrow3 (by have := HBR.out.size; simp; omega) (own_ge (HOWN.out.alloc (.cells #[.int .i64 at_, .string P] 72)))
        have hown3' : w3.ownsRow X.heap.size 72 2 v3 (wet1.take i ++ [(at_, P)]).length (wetCells (wet1.take i ++ [(at_, P)])) := by
          have hl : (wet1.take i ++ [(at_, P)]).length = i + 1 := by
            have := HM.out
            simp
            omega
          rw [hl, wetCells_append, wetCells_one]; exact hown3
        have HB3 := Lib.hid hbr3
        have HO3 := Lib.hid hown3'
        clear hown3 hgrow3 hnil3 hat3 hbr3 hown3' p0 p1 p2 p3 r0 r1 HBR HOWN
        obtain ⟨⟨p0, p1, p2, p3⟩, _⟩ := box4 (box_kept _ HGD.out HB3.out)
        go_loopw [10, 13] (fun u10 u13 wr => ∃ (j : Nat) (acc : List Wt), i ≤ j ∧ j ≤ m1 ∧ u13 = .int .i64 j ∧ acc = wet1.take i ++ [(at_, P)] ++ ((wet1.drop i).take (j - i)).filter (fun o => decide (o.1 ≠ (at_, P).1)) ∧ acc.length ≤ j + 1 ∧ wr.ownsRow X.heap.size 72 2 u10 acc.length (wetCells acc) ∧ Below X.heap.size X wr) (fun _ u _ => m1 - (intOf u).toNat)
        case atStart => exact ⟨i, _, Nat.le_refl _, hi', rfl, by simp, by simp; omega, HO3.out, HB3.out⟩
        case round =>
          obtain ⟨j, acc, hij, hjm, rfl, hacc, hal, hown, hbr⟩ := hrel
          have HACC := Lib.hid hacc
          have HOWN := Lib.hid hown
          have HBR := Lib.hid hbr
          clear hacc hown hbr p0 p1 p2 p3 HB3 HO3
          obtain ⟨⟨p0, p1, p2, p3⟩, f0, f1, f2, f3⟩ := box4 (box_kept _ HGD.out HBR.out)
          by_cases hjlt : j < m1
          · obtain ⟨⟨oa, od⟩, ho⟩ : ∃ o, wet1[j]? = some o := ⟨_, List.getElem?_eq_getElem (by have := HM.out; omega)⟩
            obtain ⟨b2, off2, e2, hbl2, hcell2⟩ := HW.out.at_ (by omega)
            cases e2
            obtain ⟨hw0, hw1⟩ := wetCells_at wet1 j _ ho
            have hc0 := (HBR.out.cell (p := ⟨_, _ + j * 2, none⟩) hbl2).trans (hcell2 _ _ hw0)
            have hc1 := (HBR.out.cell (p := ⟨_, _ + j * 2 + 1, none⟩) hbl2).trans (hcell2 _ _ hw1)
            dsimp only at hc0 hc1
            have hj1 : (0 : Int) ≤ (j : Int) := by omega
            have hj2 : (j : Int) < (m1 : Int) := by omega
            have hnx := acc_next (p := (at_, P)) hij ho (wet1.take i ++ [(at_, P)])
            rw [← HACC.out] at hnx
            have HNX := Lib.hid hnx
            clear hcell2 hw0 hw1 ho hnx
            by_cases he : oa = at_
            · subst he
              go_wp2_with fail
              refine ⟨⟨j + 1, acc, by omega, by omega, by go_num, ?_, by omega, HOWN.out, HBR.out⟩, by simp [intOf]; omega⟩
              rw [HNX.out]; simp
            · have hf : (oa == at_) = false := by simpa using he
              go_wp2_with (at_builtin; refine wpList_append_own_at _ (by rfl) (.tmp 93) (.tmp 99) 26 (by rfl) X.heap.size 72 i1 (.agg #[.int .i64 0, .string ⟨#[]⟩]) 2 24 Tryz.underlying26 hi hz0 hz1 hz2 (by rfl) (by omega) _ acc.length (wetCells acc) (by rfl) (by exact HOWN.out.alloc _) ⟨wr.heap.size, 0, none⟩ 1 1 [.int .i64 oa, .string od] (by rfl) (by rfl) (by exact news2 rfl _ _ _) (by simp [Value.oneCell']) (Nat.le_trans (show acc.length + 1 ≤ 1000000 by omega) (by decide)) (by omega) (by have := HBR.out.size; simp; omega) ?_; intro v3 w3 hown3 hgrow3 hnil3 hat3)
              refine ⟨⟨j + 1, acc ++ [(oa, od)], by omega, by omega, by go_num, ?_, by simp; omega, ?_, (HBR.out.alloc HBR.out.size _).grown hgrow3 (by have := HBR.out.size; simp; omega) (own_ge (HOWN.out.alloc (.cells #[.int .i64 oa, .string od] 72)))⟩, by simp [intOf]; omega⟩
              · rw [HNX.out]; simp [he]
              · rw [List.length_append, List.length_singleton, wetCells_append, wetCells_one]; exact hown3
          · have hjl : decide ((j : Int) < (m1 : Int)) = false := by simp; omega
            have hjl2 : ¬ ((j : Int) < (m1 : Int)) := by omega
            obtain ⟨A5, c5, ev, _⟩ := SL.of_own HOWN.out
            subst ev
            have hfin : acc = withF (at_, padB data) wet1 := by
              have e5 : (wet1.drop i).take (j - i) = wet1.drop i := List.take_of_length_le (by have := HM.out; simp; omega)
              rw [← HP.out, with_ins HRISE.out, HTW.out.1, HTW.out.2, HACC.out, e5]
            have HFIN := Lib.hid hfin
            have hg0 := box_kept _ HGR.out HBR.out
            obtain ⟨⟨r0, r1, r2, r3⟩, s0, s1, s2, s3⟩ := box4 hg0
            have HGR2 := Lib.hid hg0
            have HGD2 := Lib.hid (box_kept _ HGD.out HBR.out)
            have HD2 := Lib.hid ((HVX.out.below HBR.out).rewet (SL.of_own HOWN.out))
            have HBW := Lib.hid (below_trans' HBX.out HBR.out)
            clear hfin hg0
            go_wp2_with fail
            refine bodyPost_ret (v := .tuple #[.agg #[.slice A1 n1 c1, .slice A5 acc.length c5, .bool dead1, .int .i64 left1], .int .i64 0]) (by simp [results, Tryz.results21, go_sem, r0, r1, r2, r3]) rfl ⟨_, rfl, ?_, ?_⟩
            · have h1' := HD2.out.other (w' := wr.setCell ⟨w.heap.size, 1, none⟩ (.slice A5 acc.length c5)) HGD2.out (by decide) (by decide) (fun b hb => Below.heap_setCell _ _ _ _ hb)
              have h2' := h1'.other (by rw [Below.heap_setCell _ _ _ _ (by simp)]; exact HGR2.out) (by decide) (by decide) (store4_other _ (w.heap.size + 1) (.slice A1 n1 c1) (.slice A5 acc.length c5) (.bool dead1) (.int .i64 left1))
              try dsimp only at h2' ⊢
              rw [← HFIN.out]
              exact h2'
            · exact below_store4 (HBW.out.setCell (p := ⟨w.heap.size, 1, none⟩) (Nat.le_refl _) _) _ (by omega) _ _ _ _
      · have hnl : decide ((i : Int) < (m1 : Int)) = false := by simp; omega
        have hnl2 : ¬ ((i : Int) < (m1 : Int)) := by omega
        go_upto_region 12 with (fail)
        go_wp2_with (at_builtin; refine wpList_append_own_at _ (by rfl) (.tmp 73) (.tmp 75) 26 (by rfl) X.heap.size 72 i1 (.agg #[.int .i64 0, .string ⟨#[]⟩]) 2 24 Tryz.underlying26 hi hz0 hz1 hz2 (by rfl) (by omega) _ i (wetCells (wet1.take i)) (by rfl) (by exact HOWN.out.alloc _) ⟨wr.heap.size, 0, none⟩ 1 1 [.int .i64 at_, .string P] (by rfl) (by rfl) (by exact news2 rfl _ _ _) (by simp [Value.oneCell']) (Nat.le_trans (show i + 1 ≤ 1000000 by omega) (by decide)) (by omega) (by have := HBR.out.size; simp; omega) ?_; intro v3 w3 hown3 hgrow3 hnil3 hat3)
        have hbr3 : Below X.heap.size X w3 := (HBR.out.alloc HBR.out.size _).grown hgrow3 (by have := HBR.out.size; simp; omega) (own_ge (HOWN.out.alloc (.cells #[.int .i64 at_, .string P] 72)))
        have hown3' : w3.ownsRow X.heap.size 72 2 v3 (wet1.take i ++ [(at_, P)]).length (wetCells (wet1.take i ++ [(at_, P)])) := by
          have hl : (wet1.take i ++ [(at_, P)]).length = i + 1 := by
            have := HM.out
            simp
            omega
          rw [hl, wetCells_append, wetCells_one]; exact hown3
        have HB3 := Lib.hid hbr3
        have HO3 := Lib.hid hown3'
        clear hown3 hgrow3 hnil3 hat3 hbr3 hown3' p0 p1 p2 p3 r0 r1 HBR HOWN
        obtain ⟨⟨p0, p1, p2, p3⟩, _⟩ := box4 (box_kept _ HGD.out HB3.out)
        go_loopw [10, 13] (fun u10 u13 wr => ∃ (j : Nat) (acc : List Wt), i ≤ j ∧ j ≤ m1 ∧ u13 = .int .i64 j ∧ acc = wet1.take i ++ [(at_, P)] ++ ((wet1.drop i).take (j - i)).filter (fun o => decide (o.1 ≠ (at_, P).1)) ∧ acc.length ≤ j + 1 ∧ wr.ownsRow X.heap.size 72 2 u10 acc.length (wetCells acc) ∧ Below X.heap.size X wr) (fun _ u _ => m1 - (intOf u).toNat)
        case atStart => exact ⟨i, _, Nat.le_refl _, hi', rfl, by simp, by simp; omega, HO3.out, HB3.out⟩
        case round =>
          obtain ⟨j, acc, hij, hjm, rfl, hacc, hal, hown, hbr⟩ := hrel
          have HACC := Lib.hid hacc
          have HOWN := Lib.hid hown
          have HBR := Lib.hid hbr
          clear hacc hown hbr p0 p1 p2 p3 HB3 HO3
          obtain ⟨⟨p0, p1, p2, p3⟩, f0, f1, f2, f3⟩ := box4 (box_kept _ HGD.out HBR.out)
          by_cases hjlt : j < m1
          · exact absurd hjlt (by omega)
          · have hjl : decide ((j : Int) < (m1 : Int)) = false := by simp; omega
            have hjl2 : ¬ ((j : Int) < (m1 : Int)) := by omega
            obtain ⟨A5, c5, ev, _⟩ := SL.of_own HOWN.out
            subst ev
            have hfin : acc = withF (at_, padB data) wet1 := by
              have e5 : (wet1.drop i).take (j - i) = wet1.drop i := List.take_of_length_le (by have := HM.out; simp; omega)
              rw [← HP.out, with_ins HRISE.out, HTW.out.1, HTW.out.2, HACC.out, e5]
            have HFIN := Lib.hid hfin
            have hg0 := box_kept _ HGR.out HBR.out
            obtain ⟨⟨r0, r1, r2, r3⟩, s0, s1, s2, s3⟩ := box4 hg0
            have HGR2 := Lib.hid hg0
            have HGD2 := Lib.hid (box_kept _ HGD.out HBR.out)
            have HD2 := Lib.hid ((HVX.out.below HBR.out).rewet (SL.of_own HOWN.out))
            have HBW := Lib.hid (below_trans' HBX.out HBR.out)
            clear hfin hg0
            go_wp2_with fail
            refine bodyPost_ret (v := .tuple #[.agg #[.slice A1 n1 c1, .slice A5 acc.length c5, .bool dead1, .int .i64 left1], .int .i64 0]) (by simp [results, Tryz.results21, go_sem, r0, r1, r2, r3]) rfl ⟨_, rfl, ?_, ?_⟩
            · have h1' := HD2.out.other (w' := wr.setCell ⟨w.heap.size, 1, none⟩ (.slice A5 acc.length c5)) HGD2.out (by decide) (by decide) (fun b hb => Below.heap_setCell _ _ _ _ hb)
              have h2' := h1'.other (by rw [Below.heap_setCell _ _ _ _ (by simp)]; exact HGR2.out) (by decide) (by decide) (store4_other _ (w.heap.size + 1) (.slice A1 n1 c1) (.slice A5 acc.length c5) (.bool dead1) (.int .i64 left1))
              try dsimp only at h2' ⊢
              rw [← HFIN.out]
              exact h2'
            · exact below_store4 (HBW.out.setCell (p := ⟨w.heap.size, 1, none⟩) (Nat.le_refl _) _) _ (by omega) _ _ _ _

end Go.Proofs.YtnbbijpmkhdgpaaGreat.Dsk

/- DRNew -/
namespace Go.Proofs.YtnbbijpmkhdgpaaGreat.Dsk
open Go.RowKit
attribute [local go_sem ↓] Go.wp_at_zero Go.wp_at_succ

set_option maxRecDepth 100000 in
set_option maxHeartbeats 1000000 in
theorem rnew_bad_lo (n : Int) (h1 : n < 1) (w : World) :
    Calls Tryz.prog 33 #[.int .i64 n] w fun e w' => e = .returned (.tuple #[.agg #[.slice none 0 0, .slice none 0 0, .bool false, .int .i64 0], .int .i64 1]) ∧ Below w.heap.size w w' := by
  have hd1 : decide (n < 1) = true := by simpa using h1
  go_enter Tryz.func33, Tryz.ntmps33
  go_wp2
  exact bodyPost_ret (v := .tuple #[.agg #[.slice none 0 0, .slice none 0 0, .bool false, .int .i64 0], .int .i64 1]) (by simp [results, Tryz.results33, go_sem]) rfl ⟨rfl, (Below.refl _ _).alloc (Nat.le_refl _) _⟩

set_option maxRecDepth 100000 in
set_option maxHeartbeats 1000000 in
theorem rnew_bad_hi (n : Int) (h1 : 2000 < n) (w : World) :
    Calls Tryz.prog 33 #[.int .i64 n] w fun e w' => e = .returned (.tuple #[.agg #[.slice none 0 0, .slice none 0 0, .bool false, .int .i64 0], .int .i64 1]) ∧ Below w.heap.size w w' := by
  have hd1 : decide (n < 1) = false := by simp; omega
  have hd2 : decide (2000 < n) = true := by simpa using h1
  go_enter Tryz.func33, Tryz.ntmps33
  go_wp2
  exact bodyPost_ret (v := .tuple #[.agg #[.slice none 0 0, .slice none 0 0, .bool false, .int .i64 0], .int .i64 1]) (by simp [results, Tryz.results33, go_sem]) rfl ⟨rfl, (Below.refl _ _).alloc (Nat.le_refl _) _⟩

theorem kept_own {W w' : World} {base : Nat} {e : TypeId} {size n : Nat} {v : Value} {xs : List Value} (hg : W.grownBy w' v.ownBlock) (hown : W.ownsRow base e size v n xs) {k : Nat} (hk : k < base) (hk2 : k < W.heap.size) : w'.heap[k]? = W.heap[k]? :=
  hg.block k hk2 fun e => by have := own_ge hown k e.symm; omega

set_option maxRecDepth 100000 in
set_option maxHeartbeats 2000000 in
theorem rnew_calls (n : Nat) (h1 : 1 ≤ n) (h2 : n ≤ 2000) (w : World) :
    Calls Tryz.prog 33 #[.int .i64 n] w fun e w' => ∃ v, e = .returned (.tuple #[v, .int .i64 0]) ∧ IsDisk w' v (newD n) ∧ Below w.heap.size w w' := by
  have hd1 : decide ((n : Int) < 1) = false := by simp; omega
  have hd2 : decide ((2000 : Int) < n) = false := by simp; omega
  go_enter Tryz.func33, Tryz.ntmps33
  obtain ⟨P, hP⟩ : ∃ P : ByteArray, P = ⟨(List.replicate 256 (0 : UInt8)).toArray⟩ := ⟨_, rfl⟩
  obtain ⟨i0, hi, hz0, hz1, hz2⟩ := info_parts Tryz.info5
  have hmk : ∀ W : World, (Instr.makeSlice 76 (.int .i64 256) (.int .i64 256)).run Tryz.prog W = .ok (.slice (some ⟨W.heap.size, 0, none⟩) 256 256) (W.alloc (.cells (madeCells #[.int .u8 0] 256) 5)) := by
    intro W
    have := run_make (P := Tryz.prog) W 76 5 i0 (.int .u8 0) Tryz.underlying76 hi hz0 .i64 .i64 256 256 (by omega) (by omega) (by rw [hz2]; omega) (by omega)
    rw [this, hz1]
    rfl
  have hcv : ∀ W : World, (convert 76 9 (.slice (some ⟨W.heap.size, 0, none⟩) 256 256)).run Tryz.prog (W.alloc (.cells (madeCells #[.int .u8 0] 256) 5)) = .ok (.string P) (W.alloc (.cells (madeCells #[.int .u8 0] 256) 5)) := by
    intro W
    have h0 := run_convert_bytes_back (P := Tryz.prog) (W.alloc (.cells (madeCells #[.int .u8 0] 256) 5)) 76 9 5 ⟨W.heap.size, 0, none⟩ 256 (List.replicate 256 0) Tryz.underlying76 Tryz.underlying5 Tryz.underlying9 ?_
    · rw [hP]; rw [List.length_replicate] at h0; exact h0
    · intro j hj
      have hj' : j < 256 := by simpa using hj
      rw [Addr.add_lit, cell_of_row _ _ _ _ _ _ (heap_alloc_new W _), List.getElem_replicate]
      simp [madeCells, hj', Nat.mod_one]
  have hcv2 : ∀ W : World, (convert 76 9 (.slice (some ⟨W.heap.size, 0, none⟩) 256 256)).run Tryz.prog (W.alloc (.cells (madeCells #[.int .u8 0] 256) 5)).drew = .ok (.string P) (W.alloc (.cells (madeCells #[.int .u8 0] 256) 5)).drew := fun W => hcv W.drew
  have hPP : P = padB ⟨#[]⟩ := by rw [hP]; rfl
  have HP := Lib.hid hPP
  obtain ⟨i1, hj, hy0, hy1, hy2⟩ := info_parts Tryz.info9
  clear hP hPP hi hz0 hz1 hz2
  go_wp2
  go_loopw [5] (fun u wr => ∃ (i : Nat) (A : Option Addr) (c : Nat), i ≤ n ∧ u = .int .i64 i ∧ wr.ownsRow (w.heap.size + 2) 9 1 (.slice A i c) i (List.replicate i (.string P)) ∧
    wr.heap[w.heap.size + 1]? = some (.cells #[.slice A i c, .slice none 0 0, .bool false, .int .i64 (-1)] 28 (0, 0)) ∧ wr.heap[w.heap.size]? = some (.cells #[.slice none 0 0, .slice none 0 0, .bool false, .int .i64 0] 28 (0, 0)) ∧ Below w.heap.size w wr) (fun u _ => n - (intOf u).toNat)
  case atStart =>
    refine ⟨0, none, 0, Nat.zero_le _, rfl, World.ownsRow_nil _ _ _ _, ?_, ?_, ((Below.refl _ _).alloc (Nat.le_refl _) _).alloc (by simp) _⟩
    · have := heap_alloc_new (w.alloc (.cells #[.slice none 0 0, .slice none 0 0, .bool false, .int .i64 0] 28)) (.cells #[.slice none 0 0, .slice none 0 0, .bool false, .int .i64 (-1)] 28)
      simpa using this
    · exact box_alloc (heap_alloc_new w _) _
  case round =>
    obtain ⟨i, A, c, hin, rfl, hown, hg4, hg2, hB⟩ := hrel
    have hlt4 : w.heap.size + 1 < wr.heap.size := (Array.getElem?_eq_some_iff.1 hg4).1
    have HOWN := Lib.hid hown
    have HG4 := Lib.hid hg4
    have HG2 := Lib.hid hg2
    have HB := Lib.hid hB
    clear hown hg4 hg2 hB
    obtain ⟨⟨p0, p1, p2, p3⟩, f0, f1, f2, f3⟩ := box4 HG4.out
    have HNEWS : Hid (∀ (j : Nat) (u : Value), [Value.string P][j]? = some u → ((wr.alloc (.cells (madeCells #[.int .u8 0] 256) 5)).alloc (.cells #[.string P] 9)).drew.cell? ((⟨wr.heap.size + 1, 0, none⟩ : Addr).add j) = some u) := by
      intro j u hu
      obtain rfl : j = 0 := by
        have := (List.getElem?_eq_some_iff.1 hu).1
        simpa using this
      simp at hu
      subst hu
      rw [Addr.add_lit]
      simp
    have HOX : Hid (((wr.alloc (.cells (madeCells #[.int .u8 0] 256) 5)).alloc (.cells #[.string P] 9)).drew.ownsRow (w.heap.size + 2) 9 1 (.slice A i c) i (List.replicate i (.string P))) := (HOWN.out.alloc _).alloc _
    have HGX : Hid (((wr.alloc (.cells (madeCells #[.int .u8 0] 256) 5)).alloc (.cells #[.string P] 9)).drew.heap[w.heap.size + 1]? = some (.cells #[.slice A i c, .slice none 0 0, .bool false, .int .i64 (-1)] 28 (0, 0))) := box_alloc (box_alloc HG4.out _) _
    have HGY : Hid (((wr.alloc (.cells (madeCells #[.int .u8 0] 256) 5)).alloc (.cells #[.string P] 9)).drew.heap[w.heap.size]? = some (.cells #[.slice none 0 0, .slice none 0 0, .bool false, .int .i64 0] 28 (0, 0))) := box_alloc (box_alloc HG2.out _) _
    have HBX : Hid (Below w.heap.size w ((wr.alloc (.cells (madeCells #[.int .u8 0] 256) 5)).alloc (.cells #[.string P] 9)).drew) := ((HB.out.alloc (by omega) _).alloc (by simp; omega) _).drew
    by_cases hlt : i < n
    · have p0a : (wr.alloc (.cells (madeCells #[.int .u8 0] 256) 5)).cell? ⟨w.heap.size + 1, 0, none⟩ = some (.slice A i c) := (box4 (box_alloc HG4.out _)).1.1
      have p0b : ((wr.alloc (.cells (madeCells #[.int .u8 0] 256) 5)).alloc (.cells #[.string P] 9)).cell? ⟨w.heap.size + 1, 0, none⟩ = some (.slice A i c) := (box4 (box_alloc (box_alloc HG4.out _) _)).1.1
      go_wp2
      go_region_law (refine step_append_lies _ (by rfl) (.tmp 20) (.tmp 23) 25 (by rfl) (w.heap.size + 2) 9 i1 (.string ⟨#[]⟩) 1 16 Tryz.underlying25 hj hy0 hy1 hy2 (by rfl) (by omega) (.slice A i c) i (List.replicate i (.string P)) (by simp [Act.eval]) (by exact (HOWN.out.alloc _).alloc _) ⟨wr.heap.size + 1, 0, none⟩ 1 1 [.string P] (by simp [Act.eval]) (by rfl) (by exact HNEWS.out) (by simp [Value.oneCell']) (by omega) (Nat.le_trans (show i + 1 ≤ 1000000 by omega) (by decide)) (by omega) (by simp; omega) _ rfl ?_; intro g cap w' hown' hgrow' hat' hlt'; have q4 := (kept_own hgrow' HOX.out (k := w.heap.size + 1) (by omega) (by simp; omega)).trans HGX.out; have q2 := (kept_own hgrow' HOX.out (k := w.heap.size) (by omega) (by simp; omega)).trans HGY.out; obtain ⟨⟨r0, r1, r2, r3⟩, t0, t1, t2, t3⟩ := box4 q4; have HQ4 := Lib.hid q4; have HQ2 := Lib.hid q2; clear q4 q2)
      all_goals
        have x4 : (w'.setCell ⟨w.heap.size + 1, 0, none⟩ (.slice (some ⟨g, 0, none⟩) (i + 1) cap)).heap[w.heap.size + 1]? = some (.cells #[.slice (some ⟨g, 0, none⟩) (i + 1) cap, .slice none 0 0, .bool false, .int .i64 (-1)] 28 (0, 0)) := heap_setCell_same w' _ 0 _ 28 _ HQ4.out
        have x2 : (w'.setCell ⟨w.heap.size + 1, 0, none⟩ (.slice (some ⟨g, 0, none⟩) (i + 1) cap)).heap[w.heap.size]? = some (.cells #[.slice none 0 0, .slice none 0 0, .bool false, .int .i64 0] 28 (0, 0)) := (Below.heap_setCell _ _ _ _ (by simp)).trans HQ2.out
        have xo := ownsRow_setCell_below hown' (a := ⟨w.heap.size + 1, 0, none⟩) (by simp) (.slice (some ⟨g, 0, none⟩) (i + 1) cap)
        rw [show List.replicate i (Value.string P) ++ [Value.string P] = List.replicate (i + 1) (Value.string P) from (List.replicate_succ' ..).symm] at xo
        have xb := (HBX.out.grown hgrow' (by simp; omega) (fun k e => by have := own_ge HOX.out k e; omega)).setCell (p := ⟨w.heap.size + 1, 0, none⟩) (by simp) (.slice (some ⟨g, 0, none⟩) (i + 1) cap)
        have X4 := Lib.hid x4
        have X2 := Lib.hid x2
        have XO := Lib.hid xo
        have XB := Lib.hid xb
        clear x4 x2 xo xb hown' hgrow' hat' hlt' r0 r1 r2 r3 t0 t1 t2 t3 p0a p0b p0 p1 p2 p3 f0 f1 f2 f3 HBX HOX HGX HGY HQ4 HQ2 HNEWS
        generalize (w'.setCell ⟨w.heap.size + 1, 0, none⟩ (.slice (some ⟨g, 0, none⟩) (i + 1) cap)) = wn at *
        go_wp2
        go_roundw
        case rel => exact ⟨i + 1, _, cap, by omega, by go_num, XO.out, X4.out, X2.out, XB.out⟩
        case measure => simp [intOf]; omega
    · obtain rfl : i = n := by omega
      obtain ⟨⟨q0, q1, q2, q3⟩, e0, e1, e2, e3⟩ := box4 HG2.out
      clear HNEWS HOX HGX HGY HBX
      go_wp2
      refine bodyPost_ret (v := .tuple #[.agg #[.slice A i c, .slice none 0 0, .bool false, .int .i64 (-1)], .int .i64 0]) (by simp [results, Tryz.results33, go_sem, q0, q1, q2, q3]) rfl ⟨_, rfl, ⟨_, _, rfl, ?_, SL.nil _ _ _⟩, ?_⟩
      · have h := (SL.of_own HOWN.out).other HG2.out (by decide) (store4_other wr w.heap.size (.slice A i c) (.slice none 0 0) (.bool false) (.int .i64 (-1)))
        simpa [newD, HP.out] using h
      · exact below_store4 HB.out _ (Nat.le_refl _) _ _ _ _
end Go.Proofs.YtnbbijpmkhdgpaaGreat.Dsk
