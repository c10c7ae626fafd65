/- DiskPlays: its walk. No statement is proved here. -/
import Derived.Test.YtnnbbkfdijionaaRDoes
import Derived.Test.YtnnbbkfdijionaaAwake
import Derived.Deep.Cut
import Derived.Deep.CutRange
import Derived.Deep.CutBlock
namespace Go.Proofs.Ytnnbbkfdijionaa
open Go.RowKit
attribute [local go_sem ↓] Go.wp_at_zero Go.wp_at_succ

/-- Two boxes, each with a disk that reads as D. -/
structure PR (w : World) (g5 g7 N i : Nat) (A B : Option Addr) (n c m e : Nat) (A' B' : Option Addr) (n' c' m' e' : Nat) (D : DK) (wr : World) : Prop where
  b5 : wr.heap[g5]? = some (.cells #[.slice A n c, .slice B m e, .bool D.dead, .int .i64 D.left] 28 (0, 0))
  d5 : IsDisk wr (.agg #[.slice A n c, .slice B m e, .bool D.dead, .int .i64 D.left]) D
  b7 : wr.heap[g7]? = some (.cells #[.slice A' n' c', .slice B' m' e', .bool D.dead, .int .i64 D.left] 28 (0, 0))
  d7 : IsDisk wr (.agg #[.slice A' n' c', .slice B' m' e', .bool D.dead, .int .i64 D.left]) D
  pl : Pl N i D
  below : Below w.heap.size w wr
  le5 : w.heap.size ≤ g5
  le7 : w.heap.size ≤ g7
  ne : g5 ≠ g7

theorem box_new35 (w1 : World) (v0 v1 v2 v3 : Value) : ∃ X Bd, w1.alloc (.cells #[v0, v1, v2, v3] 35) = X ∧ w1.heap.size = Bd ∧ X.heap[Bd]? = some (.cells #[v0, v1, v2, v3] 35 (0, 0)) ∧ Below w1.heap.size w1 X :=
  ⟨_, _, rfl, rfl, heap_alloc_new _ _, (Below.refl _ _).alloc (Nat.le_refl _) _⟩

theorem PR.keep {w : World} {g5 g7 N i : Nat} {A B : Option Addr} {n c m e : Nat} {A' B' : Option Addr} {n' c' m' e' : Nat} {D : DK} {wr y : World} (h : PR w g5 g7 N i A B n c m e A' B' n' c' m' e' D wr) (hb : Below wr.heap.size wr y) : PR w g5 g7 N i A B n c m e A' B' n' c' m' e' D y :=
  ⟨box_kept _ h.b5 hb, h.d5.below hb, box_kept _ h.b7 hb, h.d7.below hb, h.pl, below_trans' h.below hb, h.le5, h.le7, h.ne⟩

theorem rst_calls (v : Value) (d : DK) (stay : Nat) (w : World) (hv : IsDisk w v d) (hd : d.ok) (hin : WetIn d) (hst : stay < 18446744073709551616) :
    Calls Try.prog 18 #[v, .int .u64 stay] w fun e w' => ∃ v', e = .returned v' ∧ IsDisk w' v' (stD d stay) ∧ Below w.heap.size w w' := rstart_calls v d stay w hv hd hin hst

theorem pr_store {w X y : World} {g5 g7 N i : Nat} {A B A' B' A4 B4 : Option Addr} {n c m e n' c' m' e' n4 c4 m4 e4 : Nat} {x : Bool} {z : Int} {D : DK} (h5 : X.heap[g5]? = some (.cells #[.slice A n c, .slice B m e, .bool D.dead, .int .i64 D.left] 28 (0, 0)))
    (d5 : IsDisk X (.agg #[.slice A n c, .slice B m e, .bool D.dead, .int .i64 D.left]) D) (h7 : X.heap[g7]? = some (.cells #[.slice A' n' c', .slice B' m' e', .bool x, .int .i64 z] 28 (0, 0))) (hb : Below X.heap.size X y)
    (d4 : IsDisk y (.agg #[.slice A4 n4 c4, .slice B4 m4 e4, .bool D.dead, .int .i64 D.left]) D) (hp : Pl N i D) (hw : Below w.heap.size w X) (l5 : w.heap.size ≤ g5) (l7 : w.heap.size ≤ g7) (ne : g5 ≠ g7) :
    PR w g5 g7 N i A B n c m e A4 B4 n4 c4 m4 e4 D ((((y.setCell ⟨g7, 0, none⟩ (.slice A4 n4 c4)).setCell ⟨g7, 1, none⟩ (.slice B4 m4 e4)).setCell ⟨g7, 2, none⟩ (.bool D.dead)).setCell ⟨g7, 3, none⟩ (.int .i64 D.left)) := by
  have k7 := box_kept _ h7 hb
  exact ⟨(store4_other _ _ _ _ _ _ _ ne).trans (box_kept _ h5 hb), (d5.below hb).other k7 (by decide) (by decide) (store4_other _ _ _ _ _ _), heap_store4 k7, d4.other k7 (by decide) (by decide) (store4_other _ _ _ _ _ _), hp, below_store4 (below_trans' hw hb) _ l7 _ _ _ _, l5, l7, ne⟩

theorem pr_same {w X : World} {g5 g7 N i : Nat} {A B A' B' : Option Addr} {n c m e n' c' m' e' : Nat} {D D' : DK} (h5 : X.heap[g5]? = some (.cells #[.slice A n c, .slice B m e, .bool D.dead, .int .i64 D.left] 28 (0, 0)))
    (d5 : IsDisk X (.agg #[.slice A n c, .slice B m e, .bool D.dead, .int .i64 D.left]) D) (h7 : X.heap[g7]? = some (.cells #[.slice A' n' c', .slice B' m' e', .bool D'.dead, .int .i64 D'.left] 28 (0, 0)))
    (d7 : IsDisk X (.agg #[.slice A' n' c', .slice B' m' e', .bool D'.dead, .int .i64 D'.left]) D') (hD : D = D') (hp : Pl N i D) (hw : Below w.heap.size w X) (l5 : w.heap.size ≤ g5) (l7 : w.heap.size ≤ g7) (ne : g5 ≠ g7) :
    PR w g5 g7 N i A B n c m e A' B' n' c' m' e' D X := by
  subst hD
  exact ⟨h5, d5, h7, d7, hp, hw, l5, l7, ne⟩

set_option maxRecDepth 100000 in
set_option maxHeartbeats 4000000 in
theorem plays_few (n : Int) (hn : ¬ (200 < n ∧ n ≤ 2000)) (A0 : Option Addr) (len cap : Nat) (xs : List AK) (w : World) (hR : ActIn w A0 len xs) (hl : len ≤ 60)
    (hsm : ∀ W : World, Below w.heap.size w W → Calls Try.prog 8 #[.slice A0 len cap] W fun e w' => e = .returned (.bool true) ∧ Below W.heap.size W w') :
    Calls Try.prog 3 #[.int .i64 n, .slice A0 len cap] w fun e w' => e = .returned (.bool true) ∧ Below w.heap.size w w' := by
  have HR := Lib.hid hR
  have HSM := Lib.hid hsm
  have hnot : ∀ (x : Bool) (w : World), (Op.unary .not (.bool x)).run Try.prog w = .ok (.bool (!x)) w := fun _ _ => rfl
  obtain ⟨N, D0, E0, hN, hP0, h10, h11⟩ := new_both n
  have HP0 := Lib.hid hP0
  have H10 := Lib.hid h10
  have H11 := Lib.hid h11
  have hgd : (if (200 : Int) < n then decide (n ≤ 2000) else false) = false := by split <;> simp <;> omega
  clear hR hsm hP0 h10 h11
  go_enter Try.func3, Try.ntmps3
  go_upto_region 1 with (fail)
  go_cut [26] from 16 (fun b w' => b = .bool false ∧ Below w.heap.size w w')
  case first =>
    by_cases h200 : 200 < n
    · have hd1 : decide (200 < n) = true := by simpa using h200
      have hd2 : decide (n ≤ 2000) = false := by simp; omega
      go_wp2_with fail
      (with_reducible refine (HSM.out _ (Below.refl _ _)).mono ?_)
      rintro e w1 ⟨rfl, hb1⟩
      go_wp2_with fail
      go_meet
      case rel => exact ⟨rfl, hb1⟩
    · have hd1 : decide (200 < n) = false := by simpa using h200
      go_wp2_with fail
      (with_reducible refine (HSM.out _ (Below.refl _ _)).mono ?_)
      rintro e w1 ⟨rfl, hb1⟩
      go_wp2_with fail
      go_meet
      case rel => exact ⟨rfl, hb1⟩
  case rest =>
    obtain ⟨rfl, hbc⟩ := hcut
    have HBC := Lib.hid hbc
    clear hbc HSM hgd hn
    go_upto_region 4 with (go_at_call 10; (with_reducible refine (H10.out _).mono ?_); rintro e y ⟨v1, rfl, hv1, hb1⟩; obtain ⟨A1, n1, c1, B1, m1, e1, rfl⟩ := hv1.parts; have HV1 := Lib.hid hv1; have HB1 := Lib.hid hb1; clear hv1 hb1)
    obtain ⟨X, g5, eX, e5, hG5, hBX⟩ := box_new y (.slice A1 n1 c1) (.slice B1 m1 e1) (.bool D0.dead) (.int .i64 D0.left)
    rw [eX, e5]
    have HG5 := Lib.hid hG5
    have HVX := Lib.hid (HV1.out.below hBX)
    have HB2 := Lib.hid (below_trans' (below_trans' HBC.out HB1.out) hBX)
    have hle5 : w.heap.size ≤ g5 := by have := HBC.out.size; have := HB1.out.size; omega
    clear eX hG5 hBX HV1 HB1 e5 HBC H10
    generalize Value.tuple #[Value.agg #[Value.slice A1 n1 c1, Value.slice B1 m1 e1, Value.bool D0.dead, Value.int IntKind.i64 D0.left], Value.int IntKind.i64 E0] = tu1
    generalize Value.agg #[Value.slice A1 n1 c1, Value.slice B1 m1 e1, Value.bool D0.dead, Value.int IntKind.i64 D0.left] = ag1
    go_upto_region 5 with (go_at_call 11; (with_reducible refine (H11.out _).mono ?_); rintro e y2 ⟨v2, rfl, hv2, hb2⟩; obtain ⟨A2, n2, c2, B2, m2, e2, rfl⟩ := hv2.parts; have HV2 := Lib.hid hv2; have HB3 := Lib.hid hb2; clear hv2 hb2)
    obtain ⟨Z, g7, eZ, e7, hG7, hBZ⟩ := box_new y2 (.slice A2 n2 c2) (.slice B2 m2 e2) (.bool D0.dead) (.int .i64 D0.left)
    rw [eZ, e7]
    have hz5 := (Array.getElem?_eq_some_iff.1 HG5.out).1
    have hzs := HB3.out.size
    have hrel0 : PR w g5 g7 N 0 A1 B1 n1 c1 m1 e1 A2 B2 n2 c2 m2 e2 D0 Z := ⟨box_kept _ (box_kept _ HG5.out HB3.out) hBZ, (HVX.out.below HB3.out).below hBZ, hG7, HV2.out.below hBZ, HP0.out, below_trans' (below_trans' HB2.out HB3.out) hBZ, hle5, by have := HB2.out.size; omega, by omega⟩
    have HR0 := Lib.hid hrel0
    clear eZ hG7 hBZ HV2 HB3 HG5 HVX HB2 HP0 H11 e7 hz5 hzs hrel0
    generalize Value.tuple #[Value.agg #[Value.slice A2 n2 c2, Value.slice B2 m2 e2, Value.bool D0.dead, Value.int IntKind.i64 D0.left], Value.int IntKind.i64 E0] = tu2
    generalize Value.agg #[Value.slice A2 n2 c2, Value.slice B2 m2 e2, Value.bool D0.dead, Value.int IntKind.i64 D0.left] = ag2
    obtain ⟨⟨p0, p1, p2, p3⟩, _⟩ := box4 HR0.out.b5
    obtain ⟨⟨q0, q1, q2, q3⟩, _⟩ := box4 HR0.out.b7
    have hsame : ∀ (W : World), Below Z.heap.size Z W → Calls Try.prog 12 #[.agg #[.slice A1 n1 c1, .slice B1 m1 e1, .bool D0.dead, .int .i64 D0.left], .agg #[.slice A2 n2 c2, .slice B2 m2 e2, .bool D0.dead, .int .i64 D0.left]] W fun e w' => e = .returned (.bool true) ∧ Below W.heap.size W w' := fun W hb =>
      rsame_calls _ _ D0 W (HR0.out.d5.below hb) (HR0.out.d7.below hb) (by have := HR0.out.pl.good.sure; omega) (by have := HR0.out.pl.good.wet; omega)
    have HSA := Lib.hid hsame
    clear hsame
    go_upto_region 7 with (go_at_call 12; (with_reducible refine (HSA.out _ (Below.refl _ _)).mono ?_); rintro e y3 ⟨rfl, hb3⟩; have HB3 := Lib.hid hb3; clear hb3)
    have HR1 : Hid (PR w g5 g7 N 0 A1 B1 n1 c1 m1 e1 A2 B2 n2 c2 m2 e2 D0 y3) := HR0.out.keep HB3.out
    clear p0 p1 p2 p3 q0 q1 q2 q3 HR0 HSA HB3
    go_wp2_with fail
    go_loopw [9] (fun u wr => ∃ (i : Nat) (A B : Option Addr) (n c m e : Nat) (A' B' : Option Addr) (n' c' m' e' : Nat) (D : DK), i ≤ len ∧ u = .int .i64 i ∧ PR w g5 g7 N i A B n c m e A' B' n' c' m' e' D wr) (fun u _ => len - (intOf u).toNat)
    case atStart => exact ⟨0, _, _, _, _, _, _, _, _, _, _, _, _, _, Nat.zero_le _, rfl, HR1.out⟩
    case round =>
      obtain ⟨i, A, B, n, c, m, e, A', B', n', c', m', e', D, hi, rfl, hrel⟩ := hrel
      clear HR1
      by_cases hlt : i < len
      · obtain ⟨⟨kind, place, data, stay⟩, ha⟩ : ∃ a, xs[i]? = some a := ⟨_, List.getElem?_eq_getElem (by have := HR.out.1; omega)⟩
        obtain ⟨b, off, rfl, hbl, hcell⟩ := HR.out.2.2 (by omega)
        have hb := hrel.below
        have hc0 := (hb.cell (p := ⟨b, off + i * 4, none⟩) hbl).trans (hcell i _ ha).1
        have hc1 := (hb.cell (p := ⟨b, off + i * 4 + 1, none⟩) hbl).trans (hcell i _ ha).2.1
        have hc2 := (hb.cell (p := ⟨b, off + i * 4 + 2, none⟩) hbl).trans (hcell i _ ha).2.2.1
        have hc3 := (hb.cell (p := ⟨b, off + i * 4 + 3, none⟩) hbl).trans (hcell i _ ha).2.2.2
        have hbnd := HR.out.2.1 _ (List.mem_of_getElem? ha)
        have hi1 : (0 : Int) ≤ (i : Int) := by omega
        have hi2 : (i : Int) < (len : Int) := by omega
        obtain ⟨D2, hD2⟩ : ∃ D2, D2 = doesD D ⟨kind, place, data, stay⟩ := ⟨_, rfl⟩
        obtain ⟨S, hS⟩ : ∃ S, S = doesS D ⟨kind, place, data, stay⟩ := ⟨_, rfl⟩
        obtain ⟨E, hE⟩ : ∃ E, E = doesE D ⟨kind, place, data, stay⟩ := ⟨_, rfl⟩
        have hok := hrel.pl.ok hN (by omega)
        have hpl2 : Pl N (i + 1) D2 := by rw [hD2]; exact doesD_pl hrel.pl _ hbnd.2
        have hdoes : ∀ W : World, IsDisk W (.agg #[.slice A n c, .slice B m e, .bool D.dead, .int .i64 D.left]) D → Calls Try.prog 13 #[.agg #[.slice A n c, .slice B m e, .bool D.dead, .int .i64 D.left], .agg #[.int .i64 kind, .int .i64 place, .string data, .int .u64 stay]] W fun e w' => ∃ A2 n2 c2 B2 m2 d2, e = .returned (.tuple #[.agg #[.slice A2 n2 c2, .slice B2 m2 d2, .bool D2.dead, .int .i64 D2.left], .string S, .int .i64 E]) ∧ IsDisk w' (.agg #[.slice A2 n2 c2, .slice B2 m2 d2, .bool D2.dead, .int .i64 D2.left]) D2 ∧ Below W.heap.size W w' := fun W hv => by
          refine (does_calls _ D ⟨kind, place, data, stay⟩ W hv hok hbnd.1).mono ?_
          rintro e w' ⟨v', rfl, hv', hb'⟩
          rw [← hD2, ← hS, ← hE] at *
          obtain ⟨A2, n2, c2, B2, m2, d2, rfl⟩ := hv'.parts
          exact ⟨A2, n2, c2, B2, m2, d2, rfl, hv', hb'⟩
        have hst := hbnd.1
        dsimp only at hc0 hc1 hc2 hc3 hst
        have HD2 := Lib.hid hD2
        have HS := Lib.hid hS
        have HE := Lib.hid hE
        have HDO := Lib.hid hdoes
        have HREL := Lib.hid hrel
        have HPL2 := Lib.hid hpl2
        have HOK := Lib.hid hok
        clear hdoes hcell ha hbnd hb hrel hD2 hS hE hpl2 hok
        go_upto_region 12 with (fail)
        obtain ⟨X1, g10, eX1, e10, hG10, hBX1⟩ := box_new35 wr (.int .i64 kind) (.int .i64 place) (.string data) (.int .u64 stay)
        rw [eX1, e10]
        have HR1 := Lib.hid (HREL.out.keep hBX1)
        have HG10 := Lib.hid hG10
        have hz5 := (Array.getElem?_eq_some_iff.1 HREL.out.b5).1
        have hz7 := (Array.getElem?_eq_some_iff.1 HREL.out.b7).1
        have hn5 : g10 ≠ g5 := by omega
        have hn7 : g10 ≠ g7 := by omega
        have hle10 : w.heap.size ≤ g10 := by have := HREL.out.below.size; omega
        clear eX1 hG10 hBX1 hc0 hc1 hc2 hc3 HREL hz5 hz7 e10
        obtain ⟨⟨p0, p1, p2, p3⟩, f0, f1, f2, f3⟩ := box4 HR1.out.b5
        obtain ⟨⟨q0, q1, q2, q3⟩, _⟩ := box4 HG10.out
        go_upto_region 13 with (go_at_call 13; (with_reducible refine (HDO.out _ HR1.out.d5).mono ?_); rintro e0 y ⟨A3, n3, c3, B3, m3, e3, rfl, hv3, hb3⟩; have HV3 := Lib.hid hv3; have HB3 := Lib.hid hb3; clear hv3 hb3)
        obtain ⟨X2, g13, eX2, e13, hG13, hBX2⟩ := box_new y (.slice A3 n3 c3) (.slice B3 m3 e3) (.bool D2.dead) (.int .i64 D2.left)
        rw [eX2, e13]
        have HR2 := Lib.hid ((HR1.out.keep HB3.out).keep hBX2)
        have HG10b := Lib.hid (box_kept _ (box_kept _ HG10.out HB3.out) hBX2)
        have HV2 := Lib.hid (HV3.out.below hBX2)
        have HG13 := Lib.hid hG13
        have hz5 := (Array.getElem?_eq_some_iff.1 (box_kept _ HR1.out.b5 HB3.out)).1
        have hn13 : g13 ≠ g5 := by omega
        clear eX2 hG13 hBX2 HDO HR1 HG10 HV3 HB3 p0 p1 p2 p3 f0 f1 f2 f3 q0 q1 q2 q3 hz5 e13
        generalize Value.tuple #[Value.agg #[Value.slice A3 n3 c3, Value.slice B3 m3 e3, Value.bool D2.dead, Value.int IntKind.i64 D2.left], Value.string S, Value.int IntKind.i64 E] = tu3
        generalize Value.agg #[Value.slice A3 n3 c3, Value.slice B3 m3 e3, Value.bool D2.dead, Value.int IntKind.i64 D2.left] = ag3
        generalize Value.agg #[Value.slice A n c, Value.slice B m e, Value.bool D.dead, Value.int IntKind.i64 D.left] = ag4
        generalize Value.agg #[Value.int IntKind.i64 kind, Value.int IntKind.i64 place, Value.string data, Value.int IntKind.u64 ↑stay] = ag5
        obtain ⟨⟨p0, p1, p2, p3⟩, f0, f1, f2, f3⟩ := box4 HR2.out.b5
        obtain ⟨⟨q0, q1, q2, q3⟩, _⟩ := box4 HG13.out
        obtain ⟨X3, eX3, hG5, hK5, hBX3⟩ := box_store4 HR2.out.b5 (.slice A3 n3 c3) (.slice B3 m3 e3) (.bool D2.dead) (.int .i64 D2.left)
        go_upto_region 14 with (fail)
        have HB5 := Lib.hid hG5
        have HV5 := Lib.hid (HV2.out.other HR2.out.b5 (by decide) (by decide) hK5)
        have HB7 := Lib.hid ((hK5 g7 (fun h => HR2.out.ne h.symm)).trans HR2.out.b7)
        have HV7 := Lib.hid (HR2.out.d7.other HR2.out.b5 (by decide) (by decide) hK5)
        have HA := Lib.hid ((hK5 g10 hn5).trans HG10b.out)
        have HBW := Lib.hid (hBX3 _ _ HR2.out.below HR2.out.le5)
        have HRI := Lib.hid HR2.out.pl.rise
        have HIN := Lib.hid HR2.out.pl.inn
        have hle7 := HR2.out.le7
        have hne57 := HR2.out.ne
        clear eX3 hG5 hK5 hBX3 HR2 HG10b HV2 HG13 p0 p1 p2 p3 f0 f1 f2 f3 q0 q1 q2 q3 hn13
        obtain ⟨⟨p0, p1, p2, p3⟩, f0, f1, f2, f3⟩ := box4 HB7.out
        obtain ⟨⟨q0, q1, q2, q3⟩, _⟩ := box4 HA.out
        go_upto_block 2 with (fail)
        go_cut [11, 12] from 47 to 119 (fun u t wx => u = .int .i64 E ∧ t = .string S ∧ ∃ (A4 B4 : Option Addr) (n4 c4 m4 e4 : Nat), PR w g5 g7 N (i + 1) A3 B3 n3 c3 m3 e3 A4 B4 n4 c4 m4 e4 D2 wx)
        case first =>
          by_cases hk0 : kind = 0
          · subst hk0
            have hD : D2 = wrD D place data := by rw [HD2.out]; simp [doesD]
            have hE : E = wrE D place data := by rw [HE.out]; simp [doesE]
            have hS : S = ⟨#[]⟩ := by rw [HS.out]; simp [doesS]
            have h7 : Calls Try.prog 14 #[.agg #[.slice A' n' c', .slice B' m' e', .bool D.dead, .int .i64 D.left], .int .i64 place, .string data] X3 fun e w' => ∃ A4 n4 c4 B4 m4 e4, e = .returned (.tuple #[.agg #[.slice A4 n4 c4, .slice B4 m4 e4, .bool D2.dead, .int .i64 D2.left], .int .i64 E]) ∧ IsDisk w' (.agg #[.slice A4 n4 c4, .slice B4 m4 e4, .bool D2.dead, .int .i64 D2.left]) D2 ∧ Below X3.heap.size X3 w' := by
              refine (rwr_calls _ D place data X3 HV7.out HOK.out HRI.out).mono ?_
              rintro e w' ⟨v', rfl, hv', hb'⟩
              rw [← hD, ← hE] at *
              obtain ⟨A4, n4, c4, B4, m4, e4, rfl⟩ := hv'.parts
              exact ⟨A4, n4, c4, B4, m4, e4, rfl, hv', hb'⟩
            have H7 := Lib.hid h7
            have HEQ := Lib.hid hE
            have HSQ := Lib.hid hS
            clear h7 hD hE hS
            go_wp2_with (go_at_call 14; (with_reducible refine H7.out.mono ?_); rintro e0 y4 ⟨A4, n4, c4, B4, m4, e4, rfl, hv4, hb4⟩; have HV4 := Lib.hid hv4; have HB4 := Lib.hid hb4; have hy := box4 (box_kept _ HB7.out hb4); obtain ⟨⟨z0, z1, z2, z3⟩, t0, t1, t2, t3⟩ := hy; clear hv4 hb4)
            go_meet
            case rel => exact ⟨rfl, by rw [HSQ.out], _, _, _, _, _, _, pr_store HB5.out HV5.out HB7.out HB4.out HV4.out HPL2.out HBW.out hle5 hle7 hne57⟩
          by_cases hk1 : kind = 1
          · subst hk1
            have hD : D2 = D := by rw [HD2.out]; simp [doesD]
            have hE : E = rdE D place := by rw [HE.out]; simp [doesE]
            have hS : S = rdS D place := by rw [HS.out]; simp [doesS]
            have h7 : Calls Try.prog 15 #[.agg #[.slice A' n' c', .slice B' m' e', .bool D.dead, .int .i64 D.left], .int .i64 place] X3 fun e w' => e = .returned (.tuple #[.string S, .int .i64 E]) ∧ Below X3.heap.size X3 w' := by
              rw [hE, hS]
              exact rrd_calls _ D place X3 HV7.out HOK.out HRI.out
            have H7 := Lib.hid h7
            have HDQ := Lib.hid hD
            clear h7 hD hE hS
            go_wp2_with (go_at_call 15; (with_reducible refine H7.out.mono ?_); rintro e0 y4 ⟨rfl, hb4⟩; have HB4 := Lib.hid hb4; clear hb4)
            go_meet
            case rel => exact ⟨rfl, rfl, _, _, _, _, _, _, (pr_same HB5.out HV5.out HB7.out HV7.out HDQ.out HPL2.out HBW.out hle5 hle7 hne57).keep HB4.out⟩
          by_cases hk2 : kind = 2
          · subst hk2
            have hD : D2 = flD D := by rw [HD2.out]; simp [doesD]
            have hE : E = flE D := by rw [HE.out]; simp [doesE]
            have hS : S = ⟨#[]⟩ := by rw [HS.out]; simp [doesS]
            have h7 : Calls Try.prog 16 #[.agg #[.slice A' n' c', .slice B' m' e', .bool D.dead, .int .i64 D.left]] X3 fun e w' => ∃ A4 n4 c4 B4 m4 e4, e = .returned (.tuple #[.agg #[.slice A4 n4 c4, .slice B4 m4 e4, .bool D2.dead, .int .i64 D2.left], .int .i64 E]) ∧ IsDisk w' (.agg #[.slice A4 n4 c4, .slice B4 m4 e4, .bool D2.dead, .int .i64 D2.left]) D2 ∧ Below X3.heap.size X3 w' := by
              refine (rfl_calls _ D X3 HV7.out HOK.out HIN.out).mono ?_
              rintro e w' ⟨v', rfl, hv', hb'⟩
              rw [← hD, ← hE] at *
              obtain ⟨A4, n4, c4, B4, m4, e4, rfl⟩ := hv'.parts
              exact ⟨A4, n4, c4, B4, m4, e4, rfl, hv', hb'⟩
            have H7 := Lib.hid h7
            have HEQ := Lib.hid hE
            have HSQ := Lib.hid hS
            clear h7 hD hE hS
            go_wp2_with (go_at_call 16; (with_reducible refine H7.out.mono ?_); rintro e0 y4 ⟨A4, n4, c4, B4, m4, e4, rfl, hv4, hb4⟩; have HV4 := Lib.hid hv4; have HB4 := Lib.hid hb4; have hy := box4 (box_kept _ HB7.out hb4); obtain ⟨⟨z0, z1, z2, z3⟩, t0, t1, t2, t3⟩ := hy; clear hv4 hb4)
            go_meet
            case rel => exact ⟨rfl, by rw [HSQ.out], _, _, _, _, _, _, pr_store HB5.out HV5.out HB7.out HB4.out HV4.out HPL2.out HBW.out hle5 hle7 hne57⟩
          by_cases hk3 : kind = 3
          · subst hk3
            have hD : D2 = { D with left := max place (-1) } := by rw [HD2.out]; simp [doesD]
            have hE : E = 0 := by rw [HE.out]; simp [doesE]
            have hS : S = ⟨#[]⟩ := by rw [HS.out]; simp [doesS]
            have h7 : Calls Try.prog 17 #[.agg #[.slice A' n' c', .slice B' m' e', .bool D.dead, .int .i64 D.left], .int .i64 place] X3 fun e w' => ∃ A4 n4 c4 B4 m4 e4, e = .returned (.agg #[.slice A4 n4 c4, .slice B4 m4 e4, .bool D2.dead, .int .i64 D2.left]) ∧ IsDisk w' (.agg #[.slice A4 n4 c4, .slice B4 m4 e4, .bool D2.dead, .int .i64 D2.left]) D2 ∧ Below X3.heap.size X3 w' := by
              refine (rarm_calls _ D place X3 HV7.out).mono ?_
              rintro e w' ⟨v', rfl, hv', hb'⟩
              rw [← hD] at *
              obtain ⟨A4, n4, c4, B4, m4, e4, rfl⟩ := hv'.parts
              exact ⟨A4, n4, c4, B4, m4, e4, rfl, hv', hb'⟩
            have H7 := Lib.hid h7
            have HEQ := Lib.hid hE
            have HSQ := Lib.hid hS
            clear h7 hD hE hS
            go_wp2_with (go_at_call 17; (with_reducible refine H7.out.mono ?_); rintro e0 y4 ⟨A4, n4, c4, B4, m4, e4, rfl, hv4, hb4⟩; have HV4 := Lib.hid hv4; have HB4 := Lib.hid hb4; have hy := box4 (box_kept _ HB7.out hb4); obtain ⟨⟨z0, z1, z2, z3⟩, t0, t1, t2, t3⟩ := hy; clear hv4 hb4)
            go_meet
            case rel => exact ⟨by rw [HEQ.out], by rw [HSQ.out], _, _, _, _, _, _, pr_store HB5.out HV5.out HB7.out HB4.out HV4.out HPL2.out HBW.out hle5 hle7 hne57⟩
          by_cases hk4 : kind = 4
          · subst hk4
            have hD : D2 = stD D stay := by rw [HD2.out]; simp [doesD]
            have hE : E = 0 := by rw [HE.out]; simp [doesE]
            have hS : S = ⟨#[]⟩ := by rw [HS.out]; simp [doesS]
            have h7 : Calls Try.prog 18 #[.agg #[.slice A' n' c', .slice B' m' e', .bool D.dead, .int .i64 D.left], .int .u64 stay] X3 fun e w' => ∃ A4 n4 c4 B4 m4 e4, e = .returned (.agg #[.slice A4 n4 c4, .slice B4 m4 e4, .bool D2.dead, .int .i64 D2.left]) ∧ IsDisk w' (.agg #[.slice A4 n4 c4, .slice B4 m4 e4, .bool D2.dead, .int .i64 D2.left]) D2 ∧ Below X3.heap.size X3 w' := by
              refine (rst_calls _ D stay X3 HV7.out HOK.out HIN.out hst).mono ?_
              rintro e w' ⟨v', rfl, hv', hb'⟩
              rw [← hD] at *
              obtain ⟨A4, n4, c4, B4, m4, e4, rfl⟩ := hv'.parts
              exact ⟨A4, n4, c4, B4, m4, e4, rfl, hv', hb'⟩
            have H7 := Lib.hid h7
            have HEQ := Lib.hid hE
            have HSQ := Lib.hid hS
            clear h7 hD hE hS
            go_wp2_with (go_at_call 18; (with_reducible refine H7.out.mono ?_); rintro e0 y4 ⟨A4, n4, c4, B4, m4, e4, rfl, hv4, hb4⟩; have HV4 := Lib.hid hv4; have HB4 := Lib.hid hb4; have hy := box4 (box_kept _ HB7.out hb4); obtain ⟨⟨z0, z1, z2, z3⟩, t0, t1, t2, t3⟩ := hy; clear hv4 hb4)
            go_meet
            case rel => exact ⟨by rw [HEQ.out], by rw [HSQ.out], _, _, _, _, _, _, pr_store HB5.out HV5.out HB7.out HB4.out HV4.out HPL2.out HBW.out hle5 hle7 hne57⟩
          · have hD : D2 = D := by rw [HD2.out]; simp [doesD, hk0, hk2, hk3, hk4]
            have hE : E = 0 := by rw [HE.out]; simp [doesE, hk0, hk1, hk2]
            have hS : S = ⟨#[]⟩ := by rw [HS.out]; simp [doesS, hk1]
            have HEQ := Lib.hid hE
            have HSQ := Lib.hid hS
            have HDQ := Lib.hid hD
            have g0 : (kind == 0) = false := by simp [hk0]
            have g1 : (kind == 1) = false := by simp [hk1]
            have g2 : (kind == 2) = false := by simp [hk2]
            have g3 : (kind == 3) = false := by simp [hk3]
            have g4 : (kind == 4) = false := by simp [hk4]
            clear hD hE hS
            go_wp2_with fail
            go_meet
            case rel => exact ⟨by rw [HEQ.out], by rw [HSQ.out], _, _, _, _, _, _, pr_same HB5.out HV5.out HB7.out HV7.out HDQ.out HPL2.out HBW.out hle5 hle7 hne57⟩
        case rest =>
          obtain ⟨rfl, rfl, A4, B4, n4, c4, m4, e4, hpr⟩ := hcut
          have HPR := Lib.hid hpr
          clear hpr HD2 HS HE HB5 HV5 HB7 HV7 HA HBW HRI HIN HOK HPL2 p0 p1 p2 p3 f0 f1 f2 f3 q0 q1 q2 q3
          obtain ⟨⟨p0, p1, p2, p3⟩, _⟩ := box4 HPR.out.b5
          obtain ⟨⟨q0, q1, q2, q3⟩, _⟩ := box4 HPR.out.b7
          have hsame := rsame_calls _ _ D2 _ HPR.out.d5 HPR.out.d7 (by have := HPR.out.pl.good.sure; omega) (by have := HPR.out.pl.good.wet; omega)
          have HSA := Lib.hid hsame
          clear hsame
          go_wp2_with (go_at_call 12; (with_reducible refine HSA.out.mono ?_); rintro e0 y5 ⟨rfl, hb5⟩; have HB9 := Lib.hid hb5; clear hb5)
          have HRE := Lib.hid (HPR.out.keep HB9.out)
          clear HPR HB9 HSA
          exact ⟨⟨i + 1, _, _, _, _, _, _, _, _, _, _, _, _, _, by omega, by go_num, HRE.out⟩, by simp [intOf]; omega⟩
      · have hnl : decide ((i : Int) < (len : Int)) = false := by simp; omega
        have HBL := Lib.hid hrel.below
        clear hrel
        go_wp2_with fail
        (with_reducible refine (awake_true _).mono ?_)
        rintro e0 y5 ⟨rfl, hb5⟩
        go_wp2_with fail
        go_ret
        exact ⟨rfl, below_trans' HBL.out hb5⟩

set_option maxRecDepth 100000 in
set_option maxHeartbeats 1000000 in
/-- Deeds that are many, or long. -/
theorem plays_many (n : Int) (hn : ¬ (200 < n ∧ n ≤ 2000)) (A0 : Option Addr) (len cap : Nat) (w : World)
    (hsm : ∀ W : World, Below w.heap.size w W → Calls Try.prog 8 #[.slice A0 len cap] W fun e w' => e = .returned (.bool false) ∧ Below W.heap.size W w') :
    Calls Try.prog 3 #[.int .i64 n, .slice A0 len cap] w fun e w' => e = .returned (.bool true) ∧ Below w.heap.size w w' := by
  have HSM := Lib.hid hsm
  have hnot : ∀ (x : Bool) (w : World), (Op.unary .not (.bool x)).run Try.prog w = .ok (.bool (!x)) w := fun _ _ => rfl
  clear hsm
  by_cases h200 : 200 < n
  · have hd1 : decide (200 < n) = true := by simpa using h200
    have hd2 : decide (n ≤ 2000) = false := by simp; omega
    go_enter Try.func3, Try.ntmps3
    go_wp2_with fail
    (with_reducible refine (HSM.out _ (Below.refl _ _)).mono ?_)
    rintro e w1 ⟨rfl, hb1⟩
    go_wp2_with fail
    (with_reducible refine (awake_true _).mono ?_)
    rintro e w2 ⟨rfl, hb2⟩
    go_wp2_with fail
    go_ret
    exact ⟨rfl, below_trans' hb1 hb2⟩
  · have hd1 : decide (200 < n) = false := by simpa using h200
    go_enter Try.func3, Try.ntmps3
    go_wp2_with fail
    (with_reducible refine (HSM.out _ (Below.refl _ _)).mono ?_)
    rintro e w1 ⟨rfl, hb1⟩
    go_wp2_with fail
    (with_reducible refine (awake_true _).mono ?_)
    rintro e w2 ⟨rfl, hb2⟩
    go_wp2_with fail
    go_ret
    exact ⟨rfl, below_trans' hb1 hb2⟩

set_option maxRecDepth 100000 in
set_option maxHeartbeats 1000000 in
/-- Sectors that are many. -/
theorem plays_wide (n : Int) (h1 : 200 < n) (h2 : n ≤ 2000) (A0 : Option Addr) (len cap : Nat) (w : World) :
    Calls Try.prog 3 #[.int .i64 n, .slice A0 len cap] w fun e w' => e = .returned (.bool true) ∧ Below w.heap.size w w' := by
  have hd1 : decide (200 < n) = true := by simpa using h1
  have hd2 : decide (n ≤ 2000) = true := by simpa using h2
  go_enter Try.func3, Try.ntmps3
  go_wp2_with fail
  (with_reducible refine (awake_true _).mono ?_)
  rintro e w2 ⟨rfl, hb2⟩
  go_wp2_with fail
  go_ret
  exact ⟨rfl, hb2⟩

theorem ActIn.later {w W : World} {A : Option Addr} {len : Nat} {xs : List AK} (h : ActIn w A len xs) (hb : Below w.heap.size w W) : ActIn W A len xs :=
  ⟨h.1, h.2.1, fun hp => by
    obtain ⟨b, off, e, hlt, hc⟩ := h.2.2 hp
    refine ⟨b, off, e, Nat.lt_of_lt_of_le hlt hb.size, fun j a ha => ?_⟩
    obtain ⟨c0, c1, c2, c3⟩ := hc j a ha
    exact ⟨(hb.cell (p := ⟨b, _, none⟩) hlt).trans c0, (hb.cell (p := ⟨b, _, none⟩) hlt).trans c1, (hb.cell (p := ⟨b, _, none⟩) hlt).trans c2, (hb.cell (p := ⟨b, _, none⟩) hlt).trans c3⟩⟩
end Go.Proofs.Ytnnbbkfdijionaa
