/- Contracts and plain mathematics that the statement's proof wants: no statement is proved here, nothing is assumed. -/
import Derived.Test.YtnbbijpmkhdgpaaGreatMg12
import Derived.Test.YtnbbijpmkhdgpaaGreatMg25
/- ERParse -/
namespace Go.Proofs.YtnbbijpmkhdgpaaGreat.Ent
open Go.RowKit Go.Sort
open Wire (TK TP But twoL fourL numS numV inside good markS)
open Crc (sealB Only)

theorem parse_none {s : List UInt8} (h : isE s = false) : parseE s = zeroE := by unfold parseE; rw [h]; rfl
theorem parse_len {s : List UInt8} (h : s.length ≠ 256) : isE s = false := by
  cases hb : isE s with
  | false => rfl
  | true => exact absurd (is_ends hb).1 h
theorem parse_kind {s : List UInt8} (h1 : s.take 4 ≠ pagK) (h2 : s.take 4 ≠ endK) : isE s = false := by
  cases hb : isE s with
  | false => rfl
  | true =>
    have := (is_ends hb).2.1
    cases hl : lastB s with
    | true => rw [hl] at this; exact absurd this h2
    | false => rw [hl] at this; exact absurd this h1
theorem parse_bad {s : List UInt8} (h : (g3 (tapeG s)).bad = true) : isE s = false := by
  cases hb : isE s with
  | false => rfl
  | true => rw [(is_ends hb).2.2] at h; cases h
theorem kind_at {s : List UInt8} {b : Bool} (hl : s.length = 256) (hk : s.take 4 = kindL b) : lastB s = b ∧ tapeG s = ⟨s.drop 4, false⟩ := by
  have h1 : lastB s = b := by
    have e : s = kindL b ++ s.drop 4 := by rw [← hk]; exact (List.take_append_drop 4 s).symm
    unfold lastB
    rw [e]
    exact begins_kind b _
  refine ⟨h1, ?_⟩
  unfold tapeG
  rw [h1, mark_good (by rw [kindL_len, hl]; omega) (by rw [kindL_len]; exact hk), kindL_len]
theorem num_rest (k : Nat) (lo hi : Int) (t : TK) : t.rest.length ≤ (numS k lo hi t).rest.length + k := by
  unfold numS
  split
  · show _ ≤ (t.rest.drop k).length + k
    rw [List.length_drop]; omega
  · exact Nat.le_add_right _ _
theorem g3_rest (t : TK) : t.rest.length ≤ (g3 t).rest.length + 8 := by
  have h1 := num_rest 4 1 2147483647 t
  have h2 := num_rest 2 0 255 (g1 t)
  have h3 := num_rest 2 0 511 (g2 t)
  unfold g3 g2 at *
  unfold g1 at *
  omega

theorem from4 (s : List UInt8) (h : s.length = 256) (w : World) :
    Sem.run Tryz.prog (Instr.slice 9 (.string (strB s)) (some (.int .i64 4)) none none) w = .ok (.string (strB (s.drop 4))) w := by
  have h2 : (4 : Int) ≤ ((strB s).size : Int) := by rw [strB_size]; omega
  have h3 : 4 ≤ (strB s).size := by rw [strB_size]; omega
  have e : (strB s).extract 4 (strB s).size = strB (s.drop 4) := by
    rw [strB_extract, List.take_of_length_le (by rw [strB_size]; exact Nat.le_refl _)]
  simp [go_sem, h2, h3, e]
theorem cut208 (l : List UInt8) (h : 208 ≤ l.length) (w : World) :
    Sem.run Tryz.prog (Instr.slice 9 (.string (strB l)) none (some (.int .i64 208)) none) w = .ok (.string (strB (l.take 208))) w := by
  have h2 : (208 : Int) ≤ ((strB l).size : Int) := by rw [strB_size]; omega
  have h3 : 208 ≤ (strB l).size := by rw [strB_size]; omega
  have e : (strB l).extract 0 208 = strB (l.take 208) := by rw [strB_extract, List.drop_zero]
  simp [go_sem, h2, h3, e]

/-- The result's box, and the tape's, of the document's Parse. -/
structure RS (w W : World) (t : TK) : Prop where
  z : EBox W w.heap.size zeroE
  t : TP 139 W (w.heap.size + 1) t
  below : Below w.heap.size w W
section
variable {w W W' : World} {t u : TK}
theorem RS.but (h : RS w W t) (ht : TP 139 W' (w.heap.size + 1) u) (hb : But (w.heap.size + 1) W W') : RS w W' u :=
  ⟨h.z.but hb (by omega), ht, h.below.trans (hb.below (by omega) h.below.size)⟩
theorem RS.more (h : RS w W t) (hb : Below W.heap.size W W') : RS w W' t := ⟨h.z.below hb, h.t.below hb, below_trans' h.below hb⟩
theorem RS.drew (h : RS w W t) : RS w W.drew t := ⟨h.z, h.t.drew, bdrew h.below⟩
theorem RS.new (w : World) (l : List UInt8) : ∃ Y, Y = (w.alloc (.cells #[.int .i64 0, .int .i64 0, .bool false, .int .i64 0, .string ⟨#[]⟩] 55)).alloc (.cells #[.string (strB l), .bool false] 139) ∧ RS w Y ⟨l, false⟩ := by
  refine ⟨_, rfl, (EBox.new w zeroE).below (below_one _ _), ?_, below_trans' (below_one _ _) (below_one _ _)⟩
  have := TP.new 139 (w.alloc (.cells #[.int .i64 0, .int .i64 0, .bool false, .int .i64 0, .string ⟨#[]⟩] 55)) l false
  rw [show (w.alloc (.cells #[.int .i64 0, .int .i64 0, .bool false, .int .i64 0, .string ⟨#[]⟩] 55)).heap.size = w.heap.size + 1 by simp] at this
  exact this
end

/-- A box of the document's Parse that was made early. -/
structure QZ (w W : World) (g : Nat) : Prop where
  z : EBox W g zeroE
  gt : w.heap.size + 1 < g
theorem QZ.but {w W W' : World} {g : Nat} (h : QZ w W g) (hb : But (w.heap.size + 1) W W') : QZ w W' g := ⟨h.z.but hb (by have := h.gt; omega), h.gt⟩
theorem QZ.new {w W : World} {t : TK} (h : RS w W t) : QZ w (W.alloc (.cells #[.int .i64 0, .int .i64 0, .bool false, .int .i64 0, .string ⟨#[]⟩] 55)) W.heap.size := by
  exact ⟨EBox.new W zeroE, h.t.lt⟩
theorem QZ.drew {w W : World} {g : Nat} (h : QZ w W g) : QZ w W.drew g := ⟨h.z, h.gt⟩
theorem RS.only {w W W' : World} {t : TK} {g : Nat} (h : RS w W t) (k : Only g W W') (hg : w.heap.size + 1 < g) : RS w W' t :=
  ⟨h.z.only k (by omega), h.t.keep (k.block _ (by omega)), Only.after h.below k (by omega)⟩
theorem store5e {w : World} {g : Nat} {x0 : En} (h : EBox w g x0) (a b : Int) (c : Bool) (d : Int) :
    ∃ w2, ((((w.setCell ⟨g, 0, none⟩ (.int .i64 a)).setCell ⟨g, 1, none⟩ (.int .i64 b)).setCell ⟨g, 2, none⟩ (.bool c)).setCell ⟨g, 3, none⟩ (.int .i64 d)).setCell ⟨g, 4, none⟩ (.string ⟨#[]⟩) = w2 ∧ EBox w2 g ⟨a, b, c, d, []⟩ ∧ Only g w w2 := store5 h ⟨a, b, c, d, []⟩
theorem new5e (w : World) (a b : Int) (c : Bool) (d : Int) : ∃ w2, w.alloc (.cells #[.int .i64 a, .int .i64 b, .bool c, .int .i64 d, .string ⟨#[]⟩] 55) = w2 ∧ EBox w2 w.heap.size ⟨a, b, c, d, []⟩ ∧ Below w.heap.size w w2 := ⟨_, rfl, EBox.new w ⟨a, b, c, d, []⟩, below_one _ _⟩
theorem RS.ge {w W : World} {t : TK} (h : RS w W t) : w.heap.size + 1 < W.heap.size := h.t.lt

set_option maxRecDepth 100000 in
set_option maxHeartbeats 16000000 in
theorem rparse_pag (s : List UInt8) (w : World) (hl : s.length = 256) (hk : s.take 4 = kindL false) :
    Calls Tryz.prog 104 #[.string (strB s)] w fun e w' => e = .returned (.tuple #[enV (parseE s), .bool (isE s)]) ∧ Below w.heap.size w w' := by
  have h256 : (strB s).size = 256 := by rw [strB_size]; exact hl
  have hc4 := cut4 s hl
  rw [hk, show strB (kindL false) = ⟨#[74, 80, 65, 71]⟩ from rfl] at hc4
  have hf4 := from4 s hl
  obtain ⟨hlb, htg⟩ := kind_at hl hk
  obtain ⟨l, hll⟩ : ∃ l, l = s.drop 4 := ⟨_, rfl⟩
  rw [← hll] at hf4 htg
  obtain ⟨Y, hY, hRS⟩ := RS.new w l
  have HY := Lib.hid hY
  have HR := Lib.hid hRS
  have HG : Hid (208 ≤ (g3 ⟨l, false⟩).rest.length) := Lib.hid (by have := g3_rest ⟨l, false⟩; rw [show (TK.mk l false).rest = l from rfl, hll, List.length_drop, hl] at this; rw [hll]; omega)
  obtain ⟨R, hR⟩ : ∃ R, R = guessE s := ⟨_, rfl⟩
  have HRD : Hid (R.data.length ≤ 240) := Lib.hid (by rw [hR]; have := guess_data s; omega)
  have HRE : Hid (R = ⟨(numV 4 1 2147483647 ⟨l, false⟩ : Nat), (numV 2 0 255 (g1 ⟨l, false⟩) : Nat), false, (numV 2 0 511 (g2 ⟨l, false⟩) : Nat), (g3 ⟨l, false⟩).rest.take 208⟩) := Lib.hid (by rw [hR]; unfold guessE; rw [hlb, htg]; rfl)
  have HBAD : Hid ((g3 ⟨l, false⟩).bad = true → isE s = false) := Lib.hid (fun h => parse_bad (by rw [htg]; exact h))
  have HIS : Hid (isE s = (rightE R && (printL R == s)) ∧ (isE s = true → parseE s = R)) := Lib.hid ⟨by rw [hR]; rfl, fun h => by unfold parseE; rw [h, if_pos rfl, hR]⟩
  have CR := Lib.hid (rright_calls R)
  have CP := Lib.hid (fun W => rprint_calls R W HRD.out)
  have hsp := eq_spell (printL R) s
  unfold enV at CR CP
  clear hY hRS hll htg hlb hk hR hl
  go_enter Tryz.func104, Tryz.ntmps104
  go_wp2_with fail
  rw [← HY.out]
  clear HY
  go_region_with (first | (go_at_call 123; (with_reducible refine (Wire.rrfour_calls (w.heap.size + 1) 1 2147483647 ⟨l, false⟩ _ HR.out.t).mono ?_); rintro e w1 ⟨rfl, hT1, hB1⟩; have HR1 : Hid (RS w w1 (g1 ⟨l, false⟩)) := Lib.hid (HR.out.but hT1 hB1); clear hT1 hB1) | (go_at_call 123; (with_reducible refine (Wire.rrfour_calls (w.heap.size + 1) 1 2147483647 ⟨l, false⟩ _ HR.out.drew.t).mono ?_); rintro e w1 ⟨rfl, hT1, hB1⟩; have HR1 : Hid (RS w w1 (g1 ⟨l, false⟩)) := Lib.hid (HR.out.drew.but hT1 hB1); clear hT1 hB1) | (go_at_call 123; (with_reducible refine (Wire.rrfour_calls (w.heap.size + 1) 1 2147483647 ⟨l, false⟩ _ (HR.out.more (below_one _ (.cells #[.int .i64 0, .int .i64 0, .bool false, .int .i64 0, .string ⟨#[]⟩] 55))).t).mono ?_); rintro e w1 ⟨rfl, hT1, hB1⟩; have HR1 : Hid (RS w w1 (g1 ⟨l, false⟩)) := Lib.hid ((HR.out.more (below_one _ (.cells #[.int .i64 0, .int .i64 0, .bool false, .int .i64 0, .string ⟨#[]⟩] 55))).but hT1 hB1); have HQ1 := Lib.hid ((QZ.new HR.out).but hB1); clear hT1 hB1) | (go_at_call 123; (with_reducible refine (Wire.rrfour_calls (w.heap.size + 1) 1 2147483647 ⟨l, false⟩ _ (HR.out.more (below_one _ (.cells #[.int .i64 0, .int .i64 0, .bool false, .int .i64 0, .string ⟨#[]⟩] 55))).drew.t).mono ?_); rintro e w1 ⟨rfl, hT1, hB1⟩; have HR1 : Hid (RS w w1 (g1 ⟨l, false⟩)) := Lib.hid ((HR.out.more (below_one _ (.cells #[.int .i64 0, .int .i64 0, .bool false, .int .i64 0, .string ⟨#[]⟩] 55))).drew.but hT1 hB1); have HQ1 := Lib.hid (((QZ.new HR.out).drew).but hB1); clear hT1 hB1) | (go_at_call 103; (with_reducible refine (Wire.rrtwo_calls (w.heap.size + 1) 0 255 (g1 ⟨l, false⟩) _ HR1.out.t).mono ?_); rintro e w2 ⟨rfl, hT2, hB2⟩; have HR2 : Hid (RS w w2 (g2 ⟨l, false⟩)) := Lib.hid (HR1.out.but hT2 hB2); (try (have HQ2 := Lib.hid (HQ1.out.but hB2))); clear hT2 hB2) | (go_at_call 103; (with_reducible refine (Wire.rrtwo_calls (w.heap.size + 1) 0 255 (g1 ⟨l, false⟩) _ (HR1.out.more (below_one _ (.cells #[.int .i64 0, .int .i64 0, .bool false, .int .i64 0, .string ⟨#[]⟩] 55))).t).mono ?_); rintro e w2 ⟨rfl, hT2, hB2⟩; have HR2 : Hid (RS w w2 (g2 ⟨l, false⟩)) := Lib.hid ((HR1.out.more (below_one _ (.cells #[.int .i64 0, .int .i64 0, .bool false, .int .i64 0, .string ⟨#[]⟩] 55))).but hT2 hB2); have HQ2 := Lib.hid ((QZ.new HR1.out).but hB2); clear hT2 hB2) | (go_at_call 103; (with_reducible refine (Wire.rrtwo_calls (w.heap.size + 1) 0 511 (g2 ⟨l, false⟩) _ HR2.out.t).mono ?_); rintro e w3 ⟨rfl, hT3, hB3⟩; have HR3 : Hid (RS w w3 (g3 ⟨l, false⟩)) := Lib.hid (HR2.out.but hT3 hB3); (try (have HQ3 := Lib.hid (HQ2.out.but hB3))); (try (obtain ⟨z0, z1, z2, z3, z4⟩ := HQ3.out.z.at_; have zf := HQ3.out.z.free)); clear hT3 hB3) | (go_at_call 103; (with_reducible refine (Wire.rrtwo_calls (w.heap.size + 1) 0 511 (g2 ⟨l, false⟩) _ (HR2.out.more (below_one _ (.cells #[.int .i64 0, .int .i64 0, .bool false, .int .i64 0, .string ⟨#[]⟩] 55))).t).mono ?_); rintro e w3 ⟨rfl, hT3, hB3⟩; have HR3 : Hid (RS w w3 (g3 ⟨l, false⟩)) := Lib.hid ((HR2.out.more (below_one _ (.cells #[.int .i64 0, .int .i64 0, .bool false, .int .i64 0, .string ⟨#[]⟩] 55))).but hT3 hB3); have HQ3 := Lib.hid ((QZ.new HR2.out).but hB3); (try (obtain ⟨z0, z1, z2, z3, z4⟩ := HQ3.out.z.at_; have zf := HQ3.out.z.free)); clear hT3 hB3))
  all_goals
    first
    | (obtain ⟨X, hX, hXb, hXo⟩ := store5e HQ3.out.z (numV 4 1 2147483647 ⟨l, false⟩ : Nat) (numV 2 0 255 (g1 ⟨l, false⟩) : Nat) false (numV 2 0 511 (g2 ⟨l, false⟩) : Nat); rw [hX]; have HXB := Lib.hid hXb; have HN := Lib.hid HQ3.out.gt; have HRX := Lib.hid (HR3.out.only hXo HQ3.out.gt); clear hX hXb hXo z0 z1 z2 z3 z4 zf)
    | (obtain ⟨X, hX, hXb, hXo⟩ := new5e w3 (numV 4 1 2147483647 ⟨l, false⟩ : Nat) (numV 2 0 255 (g1 ⟨l, false⟩) : Nat) false (numV 2 0 511 (g2 ⟨l, false⟩) : Nat); rw [hX]; have HXB := Lib.hid hXb; have HN := Lib.hid HR3.out.ge; have HRX := Lib.hid (HR3.out.more hXo); clear hX hXb hXo)
    obtain ⟨c0, c1, c2, c3, c4⟩ := HXB.out.at_
    have xf := HXB.out.free
    have t0 := HRX.out.t.rest
    have hcut := cut208 _ HG.out
    obtain ⟨X2, hX2, hX2b, hX2o⟩ := set1 (HXB.out.setData ((g3 ⟨l, false⟩).rest.take 208))
    have HX2 := Lib.hid hX2
    have HB7 : Hid (EBox X2 _ R) := Lib.hid (by rw [HRE.out]; exact hX2b)
    have HR7 := Lib.hid (HRX.out.only hX2o HN.out)
    clear hX2 hX2b hX2o
    go_upto_region 7 with (fail)
    rw [HX2.out]
    clear c0 c1 c2 c3 c4 xf t0 hcut HX2
    have t1 := HR7.out.t.bad
    cases hb : (g3 ⟨l, false⟩).bad with
    | true =>
      rw [hb] at t1
      have e1 : false = isE s := (HBAD.out hb).symm
      have e2 : zeroE = parseE s := (parse_none e1.symm).symm
      obtain ⟨k0, k1, k2, k3, k4⟩ := HR7.out.z.at_
      have kf := HR7.out.z.free
      obtain ⟨V, hV, hVb, hVo⟩ := store5e HR7.out.z 0 0 false 0
      have HVV := Lib.hid hV
      have HVB := Lib.hid hVb
      have HVO := Lib.hid (Only.after HR7.out.below hVo (Nat.le_refl _))
      have E1 := Lib.hid e1
      have E2 := Lib.hid e2
      clear hV hVb hVo e1 e2
      go_wp2_with fail
      rw [HVV.out]
      clear k0 k1 k2 k3 k4 kf HVV
      obtain ⟨k0, k1, k2, k3, k4⟩ := HVB.out.at_
      exact bodyPost_ret (v := .tuple #[enV zeroE, .bool false]) (by simp [results, Tryz.results104, go_sem, enV, zeroE, k0, k1, k2, k3, k4, strB]) rfl ⟨parse_end E2.out E1.out, HVO.out⟩
    | false =>
      rw [hb] at t1
      obtain ⟨d0, d1, d2, d3, d4⟩ := HB7.out.at_
      go_wp2_with fail
      (with_reducible refine (CR.out _).mono ?_)
      rintro e w8 ⟨rfl, hB8⟩
      replace HR7 := Lib.hid (HR7.out.more hB8)
      replace HB7 := Lib.hid (HB7.out.below hB8)
      clear hB8 d0 d1 d2 d3 d4 t1
      cases hr : rightE R with
      | false =>
        have e1 : false = isE s := by rw [HIS.out.1, hr]; rfl
        have e2 : zeroE = parseE s := (parse_none e1.symm).symm
        obtain ⟨k0, k1, k2, k3, k4⟩ := HR7.out.z.at_
        have kf := HR7.out.z.free
        obtain ⟨V, hV, hVb, hVo⟩ := store5e HR7.out.z 0 0 false 0
        have HVV := Lib.hid hV
        have HVB := Lib.hid hVb
        have HVO := Lib.hid (Only.after HR7.out.below hVo (Nat.le_refl _))
        have E1 := Lib.hid e1
        have E2 := Lib.hid e2
        clear hV hVb hVo e1 e2
        go_wp2_with fail
        rw [HVV.out]
        clear k0 k1 k2 k3 k4 kf HVV
        obtain ⟨k0, k1, k2, k3, k4⟩ := HVB.out.at_
        exact bodyPost_ret (v := .tuple #[enV zeroE, .bool false]) (by simp [results, Tryz.results104, go_sem, enV, zeroE, k0, k1, k2, k3, k4, strB]) rfl ⟨parse_end E2.out E1.out, HVO.out⟩
      | true =>
        obtain ⟨d0, d1, d2, d3, d4⟩ := HB7.out.at_
        go_wp2_with fail
        (with_reducible refine (CP.out _).mono ?_)
        rintro e w9 ⟨rfl, hB9⟩
        replace HR7 := Lib.hid (HR7.out.more hB9)
        replace HB7 := Lib.hid (HB7.out.below hB9)
        clear hB9 d0 d1 d2 d3 d4
        cases hp : printL R == s with
        | false =>
          rw [hp] at hsp
          have e1 : false = isE s := by rw [HIS.out.1, hr, hp]; rfl
          have e2 : zeroE = parseE s := (parse_none e1.symm).symm
          obtain ⟨k0, k1, k2, k3, k4⟩ := HR7.out.z.at_
          have kf := HR7.out.z.free
          obtain ⟨V, hV, hVb, hVo⟩ := store5e HR7.out.z 0 0 false 0
          have HVV := Lib.hid hV
          have HVB := Lib.hid hVb
          have HVO := Lib.hid (Only.after HR7.out.below hVo (Nat.le_refl _))
          have E1 := Lib.hid e1
          have E2 := Lib.hid e2
          clear hV hVb hVo e1 e2
          go_wp2_with fail
          rw [HVV.out]
          clear k0 k1 k2 k3 k4 kf HVV
          obtain ⟨k0, k1, k2, k3, k4⟩ := HVB.out.at_
          exact bodyPost_ret (v := .tuple #[enV zeroE, .bool false]) (by simp [results, Tryz.results104, go_sem, enV, zeroE, k0, k1, k2, k3, k4, strB]) rfl ⟨parse_end E2.out E1.out, HVO.out⟩
        | true =>
          rw [hp] at hsp
          have e1 : true = isE s := by rw [HIS.out.1, hr, hp]; rfl
          have e2 : R = parseE s := (HIS.out.2 e1.symm).symm
          obtain ⟨d0, d1, d2, d3, d4⟩ := HB7.out.at_
          obtain ⟨k0, k1, k2, k3, k4⟩ := HR7.out.z.at_
          have kf := HR7.out.z.free
          obtain ⟨V, hV, hVb, hVo⟩ := store5 HR7.out.z R
          have HVV := Lib.hid hV
          have HVB := Lib.hid hVb
          have HVO := Lib.hid (Only.after HR7.out.below hVo (Nat.le_refl _))
          have E1 := Lib.hid e1
          have E2 := Lib.hid e2
          clear hV hVb hVo e1 e2
          go_wp2_with fail
          rw [HVV.out]
          clear k0 k1 k2 k3 k4 kf HVV d0 d1 d2 d3 d4
          obtain ⟨k0, k1, k2, k3, k4⟩ := HVB.out.at_
          exact bodyPost_ret (v := .tuple #[enV R, .bool true]) (by simp [results, Tryz.results104, go_sem, enV, k0, k1, k2, k3, k4]) rfl ⟨parse_end E2.out E1.out, HVO.out⟩

end Go.Proofs.YtnbbijpmkhdgpaaGreat.Ent
