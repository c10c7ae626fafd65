/- Contracts and plain mathematics that the statement's proof wants: no statement is proved here, nothing is assumed. -/
import Derived.Test.YtnbbijpmkhdgpaaGreatMg44
/- ERParseE -/
namespace Go.Proofs.YtnbbijpmkhdgpaaGreat.Ent
open Go.RowKit Go.Sort
open Wire (TK TP But twoL fourL numS numV inside good markS)
open Crc (sealB Only)

set_option maxRecDepth 100000 in
set_option maxHeartbeats 16000000 in
theorem rparse_end (s : List UInt8) (w : World) (hl : s.length = 256) (hk : s.take 4 = kindL true) :
    Calls Tryz.prog 104 #[.string (strB s)] w fun e w' => e = .returned (.tuple #[enV (parseE s), .bool (isE s)]) ∧ Below w.heap.size w w' := by
  have h256 : (strB s).size = 256 := by rw [strB_size]; exact hl
  have hc4 := cut4 s hl
  rw [hk, show strB (kindL true) = ⟨#[74, 69, 78, 68]⟩ from rfl] at hc4
  have hf4 := from4 s hl
  obtain ⟨hlb, htg⟩ := kind_at hl hk
  obtain ⟨l, hll⟩ : ∃ l, l = s.drop 4 := ⟨_, rfl⟩
  rw [← hll] at hf4 htg
  obtain ⟨Y, hY, hRS⟩ := RS.new w l
  have HY := Lib.hid hY
  have HR := Lib.hid hRS
  have HG : Hid (208 ≤ (g3 ⟨l, false⟩).rest.length) := Lib.hid (by have := g3_rest ⟨l, false⟩; rw [show (TK.mk l false).rest = l from rfl, hll, List.length_drop, hl] at this; rw [hll]; omega)
  obtain ⟨R, hR⟩ : ∃ R, R = guessE s := ⟨_, rfl⟩
  have HRD : Hid (R.data.length ≤ 240) := Lib.hid (by rw [hR]; have := guess_data s; omega)
  have HRE : Hid (R = ⟨(numV 4 1 2147483647 ⟨l, false⟩ : Nat), (numV 2 0 255 (g1 ⟨l, false⟩) : Nat), true, (numV 2 0 511 (g2 ⟨l, false⟩) : Nat), []⟩) := Lib.hid (by rw [hR]; unfold guessE; rw [hlb, htg]; rfl)
  have HBAD : Hid ((g3 ⟨l, false⟩).bad = true → isE s = false) := Lib.hid (fun h => parse_bad (by rw [htg]; exact h))
  have HIS : Hid (isE s = (rightE R && (printL R == s)) ∧ (isE s = true → parseE s = R)) := Lib.hid ⟨by rw [hR]; rfl, fun h => by unfold parseE; rw [h, if_pos rfl, hR]⟩
  have CR := Lib.hid (rright_calls R)
  have CP := Lib.hid (fun W => rprint_calls R W HRD.out)
  have hsp := eq_spell (printL R) s
  unfold enV at CR CP
  clear hY hRS hll htg hlb hk hR hl
  go_enter Tryz.func104, Tryz.ntmps104
  go_wp2_with fail
  rw [← HY.out]
  clear HY
  go_region_with (first | (go_at_call 123; (with_reducible refine (Wire.rrfour_calls (w.heap.size + 1) 1 2147483647 ⟨l, false⟩ _ HR.out.t).mono ?_); rintro e w1 ⟨rfl, hT1, hB1⟩; have HR1 : Hid (RS w w1 (g1 ⟨l, false⟩)) := Lib.hid (HR.out.but hT1 hB1); clear hT1 hB1) | (go_at_call 123; (with_reducible refine (Wire.rrfour_calls (w.heap.size + 1) 1 2147483647 ⟨l, false⟩ _ HR.out.drew.t).mono ?_); rintro e w1 ⟨rfl, hT1, hB1⟩; have HR1 : Hid (RS w w1 (g1 ⟨l, false⟩)) := Lib.hid (HR.out.drew.but hT1 hB1); clear hT1 hB1) | (go_at_call 123; (with_reducible refine (Wire.rrfour_calls (w.heap.size + 1) 1 2147483647 ⟨l, false⟩ _ (HR.out.more (below_one _ (.cells #[.int .i64 0, .int .i64 0, .bool false, .int .i64 0, .string ⟨#[]⟩] 55))).t).mono ?_); rintro e w1 ⟨rfl, hT1, hB1⟩; have HR1 : Hid (RS w w1 (g1 ⟨l, false⟩)) := Lib.hid ((HR.out.more (below_one _ (.cells #[.int .i64 0, .int .i64 0, .bool false, .int .i64 0, .string ⟨#[]⟩] 55))).but hT1 hB1); have HQ1 := Lib.hid ((QZ.new HR.out).but hB1); clear hT1 hB1) | (go_at_call 123; (with_reducible refine (Wire.rrfour_calls (w.heap.size + 1) 1 2147483647 ⟨l, false⟩ _ (HR.out.more (below_one _ (.cells #[.int .i64 0, .int .i64 0, .bool false, .int .i64 0, .string ⟨#[]⟩] 55))).drew.t).mono ?_); rintro e w1 ⟨rfl, hT1, hB1⟩; have HR1 : Hid (RS w w1 (g1 ⟨l, false⟩)) := Lib.hid ((HR.out.more (below_one _ (.cells #[.int .i64 0, .int .i64 0, .bool false, .int .i64 0, .string ⟨#[]⟩] 55))).drew.but hT1 hB1); have HQ1 := Lib.hid (((QZ.new HR.out).drew).but hB1); clear hT1 hB1) | (go_at_call 103; (with_reducible refine (Wire.rrtwo_calls (w.heap.size + 1) 0 255 (g1 ⟨l, false⟩) _ HR1.out.t).mono ?_); rintro e w2 ⟨rfl, hT2, hB2⟩; have HR2 : Hid (RS w w2 (g2 ⟨l, false⟩)) := Lib.hid (HR1.out.but hT2 hB2); (try (have HQ2 := Lib.hid (HQ1.out.but hB2))); clear hT2 hB2) | (go_at_call 103; (with_reducible refine (Wire.rrtwo_calls (w.heap.size + 1) 0 255 (g1 ⟨l, false⟩) _ (HR1.out.more (below_one _ (.cells #[.int .i64 0, .int .i64 0, .bool false, .int .i64 0, .string ⟨#[]⟩] 55))).t).mono ?_); rintro e w2 ⟨rfl, hT2, hB2⟩; have HR2 : Hid (RS w w2 (g2 ⟨l, false⟩)) := Lib.hid ((HR1.out.more (below_one _ (.cells #[.int .i64 0, .int .i64 0, .bool false, .int .i64 0, .string ⟨#[]⟩] 55))).but hT2 hB2); have HQ2 := Lib.hid ((QZ.new HR1.out).but hB2); clear hT2 hB2) | (go_at_call 103; (with_reducible refine (Wire.rrtwo_calls (w.heap.size + 1) 0 511 (g2 ⟨l, false⟩) _ HR2.out.t).mono ?_); rintro e w3 ⟨rfl, hT3, hB3⟩; have HR3 : Hid (RS w w3 (g3 ⟨l, false⟩)) := Lib.hid (HR2.out.but hT3 hB3); (try (have HQ3 := Lib.hid (HQ2.out.but hB3))); (try (obtain ⟨z0, z1, z2, z3, z4⟩ := HQ3.out.z.at_; have zf := HQ3.out.z.free)); clear hT3 hB3) | (go_at_call 103; (with_reducible refine (Wire.rrtwo_calls (w.heap.size + 1) 0 511 (g2 ⟨l, false⟩) _ (HR2.out.more (below_one _ (.cells #[.int .i64 0, .int .i64 0, .bool false, .int .i64 0, .string ⟨#[]⟩] 55))).t).mono ?_); rintro e w3 ⟨rfl, hT3, hB3⟩; have HR3 : Hid (RS w w3 (g3 ⟨l, false⟩)) := Lib.hid ((HR2.out.more (below_one _ (.cells #[.int .i64 0, .int .i64 0, .bool false, .int .i64 0, .string ⟨#[]⟩] 55))).but hT3 hB3); have HQ3 := Lib.hid ((QZ.new HR2.out).but hB3); (try (obtain ⟨z0, z1, z2, z3, z4⟩ := HQ3.out.z.at_; have zf := HQ3.out.z.free)); clear hT3 hB3))
  all_goals
    first
    | (obtain ⟨X, hX, hXb, hXo⟩ := store5e HQ3.out.z (numV 4 1 2147483647 ⟨l, false⟩ : Nat) (numV 2 0 255 (g1 ⟨l, false⟩) : Nat) true (numV 2 0 511 (g2 ⟨l, false⟩) : Nat); rw [hX]; have HXB := Lib.hid hXb; have HN := Lib.hid HQ3.out.gt; have HRX := Lib.hid (HR3.out.only hXo HQ3.out.gt); clear hX hXb hXo z0 z1 z2 z3 z4 zf)
    | (obtain ⟨X, hX, hXb, hXo⟩ := new5e w3 (numV 4 1 2147483647 ⟨l, false⟩ : Nat) (numV 2 0 255 (g1 ⟨l, false⟩) : Nat) true (numV 2 0 511 (g2 ⟨l, false⟩) : Nat); rw [hX]; have HXB := Lib.hid hXb; have HN := Lib.hid HR3.out.ge; have HRX := Lib.hid (HR3.out.more hXo); clear hX hXb hXo)
    obtain ⟨c0, c1, c2, c3, c4⟩ := HXB.out.at_
    have xf := HXB.out.free
    have t0 := HRX.out.t.rest
    have HB7 : Hid (EBox X _ R) := Lib.hid (by rw [HRE.out]; exact HXB.out)
    have HR7 := HRX
    go_upto_region 7 with (fail)
    clear c0 c1 c2 c3 c4 xf t0
    have t1 := HR7.out.t.bad
    cases hb : (g3 ⟨l, false⟩).bad with
    | true =>
      rw [hb] at t1
      have e1 : false = isE s := (HBAD.out hb).symm
      have e2 : zeroE = parseE s := (parse_none e1.symm).symm
      obtain ⟨k0, k1, k2, k3, k4⟩ := HR7.out.z.at_
      have kf := HR7.out.z.free
      obtain ⟨V, hV, hVb, hVo⟩ := store5e HR7.out.z 0 0 false 0
      have HVV := Lib.hid hV
      have HVB := Lib.hid hVb
      have HVO := Lib.hid (Only.after HR7.out.below hVo (Nat.le_refl _))
      have E1 := Lib.hid e1
      have E2 := Lib.hid e2
      clear hV hVb hVo e1 e2
      go_wp2_with fail
      rw [HVV.out]
      clear k0 k1 k2 k3 k4 kf HVV
      obtain ⟨k0, k1, k2, k3, k4⟩ := HVB.out.at_
      exact bodyPost_ret (v := .tuple #[enV zeroE, .bool false]) (by simp [results, Tryz.results104, go_sem, enV, zeroE, k0, k1, k2, k3, k4, strB]) rfl ⟨parse_end E2.out E1.out, HVO.out⟩
    | false =>
      rw [hb] at t1
      obtain ⟨d0, d1, d2, d3, d4⟩ := HB7.out.at_
      go_wp2_with fail
      (with_reducible refine (CR.out _).mono ?_)
      rintro e w8 ⟨rfl, hB8⟩
      replace HR7 := Lib.hid (HR7.out.more hB8)
      replace HB7 := Lib.hid (HB7.out.below hB8)
      clear hB8 d0 d1 d2 d3 d4 t1
      cases hr : rightE R with
      | false =>
        have e1 : false = isE s := by rw [HIS.out.1, hr]; rfl
        have e2 : zeroE = parseE s := (parse_none e1.symm).symm
        obtain ⟨k0, k1, k2, k3, k4⟩ := HR7.out.z.at_
        have kf := HR7.out.z.free
        obtain ⟨V, hV, hVb, hVo⟩ := store5e HR7.out.z 0 0 false 0
        have HVV := Lib.hid hV
        have HVB := Lib.hid hVb
        have HVO := Lib.hid (Only.after HR7.out.below hVo (Nat.le_refl _))
        have E1 := Lib.hid e1
        have E2 := Lib.hid e2
        clear hV hVb hVo e1 e2
        go_wp2_with fail
        rw [HVV.out]
        clear k0 k1 k2 k3 k4 kf HVV
        obtain ⟨k0, k1, k2, k3, k4⟩ := HVB.out.at_
        exact bodyPost_ret (v := .tuple #[enV zeroE, .bool false]) (by simp [results, Tryz.results104, go_sem, enV, zeroE, k0, k1, k2, k3, k4, strB]) rfl ⟨parse_end E2.out E1.out, HVO.out⟩
      | true =>
        obtain ⟨d0, d1, d2, d3, d4⟩ := HB7.out.at_
        go_wp2_with fail
        (with_reducible refine (CP.out _).mono ?_)
        rintro e w9 ⟨rfl, hB9⟩
        replace HR7 := Lib.hid (HR7.out.more hB9)
        replace HB7 := Lib.hid (HB7.out.below hB9)
        clear hB9 d0 d1 d2 d3 d4
        cases hp : printL R == s with
        | false =>
          rw [hp] at hsp
          have e1 : false = isE s := by rw [HIS.out.1, hr, hp]; rfl
          have e2 : zeroE = parseE s := (parse_none e1.symm).symm
          obtain ⟨k0, k1, k2, k3, k4⟩ := HR7.out.z.at_
          have kf := HR7.out.z.free
          obtain ⟨V, hV, hVb, hVo⟩ := store5e HR7.out.z 0 0 false 0
          have HVV := Lib.hid hV
          have HVB := Lib.hid hVb
          have HVO := Lib.hid (Only.after HR7.out.below hVo (Nat.le_refl _))
          have E1 := Lib.hid e1
          have E2 := Lib.hid e2
          clear hV hVb hVo e1 e2
          go_wp2_with fail
          rw [HVV.out]
          clear k0 k1 k2 k3 k4 kf HVV
          obtain ⟨k0, k1, k2, k3, k4⟩ := HVB.out.at_
          exact bodyPost_ret (v := .tuple #[enV zeroE, .bool false]) (by simp [results, Tryz.results104, go_sem, enV, zeroE, k0, k1, k2, k3, k4, strB]) rfl ⟨parse_end E2.out E1.out, HVO.out⟩
        | true =>
          rw [hp] at hsp
          have e1 : true = isE s := by rw [HIS.out.1, hr, hp]; rfl
          have e2 : R = parseE s := (HIS.out.2 e1.symm).symm
          obtain ⟨d0, d1, d2, d3, d4⟩ := HB7.out.at_
          obtain ⟨k0, k1, k2, k3, k4⟩ := HR7.out.z.at_
          have kf := HR7.out.z.free
          obtain ⟨V, hV, hVb, hVo⟩ := store5 HR7.out.z R
          have HVV := Lib.hid hV
          have HVB := Lib.hid hVb
          have HVO := Lib.hid (Only.after HR7.out.below hVo (Nat.le_refl _))
          have E1 := Lib.hid e1
          have E2 := Lib.hid e2
          clear hV hVb hVo e1 e2
          go_wp2_with fail
          rw [HVV.out]
          clear k0 k1 k2 k3 k4 kf HVV d0 d1 d2 d3 d4
          obtain ⟨k0, k1, k2, k3, k4⟩ := HVB.out.at_
          exact bodyPost_ret (v := .tuple #[enV R, .bool true]) (by simp [results, Tryz.results104, go_sem, enV, k0, k1, k2, k3, k4]) rfl ⟨parse_end E2.out E1.out, HVO.out⟩

theorem zero_new (w : World) : EBox (w.alloc (.cells #[.int .i64 0, .int .i64 0, .bool false, .int .i64 0, .string ⟨#[]⟩] 55)) w.heap.size zeroE := EBox.new w zeroE

set_option maxRecDepth 100000 in
set_option maxHeartbeats 8000000 in
theorem rparse_len (s : List UInt8) (w : World) (hl : s.length ≠ 256) :
    Calls Tryz.prog 104 #[.string (strB s)] w fun e w' => e = .returned (.tuple #[enV (parseE s), .bool (isE s)]) ∧ Below w.heap.size w w' := by
  have e1 := parse_len hl
  rw [parse_none e1, e1]
  have hs := strB_size s
  have h257 : (((strB s).size : Int) == 256) = false := by rw [beq_eq_false_iff_ne, hs]; omega
  have h258 : ¬ (strB s).size = 256 := by rw [hs]; exact hl
  clear e1 hl hs
  go_enter Tryz.func104, Tryz.ntmps104
  go_wp2_with fail
  refine bodyPost_ret (v := .tuple #[enV zeroE, .bool false]) (by simp [results, Tryz.results104, go_sem, enV, zeroE, strB]) rfl ⟨rfl, ?_⟩
  exact below_one _ _

set_option maxRecDepth 100000 in
set_option maxHeartbeats 8000000 in
theorem rparse_kind (s : List UInt8) (w : World) (hl : s.length = 256) (h1 : s.take 4 ≠ pagK) (h2 : s.take 4 ≠ endK) :
    Calls Tryz.prog 104 #[.string (strB s)] w fun e w' => e = .returned (.tuple #[enV (parseE s), .bool (isE s)]) ∧ Below w.heap.size w w' := by
  have e1 := parse_kind h1 h2
  rw [parse_none e1, e1]
  have h256 : (strB s).size = 256 := by rw [strB_size]; exact hl
  have hc4 := cut4 s hl
  obtain ⟨K, hK⟩ : ∃ K, K = s.take 4 := ⟨_, rfl⟩
  rw [← hK] at hc4 h1 h2
  have ht := strB_toList K
  have n1 : (K == [74, 80, 65, 71]) = false := by rw [beq_eq_false_iff_ne]; exact h1
  have n2 : (K == [74, 69, 78, 68]) = false := by rw [beq_eq_false_iff_ne]; exact h2
  have n3 : ¬ K = [74, 80, 65, 71] := h1
  have n4 : ¬ K = [74, 69, 78, 68] := h2
  clear e1 hK h1 h2 hl
  go_enter Tryz.func104, Tryz.ntmps104
  go_wp2_with fail
  refine bodyPost_ret (v := .tuple #[enV zeroE, .bool false]) (by simp [results, Tryz.results104, go_sem, enV, zeroE, strB]) rfl ⟨rfl, ?_⟩
  exact below_one _ _

theorem rparse_calls (s : List UInt8) (w : World) :
    Calls Tryz.prog 104 #[.string (strB s)] w fun e w' => e = .returned (.tuple #[enV (parseE s), .bool (isE s)]) ∧ Below w.heap.size w w' := by
  by_cases hl : s.length = 256
  · by_cases h1 : s.take 4 = pagK
    · exact rparse_pag s w hl h1
    · by_cases h2 : s.take 4 = endK
      · exact rparse_end s w hl h2
      · exact rparse_kind s w hl h1 h2
  · exact rparse_len s w hl

end Go.Proofs.YtnbbijpmkhdgpaaGreat.Ent
