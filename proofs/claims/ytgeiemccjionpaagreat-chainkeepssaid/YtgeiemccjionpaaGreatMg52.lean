/- Contracts and plain mathematics that the statement's proof wants: no statement is proved here, nothing is assumed. -/
import Derived.Test.YtgeiemccjionpaaGreatMg22
import Derived.Test.YtgeiemccjionpaaGreatMg51
/- HKLoop -/
namespace Go.Proofs.YtgeiemccjionpaaGreat.Chn
open Go.RowKit Go.Sort
open Dsk Vlt
open Bit (tk freeN)

set_option maxRecDepth 100000 in
set_option maxHeartbeats 32000000 in
theorem keeps_loop {u0 u1 u2 u3 u4 u6 u9 u10 u11 u12 u13 u14 u15 u16 u17 u18 u19 u21 u25 u26 u27 u28 u29 u30 u31 u32 u33 u34 u35 u36 u37 u38 u39 u40 u41 u42 u43 u44 u45 u46 u47 u48 u49 u50 u51 u52 u53 u54 u55 u56 u57 u58 u59 u60 u61 u62 u63 u64 u65 u66 u67 u68 u69 u70 u71 u72 u73 u74 u75 u76 u77 u78 u79 u80 u81 u82 u83 u84 u85 u86 u87 u88 u89 u90 u91 u92 u93 u94 u95 u96 u97 u98 u99 u100 u101 u102 u103 u104 u105 u106 u107 u108 u109 u110 u111 u112 u113 u114 u115 u116 u117 u118 u119 u120 u121 u122 u123 u124 u125 u126 u127 u128 u129 u130 u131 u132 u133 u134 u135 u136 u137 u138 u139 u140 u141 u142 u143 u144 u145 u146 u147 u148 u149 u150 u151 u152 u153 u154 u155 u156 u157 u158 u159 u160 u161 u162 u163 u164 u165 u166 u167 u168 u169 u170 u171 u172 u173 u174 u175 u176 u177 u178 u179 u180 u181 u182 u183 u184 u185 u186 u187 u188 u189 u190 u191 u192 u193 u194 u195 u196 u197 u198 u199 u200 u201 u202 u203 u204 u205 u206 u207 u208 u209 u210 u211 u212 u213 u214 u215 u216 u217 u218 u219 u220 u221 u222 u223 u224 u225 u226 u227 u228 u229 u230 u231 u232 u233 u234 u235 u236 u237 u238 u239 u240 u241 u242 u243 u244 u245 u246 u247 u248 u249 u250 u251 u252 u253 u254 u255 u256 : Value} {R : Exit → Act → World → Prop} {w W : World} {g gs n N U0 : Nat} {M : ByteArray} {k : VK} {ts : List TX} {PA SA : Option Addr} {pc sc : Nat} {qA1 : Option Addr} {qn1 qc1 : Nat} {qA2 : Option Addr} {qn2 qc2 : Nat} {qdl qjr qsq : Int} {qA7 : Option Addr} {qn7 qc7 : Nat}
    (tv : TV (shL n) k ts) (hn1 : 16 ≤ n) (hn2 : n ≤ 512) (hlt : LongT ts) (hN : N = ts.length) (hM : M = strB (CV k 0)) (hU0 : U0 = (pagesOf ts).length)
    (hv : VV w W g #[.slice qA1 qn1 qc1, .slice qA2 qn2 qc2, .bool false, .int .i64 qdl, .int .i64 (n : Nat), .int .i64 qjr, .int .i64 qsq, .slice qA7 qn7 qc7] k) (hw : Two w W (.slice PA N pc) (.slice SA N sc) (firsts ts) (sizes ts)) (hq : RowQ W gs []) (hgs : w.heap.size ≤ gs)
    (hR : ∀ (X : World) (y4 y24 y25 y26 y27 y28 y158 y159 y160 y161 y162 y163 y164 y165 y166 y167 y168 y169 y170 y171 y172 y173 y174 y175 y176 y177 y178 y179 y180 y181 y182 y183 y184 y185 y186 y187 y188 y189 y190 y191 y192 y193 y194 y195 y196 y197 y198 y199 y200 y201 y202 y203 y204 y205 y206 y207 y208 y209 y210 y211 y212 y213 y214 y215 y216 y217 y218 y219 y220 y221 y222 y223 y224 y225 y226 y227 y228 y229 y230 y231 y232 y233 y234 y235 y236 y237 y238 : Value), VV w X g #[.slice qA1 qn1 qc1, .slice qA2 qn2 qc2, .bool false, .int .i64 qdl, .int .i64 (n : Nat), .int .i64 qjr, .int .i64 qsq, .slice qA7 qn7 qc7] k → Two w X (.slice PA N pc) (.slice SA N sc) (firsts ts) (sizes ts) → R .normal ⟨#[u0, u1, u2, u3, y4, .pointer (some ⟨g, 0, none⟩), u6, .slice PA N pc, .slice SA N sc, u9, u10, u11, u12, u13, u14, u15, u16, u17, u18, u19, .string M, u21, .int .i64 (U0 : Nat), .slice (some ⟨gs, 0, none⟩) 512 512, y24, y25, y26, y27, y28, u29, u30, u31, u32, u33, u34, u35, u36, u37, u38, u39, u40, u41, u42, u43, u44, u45, u46, u47, u48, u49, u50, u51, u52, u53, u54, u55, u56, u57, u58, u59, u60, u61, u62, u63, u64, u65, u66, u67, u68, u69, u70, u71, u72, u73, u74, u75, u76, u77, u78, u79, u80, u81, u82, u83, u84, u85, u86, u87, u88, u89, u90, u91, u92, u93, u94, u95, u96, u97, u98, u99, u100, u101, u102, u103, u104, u105, u106, u107, u108, u109, u110, u111, u112, u113, u114, u115, u116, u117, u118, u119, u120, u121, u122, u123, u124, u125, u126, u127, u128, u129, u130, u131, u132, u133, u134, u135, u136, u137, u138, u139, u140, u141, u142, u143, u144, u145, u146, u147, u148, u149, u150, u151, u152, u153, u154, u155, u156, u157, y158, y159, y160, y161, y162, y163, y164, y165, y166, y167, y168, y169, y170, y171, y172, y173, y174, y175, y176, y177, y178, y179, y180, y181, y182, y183, y184, y185, y186, y187, y188, y189, y190, y191, y192, y193, y194, y195, y196, y197, y198, y199, y200, y201, y202, y203, y204, y205, y206, y207, y208, y209, y210, y211, y212, y213, y214, y215, y216, y217, y218, y219, y220, y221, y222, y223, y224, y225, y226, y227, y228, y229, y230, y231, y232, y233, y234, y235, y236, y237, y238, u239, u240, u241, u242, u243, u244, u245, u246, u247, u248, u249, u250, u251, u252, u253, u254, u255, u256], []⟩ X) :
    Code.wp Tryz.prog (keepsBlock 3) R ⟨#[u0, u1, u2, u3, u4, .pointer (some ⟨g, 0, none⟩), u6, .slice PA N pc, .slice SA N sc, u9, u10, u11, u12, u13, u14, u15, u16, u17, u18, u19, .string M, u21, .int .i64 0, .slice (some ⟨gs, 0, none⟩) 512 512, .int .i64 0, u25, u26, u27, u28, u29, u30, u31, u32, u33, u34, u35, u36, u37, u38, u39, u40, u41, u42, u43, u44, u45, u46, u47, u48, u49, u50, u51, u52, u53, u54, u55, u56, u57, u58, u59, u60, u61, u62, u63, u64, u65, u66, u67, u68, u69, u70, u71, u72, u73, u74, u75, u76, u77, u78, u79, u80, u81, u82, u83, u84, u85, u86, u87, u88, u89, u90, u91, u92, u93, u94, u95, u96, u97, u98, u99, u100, u101, u102, u103, u104, u105, u106, u107, u108, u109, u110, u111, u112, u113, u114, u115, u116, u117, u118, u119, u120, u121, u122, u123, u124, u125, u126, u127, u128, u129, u130, u131, u132, u133, u134, u135, u136, u137, u138, u139, u140, u141, u142, u143, u144, u145, u146, u147, u148, u149, u150, u151, u152, u153, u154, u155, u156, u157, u158, u159, u160, u161, u162, u163, u164, u165, u166, u167, u168, u169, u170, u171, u172, u173, u174, u175, u176, u177, u178, u179, u180, u181, u182, u183, u184, u185, u186, u187, u188, u189, u190, u191, u192, u193, u194, u195, u196, u197, u198, u199, u200, u201, u202, u203, u204, u205, u206, u207, u208, u209, u210, u211, u212, u213, u214, u215, u216, u217, u218, u219, u220, u221, u222, u223, u224, u225, u226, u227, u228, u229, u230, u231, u232, u233, u234, u235, u236, u237, u238, u239, u240, u241, u242, u243, u244, u245, u246, u247, u248, u249, u250, u251, u252, u253, u254, u255, u256], []⟩ W := by
  have hN5 : N ≤ 512 := by rw [hN]; exact ts_few tv hn2
  have hU5 := pages_few tv hn2
  have hz := tv.inv.z
  have CT : Hid (∀ (p : Nat), tk (CV k 0) p = true → ∀ W : World, Calls Tryz.prog 26 #[.string M, .int .i64 (p : Nat)] W fun e w' => e = .returned (.bool true) ∧ w' = W) := Lib.hid (fun p hp W => by
    have := Bit.rtaken_nat (CV k 0) p W (by omega)
    rw [hp] at this
    rw [hM]
    exact this)
  have HV := Lib.hid hv
  have HW := Lib.hid hw
  have HQ := Lib.hid hq
  have HLT := Lib.hid hlt
  have HN := Lib.hid hN
  have HU := Lib.hid hU0
  have HU5 := Lib.hid hU5
  have HRR := Lib.hid hR
  clear hv hw hq hR hN hU0 hM hlt hz hU5
  refine Code.wp_mono (Q := fun e a w => match e with | .normal => R .normal a w | _ => False) (fun e a w h => by cases e <;> first | exact h | exact h.elim) ?_
  conv => arg 2; whnf
  (try go_wp2_with fail)
  go_loopw [22, 24] (fun s22 s24 wr => ∃ (j U : Nat), j ≤ N ∧ s22 = .int .i64 (U : Nat) ∧ s24 = .int .i64 (j : Nat) ∧ U = (pagesOf (ts.take j)).length ∧ VV w wr g #[.slice qA1 qn1 qc1, .slice qA2 qn2 qc2, .bool false, .int .i64 qdl, .int .i64 (n : Nat), .int .i64 qjr, .int .i64 qsq, .slice qA7 qn7 qc7] k ∧ Two w wr (.slice PA N pc) (.slice SA N sc) (firsts ts) (sizes ts) ∧ RowQ wr gs (pagesOf (ts.take j))) (fun _ u _ => N - (intOf u).toNat)
  case atStart => exact ⟨0, 0, Nat.zero_le _, rfl, rfl, rfl, HV.out, HW.out, HQ.out⟩
  case round =>
    clear HV HW HQ
    obtain ⟨j, U, hj, rfl, rfl, hU, hv, hw, hq⟩ := hrel
    obtain ⟨w2, rfl⟩ : ∃ w2, w2 = wr := ⟨_, rfl⟩
    by_cases hj1 : j < N
    · obtain ⟨⟨l, t⟩, hx⟩ : ∃ q, ts[j]? = some q := ⟨_, List.getElem?_eq_getElem (by rw [← HN.out]; exact hj1)⟩
      have hm : (l, t) ∈ ts := List.mem_of_getElem? hx
      obtain ⟨ht9, htl⟩ := HLT.out _ hm
      dsimp only at ht9 htl
      obtain ⟨s, hs⟩ : ∃ s, s = t.length := ⟨_, rfl⟩
      have hll : l.length = needC t.length := (tv.inv.ch _ hm).len
      obtain ⟨L, hL⟩ : ∃ L, L = l.length := ⟨_, rfl⟩
      have hUL := pages_take_len hx
      have hUN := pages_take hx
      have hUle : (pagesOf (ts.take (j + 1))).length ≤ 512 := by
        have h1 := HU5.out
        have h2 := pages_part hx
        rw [h2, List.length_append, ← hUN] at h1
        omega
      obtain ⟨p1, hp1, hp1a, _⟩ := tv.first hm
      have hg1 := getD_at hp1
      have WK := Lib.hid (law_walk tv hn1 hn2 hm)
      rw [hg1] at WK
      obtain ⟨T, hT⟩ : ∃ T, T = strB t := ⟨_, rfl⟩
      rw [← hT] at WK
      have LK_ : Hid (∀ W : World, Calls Tryz.prog 10 #[.int .i64 (s : Nat)] W fun e w' => e = .returned (.string T) ∧ Below W.heap.size W w') := Lib.hid (fun W => by
        have := long_calls s W (by omega)
        rw [hs, ← htl, ← hT] at this
        rw [hs]
        exact this)
      have NK : Hid (∀ W : World, Calls Tryz.prog 23 #[.int .i64 (s : Nat)] W fun e w' => e = .returned (.int .i64 (L : Nat)) ∧ w' = W) := Lib.hid (fun W => by
        have := need_calls s W (by omega)
        rw [hs, ← hll, ← hL] at this
        rw [hs]
        exact this)
      have hF := firsts_at hx
      have hS := sizes_at hx
      dsimp only at hF hS
      rw [hg1] at hF
      rw [← hs] at hS
      have HX := Lib.hid hx
      have HF := Lib.hid hF
      have HS := Lib.hid hS
      have HLl := Lib.hid hL
      have HUN := Lib.hid hUN
      have hU1 : U + L ≤ 512 := by omega
      have HU1 : Hid (U + L = (pagesOf (ts.take (j + 1))).length) := Lib.hid (by omega)
      have hj0 : (0 : Int) ≤ (j : Int) := by omega
      have hj2 : (j : Int) < (N : Int) := by omega
      have hjw : IntKind.i64.wrap ((j : Int) + 1) = (j : Int) + 1 := by rw [wrap_small _ (by omega) (by omega)]
      have HT := Lib.hid (hv.more (Below.refl _ _).drew)
      have HW := Lib.hid (hw.more (Below.refl _ _).drew)
      have HQ := Lib.hid (hq.more (Below.refl _ _).drew)
      clear hx hm ht9 htl hs hll hL hUL hUN hUle hp1 hp1a hg1 hT hF hS hU hv hw hq
      obtain ⟨PA2, pn2, pc2, hpe, hpn2, hpc2, hprd⟩ := HW.out.a.isInts.open_
      injection hpe with hpe1 hpe2 hpe3
      subst hpe1 hpe2 hpe3
      obtain ⟨pb, po, rfl, y0⟩ := int_at hprd (Below.refl _ _) HF.out (by omega)
      clear hpn2 hpc2 hprd
      go_upto_region 39 with (fail)
      obtain ⟨⟨i0, i1, i2, i3, i4, i5, i6, i7⟩, kf⟩ := box8 HT.out.a
      go_cut [25, 26, 27] from 164 to 173 (fun s25 s26 s27 wx => ∃ (LA : Option Addr) (lc : Nat), s25 = .slice LA L lc ∧ s26 = .string T ∧ s27 = .int .i64 0 ∧ VV w wx g #[.slice qA1 qn1 qc1, .slice qA2 qn2 qc2, .bool false, .int .i64 qdl, .int .i64 (n : Nat), .int .i64 qjr, .int .i64 qsq, .slice qA7 qn7 qc7] k ∧ Two w wx (.slice (some ⟨pb, po, none⟩) N pc) (.slice SA N sc) (firsts ts) (sizes ts) ∧ RowQ wx gs (pagesOf (ts.take j)) ∧ IsInts wx (.slice LA L lc) (natI l))
      case first =>
        go_region_with (first
          | (go_at_call 16; (with_reducible refine (WK.out _ _ HT.out.v).mono ?_); rintro e wa ⟨vp, rfl, hvp, hBa⟩; (with_reducible replace HT := Lib.hid (HT.out.more hBa)); (with_reducible replace HW := Lib.hid (HW.out.more hBa)); (with_reducible replace HQ := Lib.hid (HQ.out.more hBa)); obtain ⟨LA, ln, lc, rfl, hln, hlc, _⟩ := hvp.open_; rw [natI_len, ← HLl.out] at hln; subst hln; have HP := Lib.hid hvp; clear hvp hBa hlc))
        all_goals
          (try go_wp2_with fail)
          go_meet
          case rel => exact ⟨LA, lc, rfl, rfl, rfl, HT.out, HW.out, HQ.out, HP.out⟩
      case rest =>
        obtain ⟨LA, lc, rfl, rfl, rfl, hT, hW, hQ, hP⟩ := hcut
        have HT := Lib.hid hT
        have HW := Lib.hid hW
        have HQ := Lib.hid hQ
        have HP := Lib.hid hP
        (try clear i0 i1 i2 i3 i4 i5 i6 i7 kf)
        (try clear y0)
        clear hT hW hQ hP
        obtain ⟨SA2, sn2, sc2, hse, hsn2, hsc2, hsrd⟩ := HW.out.b.isInts.open_
        injection hse with hse1 hse2 hse3
        subst hse1 hse2 hse3
        obtain ⟨sb, so, rfl, z0⟩ := int_at hsrd (Below.refl _ _) HS.out (by omega)
        go_wp2_with fail
        (with_reducible refine (LK_.out _).mono ?_)
        rintro e w4 ⟨rfl, hb4⟩
        obtain ⟨sb2, so2, hse4, z1⟩ := int_at hsrd hb4 HS.out (by omega)
        injection hse4 with hse4
        injection hse4 with hse5 hse6
        subst hse5 hse6
        have HT := Lib.hid (HT.out.more hb4)
        have HW := Lib.hid (HW.out.more hb4)
        have HQ := Lib.hid (HQ.out.more hb4)
        have HP := Lib.hid (HP.out.below hb4)
        clear z0 hb4 hsrd hsn2 hsc2
        go_wp2_with fail
        (with_reducible refine (NK.out _).mono ?_)
        rintro e w5 ⟨rfl, rfl⟩
        clear z1
        go_wp2_with fail
        go_loopw [22, 28] (fun s22 s28 wr => ∃ (i V : Nat), i ≤ L ∧ s22 = .int .i64 (V : Nat) ∧ s28 = .int .i64 (i : Nat) ∧ V = U + i ∧ VV w wr g #[.slice qA1 qn1 qc1, .slice qA2 qn2 qc2, .bool false, .int .i64 qdl, .int .i64 (n : Nat), .int .i64 qjr, .int .i64 qsq, .slice qA7 qn7 qc7] k ∧ Two w wr (.slice (some ⟨pb, po, none⟩) N pc) (.slice (some ⟨sb, so, none⟩) N sc) (firsts ts) (sizes ts) ∧ RowQ wr gs (pagesOf (ts.take j) ++ l.take i) ∧ IsInts wr (.slice LA L lc) (natI l)) (fun _ u _ => L - (intOf u).toNat)
        case atStart => exact ⟨0, U, Nat.zero_le _, rfl, rfl, rfl, HT.out, HW.out, by simpa using HQ.out, HP.out⟩
        case round =>
          clear HT HW HQ HP
          obtain ⟨i, V, hi, rfl, rfl, hV, hv, hw, hq, hp⟩ := hrel
          obtain ⟨w6, rfl⟩ : ∃ w6, w6 = wr := ⟨_, rfl⟩
          by_cases hi1 : i < L
          · obtain ⟨p, hpi⟩ : ∃ q, l[i]? = some q := ⟨_, List.getElem?_eq_getElem (by rw [← HLl.out]; exact hi1)⟩
            obtain ⟨hpn, hpa, hpb, hpt⟩ := seen_not tv HX.out hpi
            obtain ⟨LA2, ln2, lc2, hle, hln2, hlc2, hlrd⟩ := hp.open_
            injection hle with hle1 hle2 hle3
            subst hle1 hle2 hle3
            obtain ⟨lb, lo, rfl, x0⟩ := int_at hlrd (Below.refl _ _) (natI_at hpi) (by omega)
            have x1 := hq.cell (j := p) (by omega)
            rw [decide_eq_false hpn] at x1
            have x2 := hq.free p
            have CT1 := Lib.hid (CT.out p hpt)
            have hp1 : ¬ (p : Int) < 1 := by omega
            have hp2 : ¬ (512 : Int) ≤ (p : Int) := by omega
            have hp3 : (p : Int) < 512 := by omega
            have hp4 : (0 : Int) ≤ (p : Int) := by omega
            have hi2 : (i : Int) < (L : Int) := by omega
            have hi4 : (0 : Int) ≤ (i : Int) := by omega
            have hw1 : IntKind.i64.wrap ((i : Int) + 1) = (i : Int) + 1 := by rw [wrap_small _ (by omega) (by omega)]
            have hw2 : IntKind.i64.wrap ((V : Int) + 1) = (V : Int) + 1 := by rw [wrap_small _ (by omega) (by omega)]
            have hge := Nat.le_trans hgs (Nat.le_refl gs)
            have HNX : Hid (∀ u, RowQ (w6.setCell ⟨gs, p, none⟩ u) gs ((pagesOf (ts.take j) ++ l.take i) ++ [p]) → RowQ (w6.setCell ⟨gs, p, none⟩ u) gs (pagesOf (ts.take j) ++ l.take (i + 1))) := Lib.hid (fun u h => by
              rw [List.take_add_one, hpi]
              simpa using h)
            have HK := Lib.hid (hq.leaves p (.bool true))
            have HQ := Lib.hid (hq.set (p := p) (by omega))
            have HV := Lib.hid hv
            have HW := Lib.hid hw
            have HP := Lib.hid hp
            have HVV := Lib.hid hV
            clear hpn hpa hpb hpt hln2 hlc2 hlrd hpi hv hw hq hp hV
            go_wp2_with fail
            (with_reducible refine (CT1.out _).mono ?_)
            rintro e w7 ⟨rfl, rfl⟩
            go_wp2_with fail
            exact ⟨⟨i + 1, V + 1, by omega, by go_num, by go_num, by have := HVV.out; omega, HV.out.keepQ (HV.out.below.setCell hge _) HK.out, HW.out.keepQ HK.out, HNX.out _ HQ.out, HP.out.keepQ HK.out⟩, by simp [intOf]; omega⟩
          · obtain rfl : i = L := by omega
            have HV := Lib.hid hv
            have HW := Lib.hid hw
            have HQ : Hid (RowQ w6 gs (pagesOf (ts.take (j + 1)))) := Lib.hid (by
              rw [HUN.out]
              have := hq
              rw [HLl.out, List.take_length] at this
              exact this)
            have HVV := Lib.hid hV
            clear hv hw hq hp hV
            go_wp2_with fail
            exact ⟨⟨j + 1, V, by omega, rfl, by go_num, by have := HVV.out; have := HU1.out; omega, HV.out, HW.out, HQ.out⟩, by simp [intOf]; omega⟩
    · obtain rfl : j = N := by omega
      have hUe : U = U0 := by
        rw [hU, HU.out, HN.out, List.take_length]
      subst hUe
      have HV := Lib.hid hv
      have HW := Lib.hid hw
      clear hv hw hq hU
      go_wp2_with fail
      exact HRR.out _ _ _ _ _ _ _ _ _ _ _ _ _ _ _ _ _ _ _ _ _ _ _ _ _ _ _ _ _ _ _ _ _ _ _ _ _ _ _ _ _ _ _ _ _ _ _ _ _ _ _ _ _ _ _ _ _ _ _ _ _ _ _ _ _ _ _ _ _ _ _ _ _ _ _ _ _ _ _ _ _ _ _ _ _ _ _ _ HV.out HW.out
end Go.Proofs.YtgeiemccjionpaaGreat.Chn
