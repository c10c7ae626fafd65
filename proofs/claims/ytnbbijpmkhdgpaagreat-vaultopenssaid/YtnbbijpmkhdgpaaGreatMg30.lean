/- Contracts and plain mathematics that the statement's proof wants: no statement is proved here, nothing is assumed. -/
import Derived.Test.YtnbbijpmkhdgpaaGreatMg29
/- PGood -/
namespace Go.Proofs.YtnbbijpmkhdgpaaGreat.Vlt
open Go.RowKit Go.Sort
open Dsk
open Ent (isE parseE)

set_option maxRecDepth 100000 in
set_option maxHeartbeats 16000000 in
theorem popen_good (v : Value) (d : DK) (w : World) {nn : Nat} (hv : IsDisk w v d) (hp : Pl nn 0 d) (hnn : nn ≤ 2000) (h0 : rdE d 0 ≠ 12) (hs : isS (headS d) = true ∧ (d.sure.length : Int) = sizeX (parseS (headS d))) :
    Calls Tryz.prog 22 #[v] w fun e w' => ∃ v1 v2, e = .returned (.tuple #[v1, v2, .int .i64 (openV d).2.2]) ∧ IsVault w' v1 (openV d).1 ∧ IsDisk w' v2 (openV d).2.1 ∧ Below w.heap.size w w' := by
  have hok : d.ok := hp.ok (by omega) (by omega)
  obtain ⟨x, hx⟩ : ∃ x, x = parseS (headS d) := ⟨_, rfl⟩
  have hxr : rightS x = true := by rw [hx]; exact (Go.Proofs.YtnbbijpmkhdgpaaGreat.is_right hs.1).1
  obtain ⟨a, b, c, e', f, g'⟩ := right_nat hxr
  obtain ⟨J, hJ⟩ : ∃ J, J = JN x := ⟨_, rfl⟩
  have hxj : x.journal = (J : Nat) := by rw [hJ]; exact b
  have hJ2 : J ≤ 256 := by omega
  have hJt : x.journal.toNat = J := by omega
  obtain ⟨m, hm⟩ : ∃ m, m = mostF (secK d) J := ⟨_, rfl⟩
  obtain ⟨l, hl⟩ : ∃ l, l = jl x.pages J (secK d) := ⟨_, rfl⟩
  have hmhi : m ≤ 2147483647 := by rw [hm]; exact most_hi _ _
  have hm0 : 0 ≤ m := by rw [hm]; exact most_nn _ _
  have hlok := jl_ok x.pages J (secK d)
  rw [← hl] at hlok
  have hll : l.length ≤ 256 := by
    by_cases hw : ∃ k, Whole x.pages J (secK d) k
    · obtain ⟨k, hk⟩ := hw
      rw [hl, jl_is hk]
      have := hk.seq0.1
      omega
    · rw [hl, jl_none fun k hk => hw ⟨k, hk⟩]
      exact Nat.zero_le _
  obtain ⟨X1, X2, X3, X4, X5, X6, rfl⟩ := hv.parts
  obtain ⟨Y, hY, hB⟩ := OB.new w hv
  have CS := shape_calls _ d Y (hB.isd) hok
  have hsr : shapeR d = (x, 0) := by unfold shapeR; rw [if_neg h0, if_neg (by simpa using hs), hx]
  rw [hsr] at CS
  have CS := Lib.hid CS
  have CJ := Lib.hid (fun W (h : IsDisk W (.agg #[.slice X1 X2 X3, .slice X4 X5 X6, .bool d.dead, .int .i64 d.left]) d) => journal_calls _ d x W h hok hxj hJ2)
  have CG := Lib.hid (fun g W (h : EnRow W g J (logF d J)) => greatest_calls g J d W h hJ2)
  have CW := Lib.hid (fun g W (h : EnRow W g J (logF d J)) => whole_calls g J d x W h hJ2)
  rw [← hm] at CG
  rw [← hl] at CW
  have HLL := Lib.hid hll
  have HLOK := Lib.hid hlok
  have HP := Lib.hid hp
  have HNN := Lib.hid hnn
  have HO14 := Lib.hid (fun (h : 2147483647 ≤ m) => open_14 (x := x) h0 hs hx (by rw [hJt, ← hm]; exact h))
  have HO0 := Lib.hid (fun (h : ¬ 2147483647 ≤ m) (h2 : l = []) => open_0 (x := x) h0 hs hx (by rw [hJt, ← hm]; exact h) (by rw [hJt, ← hl]; exact h2))
  have HO1 := Lib.hid (fun (h : ¬ 2147483647 ≤ m) (h2 : l ≠ []) (D : DK) (E : Int) => open_1 (x := x) (l := l) (D := D) (E := E) h0 hs hx (by rw [hJt, ← hm]; exact h) (by rw [hJt, ← hl]) h2)
  rw [hJt, ← hm] at HO0 HO1
  unfold shV at CS CJ CW
  have HY := Lib.hid hY
  have HB := Lib.hid hB
  obtain ⟨⟨p0, p1, p2, p3⟩, _⟩ := box4 hB.dk
  clear hY hB hv hok hs h0 hx hxr a b c e' f g' hJ hxj hJt hm hl hlok hsr hp hnn hll hJ2
  dsimp only at CS
  go_enter Tryz.func22, Tryz.ntmps22
  go_upto_region 1 with (fail)
  rw [← HY.out]
  clear HY
  go_wp2_with fail
  (with_reducible refine CS.out.mono ?_)
  rintro e w1 ⟨rfl, hB1⟩
  obtain ⟨Y3, hY3, hT⟩ := HB.out.shape x hB1
  have HY3 := Lib.hid hY3
  obtain ⟨G, hG⟩ : ∃ G, G = w1.heap.size := ⟨_, rfl⟩
  rw [← hG] at hT
  have HT := Lib.hid hT
  have HG := Lib.hid hG.symm
  clear hY3 hB1 p0 p1 p2 p3 hT hG
  go_upto_region 2 with (fail)
  rw [← HY3.out]
  rw [HG.out]
  clear HY3 HG
  obtain ⟨⟨p0, p1, p2, p3⟩, t0, t1⟩ := HT.out.cells
  go_wp2_with fail
  (with_reducible refine (CJ.out _ HT.out.isd).mono ?_)
  rintro e w2 ⟨g, rfl, hrow, hgl, hB2⟩
  have HT2 := Lib.hid (HT.out.more hB2)
  have HROW := Lib.hid hrow
  clear hrow hgl hB2 p0 p1 p2 p3 t0 t1 HT
  go_wp2_with fail
  (with_reducible refine (CG.out _ _ HROW.out).mono ?_)
  rintro e w3 ⟨rfl, hB3⟩
  have HT := Lib.hid (HT2.out.more hB3)
  have HROW3 := Lib.hid (HROW.out.below hB3)
  clear hB3 HT2 HROW
  by_cases hmx : m = 2147483647
  · have HO := Lib.hid (HO14.out (by omega))
    have hmb : (m == 2147483647) = true := by simpa using hmx
    clear HO14 HO0 HO1 hmx
    obtain ⟨Z, hZ, hN, hq⟩ := HT.out.st8 (.slice none 0 0) (.slice none 0 0) (.bool false) (.int .i64 0) (.int .i64 0) (.int .i64 0) (.int .i64 0) (.slice none 0 0)
    obtain ⟨Z', hZ', hN', hq'⟩ := hN.st4 (.slice X1 X2 X3) (.slice X4 X5 X6) (.bool d.dead) (.int .i64 d.left)
    have HFV := Lib.hid (((zero_vault Z').below (Below.refl _ _).drew))
    have HFN := Lib.hid (hN'.more (Below.refl _ _).drew)
    have HZ8 := Lib.hid (box8 (W := Z'.drew) hN'.zv)
    have HZ4 := Lib.hid (box4 (W := Z'.drew) hN'.zd)
    have HQ := Lib.hid hZ
    have HQ' := Lib.hid hZ'
    obtain ⟨⟨p0, p1, p2, p3⟩, _⟩ := box4 HT.out.dk
    have hzv := HT.out.zv
    have hzd := HT.out.zd
    unfold Z8 at hzv
    unfold Z4 at hzd
    obtain ⟨⟨z0, z1, z2, z3, z4, z5, z6, z7⟩, zf⟩ := box8 hzv
    obtain ⟨⟨r0, r1, r2, r3⟩, g0, g1, g2, g3⟩ := box4 hzd
    clear hZ hN hq hZ' hN' hq' hzv hzd
    go_wp2_with fail
    go_region
    rw [HQ.out, HQ'.out]
    clear p0 p1 p2 p3 z0 z1 z2 z3 z4 z5 z6 z7 zf r0 r1 r2 r3 g0 g1 g2 g3
    go_wp2_with fail
    obtain ⟨⟨q0, q1, q2, q3, q4, q5, q6, q7⟩, _⟩ := HZ8.out
    obtain ⟨⟨s0, s1, s2, s3⟩, _⟩ := HZ4.out
    exact bodyPost_ret (v := .tuple #[.agg #[.slice none 0 0, .slice none 0 0, .bool false, .int .i64 0, .int .i64 0, .int .i64 0, .int .i64 0, .slice none 0 0], .agg #[.slice X1 X2 X3, .slice X4 X5 X6, .bool d.dead, .int .i64 d.left], .int .i64 14]) (by simp [results, Tryz.results22, go_sem, q0, q1, q2, q3, q4, q5, q6, q7, s0, s1, s2, s3]) rfl ⟨_, _, by rw [HO.out], by rw [HO.out]; exact HFV.out, by rw [HO.out]; exact HFN.out.isd, HFN.out.below⟩
  have hmb : (m == 2147483647) = false := by simpa using hmx
  have hm2 : ¬ 2147483647 ≤ m := by omega
  have hm3 : m + 1 ≤ 2147483647 := by omega
  have HM2 := Lib.hid hm2
  clear hm2 hmx HO14
  obtain ⟨_, t0, t1⟩ := HT.out.cells
  go_wp2_with fail
  (with_reducible refine (CW.out _ _ HROW3.out).mono ?_)
  rintro e w4 ⟨vl, rfl, hvl, hB4⟩
  obtain ⟨L1, n, L3, rfl, hn, _, _⟩ := hvl.open_
  have HT4 := Lib.hid (HT.out.more hB4)
  have HVL := Lib.hid hvl
  have HN := Lib.hid hn
  clear hB4 hvl hn t0 t1 HT
  have HT := Lib.hid HT4.out
  clear HT4
  by_cases hn0 : n = 0
  · subst hn0
    have HO := Lib.hid (HO0.out HM2.out (List.eq_nil_of_length_eq_zero HN.out.symm))
    clear HO0 HO1
    have HSZ : Hid (d.sure.length ≤ 2000) := Lib.hid (by have := HP.out.good.sure; have := HNN.out; omega)
    have HWZ : Hid (d.wet.length ≤ 2000) := Lib.hid (by have := HP.out.good.wet; omega)
    go_upto_region 13 with (fail)
    have hwrp : IntKind.i64.wrap (m + 1) = m + 1 := by rw [IntKind.wrap_i64]; omega
    have HTD := Lib.hid (HT.out.more (Below.refl _ _).drew)
    clear HT
    have HT := Lib.hid HTD.out
    clear HTD
    have hzv := HT.out.zv
    have hzd := HT.out.zd
    (try unfold Z8 at hzv)
    (try unfold Z4 at hzd)
    obtain ⟨⟨z0, z1, z2, z3, z4, z5, z6, z7⟩, zf⟩ := box8 hzv
    obtain ⟨⟨r0, r1, r2, r3⟩, g0, g1, g2, g3⟩ := box4 hzd
    clear hzv hzd
    have CA := Lib.hid (fun W (h : IsDisk W (.agg #[.slice X1 X2 X3, .slice X4 X5 X6, .bool d.dead, .int .i64 d.left]) d) => apart_calls (.agg #[.slice X1 X2 X3, .slice X4 X5 X6, .bool d.dead, .int .i64 d.left]) d W h (by have := HSZ.out; omega) (by have := HWZ.out; omega))
    go_region_held3 (fun W => (W.cell? ⟨w.heap.size, 0, none⟩ = some (.slice X1 X2 X3) ∧ W.cell? ⟨w.heap.size, 1, none⟩ = some (.slice X4 X5 X6) ∧ W.cell? ⟨w.heap.size, 2, none⟩ = some (.bool d.dead) ∧ W.cell? ⟨w.heap.size, 3, none⟩ = some (.int .i64 d.left)) ∧
        W.cell? ⟨G, 0, none⟩ = some (.int .i64 x.pages) ∧ W.cell? ⟨G, 1, none⟩ = some (.int .i64 x.journal)) (first
      | with_reducible exact HT.out.cells
      | (obtain ⟨Z, hZ, hN, _⟩ := HT.out.st4 (.slice X1 X2 X3) (.slice X4 X5 X6) (.bool d.dead) (.int .i64 d.left); rw [hZ]; with_reducible exact hN.cells)
      | (obtain ⟨Z, hZ, hN, _⟩ := HT.out.st8 (.slice T1 T2 T3) (.slice T4 T5 T6) (.bool d.dead) (.int .i64 d.left) (.int .i64 x.pages) (.int .i64 x.journal) (.int .i64 (m + 1)) (.slice none 0 0); rw [hZ]; with_reducible exact hN.cells)
      | (obtain ⟨Z, hZ, hN, _⟩ := HT.out.st8 (.slice T1 T2 T3) (.slice T4 T5 T6) (.bool d.dead) (.int .i64 d.left) (.int .i64 x.pages) (.int .i64 x.journal) (.int .i64 (m + 1)) (.slice none 0 0); obtain ⟨Z', hZ', hN', _⟩ := hN.st4 (.slice X1 X2 X3) (.slice X4 X5 X6) (.bool d.dead) (.int .i64 d.left); rw [hZ, hZ']; with_reducible exact hN'.cells)
      | (obtain ⟨Z, hZ, hN, _⟩ := HT.out.st4 (.slice X1 X2 X3) (.slice X4 X5 X6) (.bool d.dead) (.int .i64 d.left); obtain ⟨Z', hZ', hN', _⟩ := hN.st8 (.slice T1 T2 T3) (.slice T4 T5 T6) (.bool d.dead) (.int .i64 d.left) (.int .i64 x.pages) (.int .i64 x.journal) (.int .i64 (m + 1)) (.slice none 0 0); rw [hZ, hZ']; with_reducible exact hN'.cells)) (first
      | (go_at_call 56; (with_reducible refine (CA.out _ HT.out.isd).mono ?_); rintro e wa ⟨u, rfl, hu, hBa⟩; (with_reducible replace HT := Lib.hid (HT.out.more hBa)); clear hBa; obtain ⟨T1, T2, T3, T4, T5, T6, rfl⟩ := hu.parts; have HV := Lib.hid hu; clear hu z0 z1 z2 z3 z4 z5 z6 z7 zf r0 r1 r2 r3 g0 g1 g2 g3; have hzv := HT.out.zv; have hzd := HT.out.zd; (try unfold Z8 at hzv); (try unfold Z4 at hzd); obtain ⟨⟨z0, z1, z2, z3, z4, z5, z6, z7⟩, zf⟩ := box8 hzv; obtain ⟨⟨r0, r1, r2, r3⟩, g0, g1, g2, g3⟩ := box4 hzd; clear hzv hzd)
      | (obtain ⟨Z, hZ, hN, _⟩ := HT.out.st4 (.slice X1 X2 X3) (.slice X4 X5 X6) (.bool d.dead) (.int .i64 d.left); rw [hZ]; go_at_call 56; (with_reducible refine (CA.out _ hN.isd).mono ?_); rintro e wa ⟨u, rfl, hu, hBa⟩; (with_reducible have HT4 := Lib.hid (hN.more hBa)); clear hBa hN hZ HT; have HT := HT4; clear HT4; obtain ⟨T1, T2, T3, T4, T5, T6, rfl⟩ := hu.parts; have HV := Lib.hid hu; clear hu z0 z1 z2 z3 z4 z5 z6 z7 zf r0 r1 r2 r3 g0 g1 g2 g3; have hzv := HT.out.zv; have hzd := HT.out.zd; (try unfold Z8 at hzv); (try unfold Z4 at hzd); obtain ⟨⟨z0, z1, z2, z3, z4, z5, z6, z7⟩, zf⟩ := box8 hzv; obtain ⟨⟨r0, r1, r2, r3⟩, g0, g1, g2, g3⟩ := box4 hzd; clear hzv hzd))
    all_goals
      (rename_i hheld; clear hheld)
      have hvt : IsVault _ (.agg #[.slice T1 T2 T3, .slice T4 T5 T6, .bool d.dead, .int .i64 d.left, .int .i64 x.pages, .int .i64 x.journal, .int .i64 (m + 1), .slice none 0 0]) ⟨d, x, m + 1, []⟩ := ⟨_, _, _, rfl, HV.out, IsLfs.nil _⟩
      first
        | (obtain ⟨Z, hZ, hN, hq⟩ := HT.out.st8 (.slice T1 T2 T3) (.slice T4 T5 T6) (.bool d.dead) (.int .i64 d.left) (.int .i64 x.pages) (.int .i64 x.journal) (.int .i64 (m + 1)) (.slice none 0 0); obtain ⟨Z', hZ', hN', hq'⟩ := hN.st4 (.slice X1 X2 X3) (.slice X4 X5 X6) (.bool d.dead) (.int .i64 d.left); rw [hZ, hZ'])
        | (obtain ⟨Z, hZ, hN, hq⟩ := HT.out.st4 (.slice X1 X2 X3) (.slice X4 X5 X6) (.bool d.dead) (.int .i64 d.left); obtain ⟨Z', hZ', hN', hq'⟩ := hN.st8 (.slice T1 T2 T3) (.slice T4 T5 T6) (.bool d.dead) (.int .i64 d.left) (.int .i64 x.pages) (.int .i64 x.journal) (.int .i64 (m + 1)) (.slice none 0 0); rw [hZ, hZ'])
        | (obtain ⟨Z', hZ', hN', hq'⟩ := HT.out.st8 (.slice T1 T2 T3) (.slice T4 T5 T6) (.bool d.dead) (.int .i64 d.left) (.int .i64 x.pages) (.int .i64 x.journal) (.int .i64 (m + 1)) (.slice none 0 0); have hq : ∀ u k, IsVault wa u k → IsVault wa u k := (fun _ _ h => h); rw [hZ'])
      have HFV := Lib.hid (hq' _ _ (hq _ _ hvt))
      have HFN := Lib.hid hN'
      have hz8 := hN'.zv
      have hz4 := hN'.zd
      have HZ8 := Lib.hid (box8 hz8)
      have HZ4 := Lib.hid (box4 hz4)
      (try clear hZ)
      (try clear hN)
      clear hvt hq hq' hZ' hN' hz8 hz4 HT HV
      go_wp2_with fail
      obtain ⟨⟨q0, q1, q2, q3, q4, q5, q6, q7⟩, _⟩ := HZ8.out
      obtain ⟨⟨s0, s1, s2, s3⟩, _⟩ := HZ4.out
      exact bodyPost_ret (v := .tuple #[.agg #[.slice T1 T2 T3, .slice T4 T5 T6, .bool d.dead, .int .i64 d.left, .int .i64 x.pages, .int .i64 x.journal, .int .i64 (m + 1), .slice none 0 0], .agg #[.slice X1 X2 X3, .slice X4 X5 X6, .bool d.dead, .int .i64 d.left], .int .i64 0]) (by simp [results, Tryz.results22, go_sem, q0, q1, q2, q3, q4, q5, q6, q7, s0, s1, s2, s3]) rfl ⟨_, _, by rw [HO.out], by rw [HO.out]; exact HFV.out, by rw [HO.out]; exact HFN.out.isd, HFN.out.below⟩
  have hnp : (n : Int) > 0 := by omega
  have hnq : 0 < n := by omega
  have hl0 : l ≠ [] := fun e => hn0 (by rw [HN.out, e]; rfl)
  obtain ⟨⟨D, E⟩, he⟩ : ∃ r, wfF d (homeW x l) = r := ⟨_, rfl⟩
  have HOE := Lib.hid (HO1.out HM2.out hl0 D E he)
  have hpl := wf_pl (l := homeW x l) HP.out
  rw [he] at hpl
  dsimp only at hpl
  have hhl : (homeW x l).length ≤ 256 := by have := HLL.out; simp [homeW]; omega
  have HSZ : Hid (D.sure.length ≤ 2000) := Lib.hid (by have := hpl.good.sure; have := HNN.out; omega)
  have HWZ : Hid (D.wet.length ≤ 2000) := Lib.hid (by have := hpl.good.wet; omega)
  have CP := fun W (h : IsLfs W (.slice L1 n L3) l) => placed_calls (.slice L1 n L3) x l W h (fun q hq => by have := HLOK.out.len q hq; omega) (by have := HLL.out; omega)
  have CE : ∀ u vl W, IsDisk W u d → SL W 72 2 vl (homeW x l).length (wetCells (homeW x l)) → Calls Tryz.prog 31 #[u, vl] W fun e w' => ∃ v', e = .returned (.tuple #[v', .int .i64 E]) ∧ IsDisk w' v' D ∧ Below W.heap.size W w' := fun u vl W p q => by
    have := settle_calls u vl d (homeW x l) W p HP.out HNN.out (by omega) q
    rw [he] at this
    exact this
  unfold shV at CP
  have CP := Lib.hid CP
  have CE := Lib.hid CE
  clear HO0 HO1 hl0 hpl hhl he
  go_upto_region 10 with (fail)
  go_cut [6] from 35 to 42 (fun s6 wx => s6 = .int .i64 E ∧ ∃ (U1 : Option Addr) (U2 U3 : Nat) (U4 : Option Addr) (U5 U6 : Nat), OX w wx (.slice U1 U2 U3) (.slice U4 U5 U6) D x G Z8 Z4)
  case first =>
    have HTD := Lib.hid (HT.out.more (Below.refl _ _).drew)
    have HVD := Lib.hid (HVL.out.below (Below.refl _ _).drew)
    clear HT
    have HT := Lib.hid HTD.out
    clear HTD
    obtain ⟨⟨p0, p1, p2, p3⟩, t0, t1⟩ := HT.out.cells
    obtain ⟨_, f0, f1, f2, f3⟩ := box4 HT.out.dk
    go_region_with (first
      | (go_at_call 55; (with_reducible refine (CP.out _ HVD.out).mono ?_); rintro e wa ⟨vw', rfl, hvw, hBa⟩; (with_reducible replace HT := Lib.hid (HT.out.more hBa)); clear hBa; have HL := Lib.hid hvw; clear hvw p0 p1 p2 p3 t0 t1 f0 f1 f2 f3; obtain ⟨⟨p0, p1, p2, p3⟩, t0, t1⟩ := HT.out.cells; obtain ⟨_, f0, f1, f2, f3⟩ := box4 HT.out.dk)
      | (go_at_call 31; (with_reducible refine (CE.out _ _ _ HT.out.isd HL.out).mono ?_); rintro e wa ⟨v', rfl, hv', hBa⟩; (with_reducible replace HT := Lib.hid (HT.out.more hBa)); clear hBa; obtain ⟨U1, U2, U3, U4, U5, U6, rfl⟩ := hv'.parts; have HV := Lib.hid hv'; clear hv' p0 p1 p2 p3 t0 t1 f0 f1 f2 f3; obtain ⟨⟨p0, p1, p2, p3⟩, t0, t1⟩ := HT.out.cells; obtain ⟨_, f0, f1, f2, f3⟩ := box4 HT.out.dk))
    all_goals
      go_wp2_with fail
      go_meet
      case rel => exact ⟨rfl, U1, U2, U3, U4, U5, U6, by obtain ⟨X, hX, hC⟩ := HT.out.put HV.out; rw [hX]; exact hC⟩
  case rest =>
    obtain ⟨rfl, U1, U2, U3, U4, U5, U6, hox⟩ := hcut
    clear HT CP CE HVL
    have HT := Lib.hid hox
    clear hox
    by_cases hE : E = 0
    rotate_left
    · have hE1 : (E == 0) = false := by simpa using hE
      rw [if_pos hE] at HOE
      have HO := Lib.hid HOE.out
      clear HOE hE
      obtain ⟨Z, hZ, hN, hq⟩ := HT.out.st8 (.slice none 0 0) (.slice none 0 0) (.bool false) (.int .i64 0) (.int .i64 0) (.int .i64 0) (.int .i64 0) (.slice none 0 0)
      obtain ⟨Z', hZ', hN', hq'⟩ := hN.st4 (.slice U1 U2 U3) (.slice U4 U5 U6) (.bool D.dead) (.int .i64 D.left)
      have HFV := Lib.hid (((zero_vault Z').below (Below.refl _ _).drew))
      have HFN := Lib.hid (hN'.more (Below.refl _ _).drew)
      have HZ8 := Lib.hid (box8 (W := Z'.drew) hN'.zv)
      have HZ4 := Lib.hid (box4 (W := Z'.drew) hN'.zd)
      have HQ := Lib.hid hZ
      have HQ' := Lib.hid hZ'
      obtain ⟨⟨p0, p1, p2, p3⟩, _⟩ := box4 HT.out.dk
      have hzv := HT.out.zv
      have hzd := HT.out.zd
      unfold Z8 at hzv
      unfold Z4 at hzd
      obtain ⟨⟨z0, z1, z2, z3, z4, z5, z6, z7⟩, zf⟩ := box8 hzv
      obtain ⟨⟨r0, r1, r2, r3⟩, g0, g1, g2, g3⟩ := box4 hzd
      clear hZ hN hq hZ' hN' hq' hzv hzd
      go_wp2_with fail
      go_region
      rw [HQ.out, HQ'.out]
      clear p0 p1 p2 p3 z0 z1 z2 z3 z4 z5 z6 z7 zf r0 r1 r2 r3 g0 g1 g2 g3
      go_wp2_with fail
      obtain ⟨⟨q0, q1, q2, q3, q4, q5, q6, q7⟩, _⟩ := HZ8.out
      obtain ⟨⟨s0, s1, s2, s3⟩, _⟩ := HZ4.out
      exact bodyPost_ret (v := .tuple #[.agg #[.slice none 0 0, .slice none 0 0, .bool false, .int .i64 0, .int .i64 0, .int .i64 0, .int .i64 0, .slice none 0 0], .agg #[.slice U1 U2 U3, .slice U4 U5 U6, .bool D.dead, .int .i64 D.left], .int .i64 E]) (by simp [results, Tryz.results22, go_sem, q0, q1, q2, q3, q4, q5, q6, q7, s0, s1, s2, s3]) rfl ⟨_, _, by rw [HO.out], by rw [HO.out]; exact HFV.out, by rw [HO.out]; exact HFN.out.isd, HFN.out.below⟩
    · subst hE
      rw [if_neg (by simp)] at HOE
      have HO := Lib.hid HOE.out
      clear HOE
      go_upto_region 13 with (fail)
      have hwrp : IntKind.i64.wrap (m + 1) = m + 1 := by rw [IntKind.wrap_i64]; omega
      have HTD := Lib.hid (HT.out.more (Below.refl _ _).drew)
      clear HT
      have HT := Lib.hid HTD.out
      clear HTD
      have hzv := HT.out.zv
      have hzd := HT.out.zd
      (try unfold Z8 at hzv)
      (try unfold Z4 at hzd)
      obtain ⟨⟨z0, z1, z2, z3, z4, z5, z6, z7⟩, zf⟩ := box8 hzv
      obtain ⟨⟨r0, r1, r2, r3⟩, g0, g1, g2, g3⟩ := box4 hzd
      clear hzv hzd
      have CA := Lib.hid (fun W (h : IsDisk W (.agg #[.slice U1 U2 U3, .slice U4 U5 U6, .bool D.dead, .int .i64 D.left]) D) => apart_calls (.agg #[.slice U1 U2 U3, .slice U4 U5 U6, .bool D.dead, .int .i64 D.left]) D W h (by have := HSZ.out; omega) (by have := HWZ.out; omega))
      go_region_held3 (fun W => (W.cell? ⟨w.heap.size, 0, none⟩ = some (.slice U1 U2 U3) ∧ W.cell? ⟨w.heap.size, 1, none⟩ = some (.slice U4 U5 U6) ∧ W.cell? ⟨w.heap.size, 2, none⟩ = some (.bool D.dead) ∧ W.cell? ⟨w.heap.size, 3, none⟩ = some (.int .i64 D.left)) ∧
          W.cell? ⟨G, 0, none⟩ = some (.int .i64 x.pages) ∧ W.cell? ⟨G, 1, none⟩ = some (.int .i64 x.journal)) (first
        | with_reducible exact HT.out.cells
        | (obtain ⟨Z, hZ, hN, _⟩ := HT.out.st4 (.slice U1 U2 U3) (.slice U4 U5 U6) (.bool D.dead) (.int .i64 D.left); rw [hZ]; with_reducible exact hN.cells)
        | (obtain ⟨Z, hZ, hN, _⟩ := HT.out.st8 (.slice T1 T2 T3) (.slice T4 T5 T6) (.bool D.dead) (.int .i64 D.left) (.int .i64 x.pages) (.int .i64 x.journal) (.int .i64 (m + 1)) (.slice none 0 0); rw [hZ]; with_reducible exact hN.cells)
        | (obtain ⟨Z, hZ, hN, _⟩ := HT.out.st8 (.slice T1 T2 T3) (.slice T4 T5 T6) (.bool D.dead) (.int .i64 D.left) (.int .i64 x.pages) (.int .i64 x.journal) (.int .i64 (m + 1)) (.slice none 0 0); obtain ⟨Z', hZ', hN', _⟩ := hN.st4 (.slice U1 U2 U3) (.slice U4 U5 U6) (.bool D.dead) (.int .i64 D.left); rw [hZ, hZ']; with_reducible exact hN'.cells)
        | (obtain ⟨Z, hZ, hN, _⟩ := HT.out.st4 (.slice U1 U2 U3) (.slice U4 U5 U6) (.bool D.dead) (.int .i64 D.left); obtain ⟨Z', hZ', hN', _⟩ := hN.st8 (.slice T1 T2 T3) (.slice T4 T5 T6) (.bool D.dead) (.int .i64 D.left) (.int .i64 x.pages) (.int .i64 x.journal) (.int .i64 (m + 1)) (.slice none 0 0); rw [hZ, hZ']; with_reducible exact hN'.cells)) (first
        | (go_at_call 56; (with_reducible refine (CA.out _ HT.out.isd).mono ?_); rintro e wa ⟨u, rfl, hu, hBa⟩; (with_reducible replace HT := Lib.hid (HT.out.more hBa)); clear hBa; obtain ⟨T1, T2, T3, T4, T5, T6, rfl⟩ := hu.parts; have HV := Lib.hid hu; clear hu z0 z1 z2 z3 z4 z5 z6 z7 zf r0 r1 r2 r3 g0 g1 g2 g3; have hzv := HT.out.zv; have hzd := HT.out.zd; (try unfold Z8 at hzv); (try unfold Z4 at hzd); obtain ⟨⟨z0, z1, z2, z3, z4, z5, z6, z7⟩, zf⟩ := box8 hzv; obtain ⟨⟨r0, r1, r2, r3⟩, g0, g1, g2, g3⟩ := box4 hzd; clear hzv hzd)
        | (obtain ⟨Z, hZ, hN, _⟩ := HT.out.st4 (.slice U1 U2 U3) (.slice U4 U5 U6) (.bool D.dead) (.int .i64 D.left); rw [hZ]; go_at_call 56; (with_reducible refine (CA.out _ hN.isd).mono ?_); rintro e wa ⟨u, rfl, hu, hBa⟩; (with_reducible have HT4 := Lib.hid (hN.more hBa)); clear hBa hN hZ HT; have HT := HT4; clear HT4; obtain ⟨T1, T2, T3, T4, T5, T6, rfl⟩ := hu.parts; have HV := Lib.hid hu; clear hu z0 z1 z2 z3 z4 z5 z6 z7 zf r0 r1 r2 r3 g0 g1 g2 g3; have hzv := HT.out.zv; have hzd := HT.out.zd; (try unfold Z8 at hzv); (try unfold Z4 at hzd); obtain ⟨⟨z0, z1, z2, z3, z4, z5, z6, z7⟩, zf⟩ := box8 hzv; obtain ⟨⟨r0, r1, r2, r3⟩, g0, g1, g2, g3⟩ := box4 hzd; clear hzv hzd))
      all_goals
        (rename_i hheld; clear hheld)
        have hvt : IsVault _ (.agg #[.slice T1 T2 T3, .slice T4 T5 T6, .bool D.dead, .int .i64 D.left, .int .i64 x.pages, .int .i64 x.journal, .int .i64 (m + 1), .slice none 0 0]) ⟨D, x, m + 1, []⟩ := ⟨_, _, _, rfl, HV.out, IsLfs.nil _⟩
        first
          | (obtain ⟨Z, hZ, hN, hq⟩ := HT.out.st8 (.slice T1 T2 T3) (.slice T4 T5 T6) (.bool D.dead) (.int .i64 D.left) (.int .i64 x.pages) (.int .i64 x.journal) (.int .i64 (m + 1)) (.slice none 0 0); obtain ⟨Z', hZ', hN', hq'⟩ := hN.st4 (.slice U1 U2 U3) (.slice U4 U5 U6) (.bool D.dead) (.int .i64 D.left); rw [hZ, hZ'])
          | (obtain ⟨Z, hZ, hN, hq⟩ := HT.out.st4 (.slice U1 U2 U3) (.slice U4 U5 U6) (.bool D.dead) (.int .i64 D.left); obtain ⟨Z', hZ', hN', hq'⟩ := hN.st8 (.slice T1 T2 T3) (.slice T4 T5 T6) (.bool D.dead) (.int .i64 D.left) (.int .i64 x.pages) (.int .i64 x.journal) (.int .i64 (m + 1)) (.slice none 0 0); rw [hZ, hZ'])
          | (obtain ⟨Z', hZ', hN', hq'⟩ := HT.out.st8 (.slice T1 T2 T3) (.slice T4 T5 T6) (.bool D.dead) (.int .i64 D.left) (.int .i64 x.pages) (.int .i64 x.journal) (.int .i64 (m + 1)) (.slice none 0 0); have hq : ∀ u k, IsVault wa u k → IsVault wa u k := (fun _ _ h => h); rw [hZ'])
        have HFV := Lib.hid (hq' _ _ (hq _ _ hvt))
        have HFN := Lib.hid hN'
        have hz8 := hN'.zv
        have hz4 := hN'.zd
        have HZ8 := Lib.hid (box8 hz8)
        have HZ4 := Lib.hid (box4 hz4)
        (try clear hZ)
        (try clear hN)
        clear hvt hq hq' hZ' hN' hz8 hz4 HT HV
        go_wp2_with fail
        obtain ⟨⟨q0, q1, q2, q3, q4, q5, q6, q7⟩, _⟩ := HZ8.out
        obtain ⟨⟨s0, s1, s2, s3⟩, _⟩ := HZ4.out
        exact bodyPost_ret (v := .tuple #[.agg #[.slice T1 T2 T3, .slice T4 T5 T6, .bool D.dead, .int .i64 D.left, .int .i64 x.pages, .int .i64 x.journal, .int .i64 (m + 1), .slice none 0 0], .agg #[.slice U1 U2 U3, .slice U4 U5 U6, .bool D.dead, .int .i64 D.left], .int .i64 0]) (by simp [results, Tryz.results22, go_sem, q0, q1, q2, q3, q4, q5, q6, q7, s0, s1, s2, s3]) rfl ⟨_, _, by rw [HO.out], by rw [HO.out]; exact HFV.out, by rw [HO.out]; exact HFN.out.isd, HFN.out.below⟩

/-- Whatever the disk. -/
theorem open_calls (v : Value) (d : DK) (w : World) {nn : Nat} (hv : IsDisk w v d) (hp : Pl nn 0 d) (hnn : nn ≤ 2000) :
    Calls Tryz.prog 22 #[v] w fun e w' => ∃ v1 v2, e = .returned (.tuple #[v1, v2, .int .i64 (openV d).2.2]) ∧ IsVault w' v1 (openV d).1 ∧ IsDisk w' v2 (openV d).2.1 ∧ Below w.heap.size w w' := by
  have hok : d.ok := hp.ok (by omega) (by omega)
  by_cases h12 : rdE d 0 = 12
  · refine popen_bad v d w hv hok (E := 12) (by unfold shapeR; rw [if_pos h12]) (by omega) ?_
    unfold openV
    rw [if_pos h12]
  · by_cases hs : isS (headS d) = true ∧ (d.sure.length : Int) = sizeX (parseS (headS d))
    · exact popen_good v d w hv hp hnn h12 hs
    · refine popen_bad v d w hv hok (E := 14) (by unfold shapeR; rw [if_neg h12, if_pos hs]) (by omega) ?_
      unfold openV
      rw [if_neg h12, if_pos hs]

end Go.Proofs.YtnbbijpmkhdgpaaGreat.Vlt
