/- Contracts and plain mathematics that the statement's proof wants: no statement is proved here, nothing is assumed. -/
import Derived.BigRegion
import Derived.BigQuiet
import Derived.Deep.RegionWith
import Derived.Test.YtnbbijpmkhdgpaaGreatMg22
import Derived.Test.YtnbbijpmkhdgpaaGreatMg23
import Derived.Test.YtnbbijpmkhdgpaaGreatMg29
import Derived.Test.YtnbbijpmkhdgpaaGreatMg31
import Derived.Test.YtnbbijpmkhdgpaaGreatMg34
import Derived.Test.YtnbbijpmkhdgpaaGreatMg43
import Derived.Test.YtnbbijpmkhdgpaaGreatMg46
import Derived.Test.YtnbbijpmkhdgpaaGreatMg47
/- ROpen -/
namespace Go.Proofs.YtnbbijpmkhdgpaaGreat.Vlt
open Go.RowKit Go.Sort
open Dsk
open Ent (isE parseE)

theorem disk_len0 {W : World} {A1 : Option Addr} {A2 A3 : Nat} {A4 : Option Addr} {A5 A6 : Nat} {a : Bool} {b : Int} {d : DK} (h : IsDisk W (.agg #[.slice A1 A2 A3, .slice A4 A5 A6, .bool a, .int .i64 b]) d) : A2 = d.sure.length := by
  obtain ⟨_, _, e, h1, _⟩ := h
  obtain ⟨_, _, e4, _⟩ := h1
  simp only [Value.agg.injEq, Array.mk.injEq, List.cons.injEq] at e
  rw [← e.1] at e4
  injection e4
/-- The same boxes, whatever lies in the answer's. -/
structure OY (w W : World) (vs vw : Value) (d : DK) (v8 v4 : Array Value) : Prop where
  dk : W.heap[w.heap.size]? = some (.cells #[vs, vw, .bool d.dead, .int .i64 d.left] 28 (0, 0))
  isd : IsDisk W (.agg #[vs, vw, .bool d.dead, .int .i64 d.left]) d
  zv : W.heap[w.heap.size + 1]? = some (.cells v8 33 (0, 0))
  zd : W.heap[w.heap.size + 1 + 1]? = some (.cells v4 28 (0, 0))
  below : Below w.heap.size w W
theorem OY.more {w W W' : World} {vs vw : Value} {d : DK} {v8 v4 : Array Value} (h : OY w W vs vw d v8 v4) (k : Below W.heap.size W W') : OY w W' vs vw d v8 v4 :=
  ⟨box_kept _ h.dk k, h.isd.below k, box_kept _ h.zv k, box_kept _ h.zd k, Dsk.below_trans' h.below k⟩
theorem OY.st4 {w W : World} {vs vw : Value} {d : DK} {v8 : Array Value} (h : OY w W vs vw d v8 Z4) (b0 b1 b2 b3 : Value) :
    ∃ X, (((W.setCell ⟨w.heap.size + 1 + 1, 0, none⟩ b0).setCell ⟨w.heap.size + 1 + 1, 1, none⟩ b1).setCell ⟨w.heap.size + 1 + 1, 2, none⟩ b2).setCell ⟨w.heap.size + 1 + 1, 3, none⟩ b3 = X ∧
      OY w X vs vw d v8 #[b0, b1, b2, b3] ∧ ∀ u k, IsVault W u k → IsVault X u k := by
  have hz := h.zd
  unfold Z4 at hz
  obtain ⟨X1, hX1, hb1, hk1, hB1⟩ := box_store4 hz b0 b1 b2 b3
  exact ⟨X1, hX1, ⟨(hk1 _ (by omega)).trans h.dk, h.isd.other hz (by decide) (by decide) hk1, (hk1 _ (by omega)).trans h.zv, hb1, hB1 _ _ h.below (by omega)⟩, fun u k ⟨p, q, r, e, h1, h2⟩ => ⟨p, q, r, e, h1.other hz (by decide) (by decide) hk1, SL.other h2 hz (by decide) hk1⟩⟩
/-- The answer's boxes, ahead of the shape's. -/
theorem OB.st8 {w W : World} {vs vw : Value} {d : DK} (h : OB w W vs vw d) (b0 b1 b2 b3 b4 b5 b6 b7 : Value) :
    ∃ X, (((((((W.setCell ⟨w.heap.size + 1, 0, none⟩ b0).setCell ⟨w.heap.size + 1, 1, none⟩ b1).setCell ⟨w.heap.size + 1, 2, none⟩ b2).setCell ⟨w.heap.size + 1, 3, none⟩ b3).setCell ⟨w.heap.size + 1, 4, none⟩ b4).setCell ⟨w.heap.size + 1, 5, none⟩ b5).setCell ⟨w.heap.size + 1, 6, none⟩ b6).setCell ⟨w.heap.size + 1, 7, none⟩ b7 = X ∧
      OY w X vs vw d #[b0, b1, b2, b3, b4, b5, b6, b7] Z4 ∧ ∀ u k, IsVault W u k → IsVault X u k := by
  have hz := h.zv
  obtain ⟨X1, hX1, hb1, hk1, hB1⟩ := box_store8 hz b0 b1 b2 b3 b4 b5 b6 b7
  exact ⟨X1, hX1, ⟨(hk1 _ (by omega)).trans h.dk, h.isd.other hz (by decide) (by decide) hk1, hb1, (hk1 _ (by omega)).trans h.zd, hB1 _ _ h.below (by omega)⟩, fun u k hv => hv.other hz hk1⟩

set_option maxRecDepth 100000 in
set_option maxHeartbeats 16000000 in
theorem ropen_calls (v : Value) (d : DK) (w : World) {nn : Nat} (hv : IsDisk w v d) (hp : Pl nn 0 d) (hnn : nn ≤ 2000) :
    Calls Tryz.prog 41 #[v] w fun e w' => ∃ v1 v2, e = .returned (.tuple #[v1, v2, .int .i64 (openV d).2.2]) ∧ IsVault w' v1 (openV d).1 ∧ IsDisk w' v2 (openV d).2.1 ∧ Below w.heap.size w w' := by
  have hok : d.ok := hp.ok (by omega) (by omega)
  obtain ⟨X1, X2, X3, X4, X5, X6, rfl⟩ := hv.parts
  have hX2 := disk_len0 hv
  obtain ⟨Y, hY, hB⟩ := OB.new w hv
  obtain ⟨H, hH⟩ : ∃ H, H = headS d := ⟨_, rfl⟩
  have hrs : rdS d 0 = strB H := by rw [hH]; unfold headS; rw [strB_of]
  have CRD := rrd_calls _ d 0 Y hB.isd hok hp.rise
  rw [hrs] at CRD
  obtain ⟨E0, hE0⟩ : ∃ E, E = rdE d 0 := ⟨_, rfl⟩
  rw [← hE0] at CRD
  have CPS := fun W => rparse_calls H W
  obtain ⟨x, hx⟩ : ∃ x, x = parseS H := ⟨_, rfl⟩
  obtain ⟨ok, hoke⟩ : ∃ b, b = isS H := ⟨_, rfl⟩
  rw [← hx, ← hoke] at CPS
  obtain ⟨N, hNz⟩ : ∃ N : Int, N = placeN x x.pages := ⟨_, rfl⟩
  have CZ := fun W => rsize_calls x W
  rw [← hNz] at CZ
  have HO12 : Hid (E0 = 12 → openV d = (zeroV, d, 12)) := Lib.hid (fun h => by unfold openV; rw [if_pos (by rw [← hE0]; exact h)])
  have HO14 : Hid (E0 ≠ 12 → ¬ (ok = true ∧ (X2 : Int) = N) → openV d = (zeroV, d, 14)) := Lib.hid (fun h h2 => by
    unfold openV
    rw [if_neg (by rw [← hE0]; exact h), if_pos (by rw [← hH, ← hx, ← hoke, ← hX2]; unfold sizeX; rw [← hNz]; exact h2)])
  have hgood : E0 ≠ 12 → ok = true → (X2 : Int) = N → rdE d 0 ≠ 12 ∧ (isS (headS d) = true ∧ (d.sure.length : Int) = sizeX (parseS (headS d))) ∧ x = parseS (headS d) := fun h h2 h3 =>
    ⟨by rw [← hE0]; exact h, ⟨by rw [← hH, ← hoke]; exact h2, by rw [← hH, ← hx, ← hX2]; unfold sizeX; rw [← hNz]; exact h3⟩, by rw [← hH]; exact hx⟩
  have HGD := Lib.hid hgood
  unfold shV at CPS CZ
  have CRD := Lib.hid CRD
  have CPS := Lib.hid CPS
  have CZ := Lib.hid CZ
  have HY := Lib.hid hY
  have HB := Lib.hid hB
  have HP := Lib.hid hp
  have HNN := Lib.hid hnn
  have HOK := Lib.hid hok
  obtain ⟨⟨p0, p1, p2, p3⟩, _⟩ := box4 hB.dk
  clear hY hB hv hok hp hnn hX2 hH hrs hE0 hx hoke hNz hgood
  go_enter Tryz.func41, Tryz.ntmps41
  go_upto_region 1 with (fail)
  rw [← HY.out]
  clear HY
  go_wp2_with fail
  (with_reducible refine CRD.out.mono ?_)
  rintro e w1 ⟨rfl, hB1⟩
  have HB1 := Lib.hid (HB.out.more hB1)
  clear hB1 p0 p1 p2 p3 HB
  by_cases h12 : E0 = 12
  · have HO := Lib.hid (HO12.out h12)
    subst h12
    clear HO12 HO14 HGD
    have hob := HB1.out
    obtain ⟨Z, hZ, hN, hq⟩ := hob.st8 (.slice none 0 0) (.slice none 0 0) (.bool false) (.int .i64 0) (.int .i64 0) (.int .i64 0) (.int .i64 0) (.slice none 0 0)
    obtain ⟨Z', hZ', hN', hq'⟩ := hN.st4 (.slice X1 X2 X3) (.slice X4 X5 X6) (.bool d.dead) (.int .i64 d.left)
    have hfv := hq' _ _ (hq _ _ (zero_vault _))
    have HFV := Lib.hid (hfv.below (Below.refl _ _).drew)
    have HFN := Lib.hid (hN'.more (Below.refl _ _).drew)
    have HZ8 := Lib.hid (box8 (W := Z'.drew) hN'.zv)
    have HZ4 := Lib.hid (box4 (W := Z'.drew) hN'.zd)
    have HQ := Lib.hid hZ
    have HQ' := Lib.hid hZ'
    obtain ⟨⟨p0, p1, p2, p3⟩, _⟩ := box4 hob.dk
    have hzv := hob.zv
    have hzd := hob.zd
    obtain ⟨⟨z0, z1, z2, z3, z4, z5, z6, z7⟩, zf⟩ := box8 hzv
    obtain ⟨⟨r0, r1, r2, r3⟩, g0, g1, g2, g3⟩ := box4 hzd
    clear hZ hN hq hZ' hN' hq' hzv hzd hfv
    go_wp2_with fail
    go_region
    rw [HQ.out, HQ'.out]
    clear p0 p1 p2 p3 z0 z1 z2 z3 z4 z5 z6 z7 zf r0 r1 r2 r3 g0 g1 g2 g3
    go_wp2_with fail
    obtain ⟨⟨q0, q1, q2, q3, q4, q5, q6, q7⟩, _⟩ := HZ8.out
    obtain ⟨⟨s0, s1, s2, s3⟩, _⟩ := HZ4.out
    exact bodyPost_ret (v := .tuple #[.agg #[.slice none 0 0, .slice none 0 0, .bool false, .int .i64 0, .int .i64 0, .int .i64 0, .int .i64 0, .slice none 0 0], .agg #[.slice X1 X2 X3, .slice X4 X5 X6, .bool d.dead, .int .i64 d.left], .int .i64 12]) (by simp [results, Tryz.results41, go_sem, q0, q1, q2, q3, q4, q5, q6, q7, s0, s1, s2, s3]) rfl ⟨_, _, by rw [HO.out], by rw [HO.out]; exact HFV.out, by rw [HO.out]; exact HFN.out.isd, HFN.out.below⟩
  have he12 : (E0 == 12) = false := by simpa using h12
  have HO14 := Lib.hid (HO14.out h12)
  have HGD := Lib.hid (HGD.out h12)
  clear HO12 h12
  go_wp2_with fail
  (with_reducible refine (CPS.out _).mono ?_)
  rintro e w2 ⟨rfl, hB2⟩
  obtain ⟨Y3, hY3, hT⟩ := HB1.out.shape x hB2
  have HY3 := Lib.hid hY3
  obtain ⟨G, hG⟩ : ∃ G, G = w2.heap.size := ⟨_, rfl⟩
  rw [← hG] at hT
  have HT := Lib.hid hT
  have HG := Lib.hid hG.symm
  clear hY3 hB2 hT hG HB1
  go_upto_region 5 with (fail)
  rw [← HY3.out]
  rw [HG.out]
  clear HY3 HG
  by_cases hk : ok = true ∧ (X2 : Int) = N
  rotate_left
  · have HO := Lib.hid (HO14.out hk)
    have hkk : ok = false ∨ (ok = true ∧ ((X2 : Int) != N) = true) := by
      cases hq : ok with
      | false => exact .inl rfl
      | true => exact .inr ⟨rfl, by simpa using fun e => hk ⟨hq, e⟩⟩
    clear HO14 HGD hk
    rcases hkk with hk0 | ⟨hk0, hk1⟩
    all_goals
      subst hk0
      have q := fun dd os => HT.out.more (below_regrown Y3 dd os)
      have p0 := fun dd os => (q dd os).cells.1.1
      have t0 := fun dd os => (q dd os).cells.2.1
      have t1 := fun dd os => (q dd os).cells.2.2
      have D1 := Lib.hid (rg CZ.out Y3)
      clear q
      refine wp_region_quiet_below (by kernel_rfl) (by kernel_rfl) ?_
      (try simp only [List.append_eq, List.cons_append, List.nil_append])
      repeat (first | go_big_quiet_step (first | (with_reducible exact D1.out _ _)) | quiet_step (first | (with_reducible exact D1.out _ _)))
      refine wpQuiet_nil ?_
      intro _ hw'
      obtain ⟨⟨dq, osq⟩, hw''⟩ := hw'
      subst hw''
      have HT4 := Lib.hid (HT.out.more (below_regrown Y3 dq osq))
      generalize grow (redrawn Y3 dq) osq = W1 at *
      clear p0 t0 t1 D1 HT
      have HT := Lib.hid HT4.out
      clear HT4
      obtain ⟨Z, hZ, hN, hq⟩ := HT.out.st8 (.slice none 0 0) (.slice none 0 0) (.bool false) (.int .i64 0) (.int .i64 0) (.int .i64 0) (.int .i64 0) (.slice none 0 0)
      obtain ⟨Z', hZ', hN', hq'⟩ := hN.st4 (.slice X1 X2 X3) (.slice X4 X5 X6) (.bool d.dead) (.int .i64 d.left)
      have hfv := hq' _ _ (hq _ _ (zero_vault _))
      have HFV := Lib.hid (hfv.below (Below.refl _ _).drew)
      have HFN := Lib.hid (hN'.more (Below.refl _ _).drew)
      have HZ8 := Lib.hid (box8 (W := Z'.drew) hN'.zv)
      have HZ4 := Lib.hid (box4 (W := Z'.drew) hN'.zd)
      have HQ := Lib.hid hZ
      have HQ' := Lib.hid hZ'
      obtain ⟨⟨p0, p1, p2, p3⟩, _⟩ := box4 HT.out.dk
      have t0 := HT.out.sh.c0
      have t1 := HT.out.sh.c1
      have hzv := HT.out.zv
      have hzd := HT.out.zd
      unfold Z8 at hzv
      unfold Z4 at hzd
      obtain ⟨⟨z0, z1, z2, z3, z4, z5, z6, z7⟩, zf⟩ := box8 hzv
      obtain ⟨⟨r0, r1, r2, r3⟩, g0, g1, g2, g3⟩ := box4 hzd
      clear hZ hN hq hZ' hN' hq' hzv hzd hfv
      go_wp2_with fail
      go_region
      rw [HQ.out, HQ'.out]
      clear p0 p1 p2 p3 t0 t1 z0 z1 z2 z3 z4 z5 z6 z7 zf r0 r1 r2 r3 g0 g1 g2 g3
      go_wp2_with fail
      obtain ⟨⟨q0, q1, q2, q3, q4, q5, q6, q7⟩, _⟩ := HZ8.out
      obtain ⟨⟨s0, s1, s2, s3⟩, _⟩ := HZ4.out
      exact bodyPost_ret (v := .tuple #[.agg #[.slice none 0 0, .slice none 0 0, .bool false, .int .i64 0, .int .i64 0, .int .i64 0, .int .i64 0, .slice none 0 0], .agg #[.slice X1 X2 X3, .slice X4 X5 X6, .bool d.dead, .int .i64 d.left], .int .i64 14]) (by simp [results, Tryz.results41, go_sem, q0, q1, q2, q3, q4, q5, q6, q7, s0, s1, s2, s3]) rfl ⟨_, _, by rw [HO.out], by rw [HO.out]; exact HFV.out, by rw [HO.out]; exact HFN.out.isd, HFN.out.below⟩
  obtain ⟨hk0, hk2⟩ := hk
  have hk1 : ((X2 : Int) != N) = false := by simpa using hk2
  obtain ⟨g1, g2, g3⟩ := HGD.out hk0 hk2
  subst hk0
  have hxr : rightS x = true := by rw [g3]; exact (Go.Proofs.YtnbbijpmkhdgpaaGreat.is_right g2.1).1
  obtain ⟨a, b, c, e', f, g'⟩ := right_nat hxr
  obtain ⟨J, hJ⟩ : ∃ J, J = JN x := ⟨_, rfl⟩
  have hxj : x.journal = (J : Nat) := by rw [hJ]; exact b
  have hJ2 : J ≤ 256 := by omega
  have hJt : x.journal.toNat = J := by omega
  obtain ⟨m, hm⟩ : ∃ m, m = mostF (secK d) J := ⟨_, rfl⟩
  obtain ⟨l, hl⟩ : ∃ l, l = jl x.pages J (secK d) := ⟨_, rfl⟩
  have hmhi : m ≤ 2147483647 := by rw [hm]; exact most_hi _ _
  have hm0 : 0 ≤ m := by rw [hm]; exact most_nn _ _
  have hlok := jl_ok x.pages J (secK d)
  rw [← hl] at hlok
  have hll : l.length ≤ 256 := by
    by_cases hw : ∃ k, Whole x.pages J (secK d) k
    · obtain ⟨k, hk⟩ := hw
      rw [hl, jl_is hk]
      have := hk.seq0.1
      omega
    · rw [hl, jl_none fun k hk => hw ⟨k, hk⟩]
      exact Nat.zero_le _
  have CJ := fun v W (h : IsDisk W v d) => rjournal_calls v d x W h HP.out HNN.out (by omega) J hxj hJ2
  rw [← hm, ← hl] at CJ
  unfold shV at CJ
  have CJ := Lib.hid CJ
  have HLL := Lib.hid hll
  have HLOK := Lib.hid hlok
  have HM14 := Lib.hid (fun (h : 2147483647 ≤ m) => open_14 (x := x) g1 g2 g3 (by rw [hJt, ← hm]; exact h))
  have HO0 := Lib.hid (fun (h : ¬ 2147483647 ≤ m) (h2 : l = []) => open_0 (x := x) g1 g2 g3 (by rw [hJt, ← hm]; exact h) (by rw [hJt, ← hl]; exact h2))
  have HO1 := Lib.hid (fun (h : ¬ 2147483647 ≤ m) (h2 : l ≠ []) (D : DK) (E : Int) => open_1 (x := x) (l := l) (D := D) (E := E) g1 g2 g3 (by rw [hJt, ← hm]; exact h) (by rw [hJt, ← hl]) h2)
  rw [hJt, ← hm] at HO0 HO1
  clear HO14 HGD hk2 g1 g2 g3 hxr a b c e' f g' hJ hxj hJ2 hJt hm hl hlok hll
  have q := fun dd os => HT.out.more (below_regrown Y3 dd os)
  have p0 := fun dd os => (q dd os).cells.1.1
  have t0 := fun dd os => (q dd os).cells.2.1
  have t1 := fun dd os => (q dd os).cells.2.2
  have D1 := Lib.hid (rg CZ.out Y3)
  clear q
  refine wp_region_quiet_below (by kernel_rfl) (by kernel_rfl) ?_
  (try simp only [List.append_eq, List.cons_append, List.nil_append])
  repeat (first | go_big_quiet_step (first | (with_reducible exact D1.out _ _)) | quiet_step (first | (with_reducible exact D1.out _ _)))
  refine wpQuiet_nil ?_
  intro _ hw'
  obtain ⟨⟨dq, osq⟩, hw''⟩ := hw'
  subst hw''
  have HT4 := Lib.hid (HT.out.more (below_regrown Y3 dq osq))
  generalize grow (redrawn Y3 dq) osq = W1 at *
  clear p0 t0 t1 D1 HT
  have HT := Lib.hid HT4.out
  clear HT4
  obtain ⟨⟨p0, p1, p2, p3⟩, t0, t1⟩ := HT.out.cells
  go_wp2_with fail
  (with_reducible refine (CJ.out _ _ HT.out.isd).mono ?_)
  rintro e w3 ⟨vl, rfl, hvl, hB3⟩
  obtain ⟨L1, n, L3, rfl, hn, _, _⟩ := hvl.open_
  have HT2 := Lib.hid (HT.out.more hB3)
  have HVL := Lib.hid hvl
  have HN := Lib.hid hn
  clear hB3 hvl hn p0 p1 p2 p3 t0 t1 HT CJ
  have HT := Lib.hid HT2.out
  clear HT2
  by_cases hmx : 2147483647 ≤ m
  · have HO := Lib.hid (HM14.out hmx)
    have hm14 : m = 2147483647 := by omega
    clear HM14 HO0 HO1 hmx
    subst hm14
    obtain ⟨Z, hZ, hN, hq⟩ := HT.out.st8 (.slice none 0 0) (.slice none 0 0) (.bool false) (.int .i64 0) (.int .i64 0) (.int .i64 0) (.int .i64 0) (.slice none 0 0)
    obtain ⟨Z', hZ', hN', hq'⟩ := hN.st4 (.slice X1 X2 X3) (.slice X4 X5 X6) (.bool d.dead) (.int .i64 d.left)
    have hfv := hq' _ _ (hq _ _ (zero_vault _))
    have HFV := Lib.hid (hfv.below (Below.refl _ _).drew)
    have HFN := Lib.hid (hN'.more (Below.refl _ _).drew)
    have HZ8 := Lib.hid (box8 (W := Z'.drew) hN'.zv)
    have HZ4 := Lib.hid (box4 (W := Z'.drew) hN'.zd)
    have HQ := Lib.hid hZ
    have HQ' := Lib.hid hZ'
    obtain ⟨⟨p0, p1, p2, p3⟩, _⟩ := box4 HT.out.dk
    have t0 := HT.out.sh.c0
    have t1 := HT.out.sh.c1
    have hzv := HT.out.zv
    have hzd := HT.out.zd
    unfold Z8 at hzv
    unfold Z4 at hzd
    obtain ⟨⟨z0, z1, z2, z3, z4, z5, z6, z7⟩, zf⟩ := box8 hzv
    obtain ⟨⟨r0, r1, r2, r3⟩, g0, g1, g2, g3⟩ := box4 hzd
    clear hZ hN hq hZ' hN' hq' hzv hzd hfv
    go_wp2_with fail
    go_region
    rw [HQ.out, HQ'.out]
    clear p0 p1 p2 p3 t0 t1 z0 z1 z2 z3 z4 z5 z6 z7 zf r0 r1 r2 r3 g0 g1 g2 g3
    go_wp2_with fail
    obtain ⟨⟨q0, q1, q2, q3, q4, q5, q6, q7⟩, _⟩ := HZ8.out
    obtain ⟨⟨s0, s1, s2, s3⟩, _⟩ := HZ4.out
    exact bodyPost_ret (v := .tuple #[.agg #[.slice none 0 0, .slice none 0 0, .bool false, .int .i64 0, .int .i64 0, .int .i64 0, .int .i64 0, .slice none 0 0], .agg #[.slice X1 X2 X3, .slice X4 X5 X6, .bool d.dead, .int .i64 d.left], .int .i64 14]) (by simp [results, Tryz.results41, go_sem, q0, q1, q2, q3, q4, q5, q6, q7, s0, s1, s2, s3]) rfl ⟨_, _, by rw [HO.out], by rw [HO.out]; exact HFV.out, by rw [HO.out]; exact HFN.out.isd, HFN.out.below⟩
  have hmx2 : ¬ m ≥ 2147483647 := hmx
  have hm3 : m + 1 ≤ 2147483647 := by omega
  have HMX := Lib.hid hmx
  clear HM14
  by_cases hn0 : n = 0
  · subst hn0
    have HO := Lib.hid (HO0.out (by omega) (List.eq_nil_of_length_eq_zero HN.out.symm))
    have hwrp : IntKind.i64.wrap (m + 1) = m + 1 := by rw [IntKind.wrap_i64]; omega
    clear HO0 HO1
    obtain ⟨Z, hZ, hN, hq⟩ := HT.out.st8 (.slice X1 X2 X3) (.slice X4 X5 X6) (.bool d.dead) (.int .i64 d.left) (.int .i64 x.pages) (.int .i64 x.journal) (.int .i64 (m + 1)) (.slice none 0 0)
    obtain ⟨Z', hZ', hN', hq'⟩ := hN.st4 (.slice X1 X2 X3) (.slice X4 X5 X6) (.bool d.dead) (.int .i64 d.left)
    have hfv := hq' _ _ (hq _ _ (show IsVault _ _ ⟨d, x, m + 1, []⟩ from ⟨_, _, _, rfl, HT.out.isd, IsLfs.nil _⟩))
    have HFV := Lib.hid (hfv.below (Below.refl _ _).drew)
    have HFN := Lib.hid (hN'.more (Below.refl _ _).drew)
    have HZ8 := Lib.hid (box8 (W := Z'.drew) hN'.zv)
    have HZ4 := Lib.hid (box4 (W := Z'.drew) hN'.zd)
    have HQ := Lib.hid hZ
    have HQ' := Lib.hid hZ'
    obtain ⟨⟨p0, p1, p2, p3⟩, _⟩ := box4 HT.out.dk
    have t0 := HT.out.sh.c0
    have t1 := HT.out.sh.c1
    have hzv := HT.out.zv
    have hzd := HT.out.zd
    unfold Z8 at hzv
    unfold Z4 at hzd
    obtain ⟨⟨z0, z1, z2, z3, z4, z5, z6, z7⟩, zf⟩ := box8 hzv
    obtain ⟨⟨r0, r1, r2, r3⟩, g0, g1, g2, g3⟩ := box4 hzd
    clear hZ hN hq hZ' hN' hq' hzv hzd hfv
    go_wp2_with fail
    go_region
    rw [HQ.out, HQ'.out]
    clear p0 p1 p2 p3 t0 t1 z0 z1 z2 z3 z4 z5 z6 z7 zf r0 r1 r2 r3 g0 g1 g2 g3
    go_wp2_with fail
    obtain ⟨⟨q0, q1, q2, q3, q4, q5, q6, q7⟩, _⟩ := HZ8.out
    obtain ⟨⟨s0, s1, s2, s3⟩, _⟩ := HZ4.out
    exact bodyPost_ret (v := .tuple #[.agg #[.slice X1 X2 X3, .slice X4 X5 X6, .bool d.dead, .int .i64 d.left, .int .i64 x.pages, .int .i64 x.journal, .int .i64 (m + 1), .slice none 0 0], .agg #[.slice X1 X2 X3, .slice X4 X5 X6, .bool d.dead, .int .i64 d.left], .int .i64 0]) (by simp [results, Tryz.results41, go_sem, q0, q1, q2, q3, q4, q5, q6, q7, s0, s1, s2, s3]) rfl ⟨_, _, by rw [HO.out], by rw [HO.out]; exact HFV.out, by rw [HO.out]; exact HFN.out.isd, HFN.out.below⟩
  have hnp : (n : Int) > 0 := by omega
  have hnq : 0 < n := by omega
  have hl0 : l ≠ [] := fun e => hn0 (by rw [HN.out, e]; rfl)
  obtain ⟨⟨D, E⟩, he⟩ : ∃ r, wfF d (homeW x l) = r := ⟨_, rfl⟩
  have HOE := Lib.hid (HO1.out (by omega) hl0 D E he)
  have CH := fun v W (h : IsDisk W v d) (hv : IsLfs W (.slice L1 n L3) l) => rhome_calls v (.slice L1 n L3) d x l W h HP.out HNN.out (by have := HLL.out; omega) hv (fun q hq => by have := HLOK.out.len q hq; omega)
  rw [he] at CH
  unfold shV at CH
  have CH := Lib.hid CH
  clear HO0 HO1 hl0 he
  obtain ⟨⟨p0, p1, p2, p3⟩, t0, t1⟩ := HT.out.cells
  go_wp2_with fail
  (with_reducible refine (CH.out _ _ HT.out.isd HVL.out).mono ?_)
  rintro e w4 ⟨u, rfl, hu, hB4⟩
  obtain ⟨U1, U2, U3, U4, U5, U6, rfl⟩ := hu.parts
  have HT2 := Lib.hid (HT.out.more hB4)
  obtain ⟨X, hX, hN⟩ := HT2.out.put hu
  have HX := Lib.hid hX
  have HC := Lib.hid hN
  clear hB4 hu hX hN p0 p1 p2 p3 t0 t1 HT HVL CH
  obtain ⟨⟨p0, p1, p2, p3⟩, f0, f1, f2, f3⟩ := box4 HT2.out.dk
  go_upto_region 12 with (fail)
  rw [HX.out]
  clear p0 p1 p2 p3 f0 f1 f2 f3 HX HT2
  have HT := Lib.hid HC.out
  clear HC
  by_cases hE : E = 0
  rotate_left
  · have hE1 : (E == 0) = false := by simpa using hE
    have hE2 : (E != 0) = true := by simpa using hE
    rw [if_pos hE] at HOE
    have HO := Lib.hid HOE.out
    clear HOE hE
    obtain ⟨Z, hZ, hN, hq⟩ := HT.out.st8 (.slice none 0 0) (.slice none 0 0) (.bool false) (.int .i64 0) (.int .i64 0) (.int .i64 0) (.int .i64 0) (.slice none 0 0)
    obtain ⟨Z', hZ', hN', hq'⟩ := hN.st4 (.slice U1 U2 U3) (.slice U4 U5 U6) (.bool D.dead) (.int .i64 D.left)
    have hfv := hq' _ _ (hq _ _ (zero_vault _))
    have HFV := Lib.hid (hfv.below (Below.refl _ _).drew)
    have HFN := Lib.hid (hN'.more (Below.refl _ _).drew)
    have HZ8 := Lib.hid (box8 (W := Z'.drew) hN'.zv)
    have HZ4 := Lib.hid (box4 (W := Z'.drew) hN'.zd)
    have HQ := Lib.hid hZ
    have HQ' := Lib.hid hZ'
    obtain ⟨⟨p0, p1, p2, p3⟩, _⟩ := box4 HT.out.dk
    have t0 := HT.out.sh.c0
    have t1 := HT.out.sh.c1
    have hzv := HT.out.zv
    have hzd := HT.out.zd
    unfold Z8 at hzv
    unfold Z4 at hzd
    obtain ⟨⟨z0, z1, z2, z3, z4, z5, z6, z7⟩, zf⟩ := box8 hzv
    obtain ⟨⟨r0, r1, r2, r3⟩, g0, g1, g2, g3⟩ := box4 hzd
    clear hZ hN hq hZ' hN' hq' hzv hzd hfv
    go_wp2_with fail
    go_region
    rw [HQ.out, HQ'.out]
    clear p0 p1 p2 p3 t0 t1 z0 z1 z2 z3 z4 z5 z6 z7 zf r0 r1 r2 r3 g0 g1 g2 g3
    go_wp2_with fail
    obtain ⟨⟨q0, q1, q2, q3, q4, q5, q6, q7⟩, _⟩ := HZ8.out
    obtain ⟨⟨s0, s1, s2, s3⟩, _⟩ := HZ4.out
    exact bodyPost_ret (v := .tuple #[.agg #[.slice none 0 0, .slice none 0 0, .bool false, .int .i64 0, .int .i64 0, .int .i64 0, .int .i64 0, .slice none 0 0], .agg #[.slice U1 U2 U3, .slice U4 U5 U6, .bool D.dead, .int .i64 D.left], .int .i64 E]) (by simp [results, Tryz.results41, go_sem, q0, q1, q2, q3, q4, q5, q6, q7, s0, s1, s2, s3]) rfl ⟨_, _, by rw [HO.out], by rw [HO.out]; exact HFV.out, by rw [HO.out]; exact HFN.out.isd, HFN.out.below⟩
  · subst hE
    rw [if_neg (by simp)] at HOE
    have HO := Lib.hid HOE.out
    have hwrp : IntKind.i64.wrap (m + 1) = m + 1 := by rw [IntKind.wrap_i64]; omega
    clear HOE
    obtain ⟨Z, hZ, hN, hq⟩ := HT.out.st8 (.slice U1 U2 U3) (.slice U4 U5 U6) (.bool D.dead) (.int .i64 D.left) (.int .i64 x.pages) (.int .i64 x.journal) (.int .i64 (m + 1)) (.slice none 0 0)
    obtain ⟨Z', hZ', hN', hq'⟩ := hN.st4 (.slice U1 U2 U3) (.slice U4 U5 U6) (.bool D.dead) (.int .i64 D.left)
    have hfv := hq' _ _ (hq _ _ (show IsVault _ _ ⟨D, x, m + 1, []⟩ from ⟨_, _, _, rfl, HT.out.isd, IsLfs.nil _⟩))
    have HFV := Lib.hid (hfv.below (Below.refl _ _).drew)
    have HFN := Lib.hid (hN'.more (Below.refl _ _).drew)
    have HZ8 := Lib.hid (box8 (W := Z'.drew) hN'.zv)
    have HZ4 := Lib.hid (box4 (W := Z'.drew) hN'.zd)
    have HQ := Lib.hid hZ
    have HQ' := Lib.hid hZ'
    obtain ⟨⟨p0, p1, p2, p3⟩, _⟩ := box4 HT.out.dk
    have t0 := HT.out.sh.c0
    have t1 := HT.out.sh.c1
    have hzv := HT.out.zv
    have hzd := HT.out.zd
    unfold Z8 at hzv
    unfold Z4 at hzd
    obtain ⟨⟨z0, z1, z2, z3, z4, z5, z6, z7⟩, zf⟩ := box8 hzv
    obtain ⟨⟨r0, r1, r2, r3⟩, g0, g1, g2, g3⟩ := box4 hzd
    clear hZ hN hq hZ' hN' hq' hzv hzd hfv
    go_wp2_with fail
    go_region
    rw [HQ.out, HQ'.out]
    clear p0 p1 p2 p3 t0 t1 z0 z1 z2 z3 z4 z5 z6 z7 zf r0 r1 r2 r3 g0 g1 g2 g3
    go_wp2_with fail
    obtain ⟨⟨q0, q1, q2, q3, q4, q5, q6, q7⟩, _⟩ := HZ8.out
    obtain ⟨⟨s0, s1, s2, s3⟩, _⟩ := HZ4.out
    exact bodyPost_ret (v := .tuple #[.agg #[.slice U1 U2 U3, .slice U4 U5 U6, .bool D.dead, .int .i64 D.left, .int .i64 x.pages, .int .i64 x.journal, .int .i64 (m + 1), .slice none 0 0], .agg #[.slice U1 U2 U3, .slice U4 U5 U6, .bool D.dead, .int .i64 D.left], .int .i64 0]) (by simp [results, Tryz.results41, go_sem, q0, q1, q2, q3, q4, q5, q6, q7, s0, s1, s2, s3]) rfl ⟨_, _, by rw [HO.out], by rw [HO.out]; exact HFV.out, by rw [HO.out]; exact HFN.out.isd, HFN.out.below⟩

end Go.Proofs.YtnbbijpmkhdgpaaGreat.Vlt

/- RAsk -/
namespace Go.Proofs.YtnbbijpmkhdgpaaGreat.Vlt
open Go.RowKit Go.Sort
open Dsk

set_option maxRecDepth 100000 in
set_option maxHeartbeats 16000000 in
theorem ask_calls (v : Value) (k : VK) (a : AK) (w : World) (hv : IsVault w v k) (hk : VOk k) (ha : a.stay < 18446744073709551616 ∧ a.place ≤ 9223372036854775807) :
    Calls Tryz.prog 15 #[v, a.v] w fun e w' => ∃ v', e = .returned (.tuple #[v', .string (strB (doesV k a).2.1), .int .i64 (doesV k a).2.2]) ∧ IsVault w' v' (doesV k a).1 ∧ Below w.heap.size w w' := by
  obtain ⟨nn, ii, hpl, hnn, hii⟩ := hk.pl
  obtain ⟨A1, A2, A3, A4, A5, A6, A7, A8, A9, rfl⟩ := vault_parts hv
  obtain ⟨h1, h2⟩ := vault_open hv
  obtain ⟨Y, hY, hB⟩ := LB.new w a h1 h2
  have HY := Lib.hid hY
  have HT := Lib.hid hB
  have HPL := Lib.hid hpl
  have HNN := Lib.hid hnn
  have HII := Lib.hid hii
  have HK := Lib.hid hk
  have HA := Lib.hid ha
  unfold AK.v
  have hdl := dataL_is a
  obtain ⟨L, hL⟩ : ∃ L, L = dataL a := ⟨_, rfl⟩
  rw [← hL] at hdl
  have HL := Lib.hid hL
  obtain ⟨kind, place, data, stay⟩ := a
  dsimp only at hdl
  subst hdl
  dsimp only at HY ⊢
  clear hY hB h1 h2 hv hk ha hpl hnn hii hL
  by_cases c0 : kind = 0
  · subst c0
    obtain ⟨K, hK⟩ : ∃ K, K = (writeV k place L).1 := ⟨_, rfl⟩
    obtain ⟨E, hE⟩ : ∃ E, E = (writeV k place L).2 := ⟨_, rfl⟩
    have HO : Hid (doesV k ⟨0, place, strB L, stay⟩ = (K, [], E)) := Lib.hid (by unfold doesV; rw [if_pos rfl, show dataL ⟨0, place, strB L, stay⟩ = L from strB_data L, ← hK, ← hE])
    have CW := Lib.hid (fun v W (h : IsVault W v k) => rwrite_calls v k place L W h HK.out.good HK.out.rise)
    rw [← hK, ← hE] at CW
    clear hK hE HK HL HA HPL HNN HII
    go_enter Tryz.func15, Tryz.ntmps15
    go_upto_region 1 with (fail)
    rw [← HY.out]
    clear HY
    obtain ⟨i0, i1, i2, i3, i4, i5, i6, i7⟩ := HT.out.vb.at_
    obtain ⟨t0, t1, t2, t3⟩ := HT.out.act
    dsimp only at t0 t1 t2 t3
    go_wp2_with fail
    (with_reducible refine (CW.out _ _ HT.out.vault).mono ?_)
    rintro e wa ⟨u, rfl, hu, hBa⟩
    obtain ⟨U1, U2, U3, U4, U5, U6, U7, U8, U9, rfl⟩ := vault_parts hu
    have HV := Lib.hid hu
    have HTA := Lib.hid (HT.out.more hBa)
    clear hu hBa HT
    have HT := Lib.hid HTA.out
    clear HTA i0 i1 i2 i3 i4 i5 i6 i7 t0 t1 t2 t3
    obtain ⟨i0, i1, i2, i3, i4, i5, i6, i7⟩ := HT.out.vb.at_
    obtain ⟨t0, t1, t2, t3⟩ := HT.out.act
    dsimp only at t0 t1 t2 t3
    have kf := HT.out.vb.free
    obtain ⟨X1, hX1, hl1⟩ := HT.out.put HV.out
    have HX1 := Lib.hid hX1
    have HT1 := Lib.hid hl1
    clear hX1 hl1
    go_upto_region 17 with (fail)
    rw [HX1.out]
    clear i0 i1 i2 i3 i4 i5 i6 i7 t0 t1 t2 t3 kf HX1 HT HV
    have HT := Lib.hid HT1.out
    clear HT1
    obtain ⟨i0, i1, i2, i3, i4, i5, i6, i7⟩ := HT.out.vb.at_
    obtain ⟨X, hX, f1, f2, f3⟩ := HT.out.fin
    obtain ⟨⟨z0, z1, z2, z3, z4, z5, z6, z7⟩, zf⟩ := box8 HT.out.zb
    have HX := Lib.hid hX
    have HF := Lib.hid (And.intro f1 f2)
    have HBX := Lib.hid (box8 f3)
    (try dsimp only at i0 i1 i2 i3 i4 i5 i6 i7)
    (try dsimp only at HX HF HBX)
    clear hX f1 f2 f3
    go_wp2_with fail
    rw [HX.out]
    clear i0 i1 i2 i3 i4 i5 i6 i7 z0 z1 z2 z3 z4 z5 z6 z7 zf
    obtain ⟨⟨z0, z1, z2, z3, z4, z5, z6, z7⟩, _⟩ := HBX.out
    exact bodyPost_ret (v := .tuple #[.agg #[.slice U1 U2 U3, .slice U4 U5 U6, .bool K.disk.dead, .int .i64 K.disk.left, .int .i64 K.shape.pages, .int .i64 K.shape.journal, .int .i64 K.seq, .slice U7 U8 U9], .string ⟨#[]⟩, .int .i64 E]) (by simp [results, Tryz.results15, go_sem, z0, z1, z2, z3, z4, z5, z6, z7]) rfl ⟨_, by first | (rw [HO.out]; done) | (rw [HO.out]; rfl), by rw [HO.out]; exact HF.out.1, HF.out.2⟩
  by_cases c1 : kind = 1
  · subst c1
    obtain ⟨S, hS⟩ : ∃ S, S = (readV k place).1 := ⟨_, rfl⟩
    obtain ⟨E, hE⟩ : ∃ E, E = (readV k place).2 := ⟨_, rfl⟩
    have HO : Hid (doesV k ⟨1, place, strB L, stay⟩ = (k, S, E)) := Lib.hid (by unfold doesV; rw [if_neg (by simp), if_pos rfl, hS, hE])
    have CW := Lib.hid (fun v W (h : IsVault W v k) => rread_calls v k place W h HK.out.good)
    rw [← hS, ← hE] at CW
    clear hS hE HK HL HA HPL HNN HII c0
    go_enter Tryz.func15, Tryz.ntmps15
    go_upto_region 1 with (fail)
    rw [← HY.out]
    clear HY
    obtain ⟨i0, i1, i2, i3, i4, i5, i6, i7⟩ := HT.out.vb.at_
    obtain ⟨t0, t1, t2, t3⟩ := HT.out.act
    dsimp only at t0 t1 t2 t3
    go_wp2_with fail
    (with_reducible refine (CW.out _ _ HT.out.vault).mono ?_)
    rintro e wa ⟨rfl, hBa⟩
    have HTA := Lib.hid (HT.out.more hBa)
    clear hBa HT
    have HT := Lib.hid HTA.out
    clear HTA i0 i1 i2 i3 i4 i5 i6 i7 t0 t1 t2 t3
    obtain ⟨i0, i1, i2, i3, i4, i5, i6, i7⟩ := HT.out.vb.at_
    obtain ⟨t0, t1, t2, t3⟩ := HT.out.act
    dsimp only at t0 t1 t2 t3
    obtain ⟨X, hX, f1, f2, f3⟩ := HT.out.fin
    obtain ⟨⟨z0, z1, z2, z3, z4, z5, z6, z7⟩, zf⟩ := box8 HT.out.zb
    have HX := Lib.hid hX
    have HF := Lib.hid (And.intro f1 f2)
    have HBX := Lib.hid (box8 f3)
    (try dsimp only at i0 i1 i2 i3 i4 i5 i6 i7)
    (try dsimp only at HX HF HBX)
    clear hX f1 f2 f3
    go_wp2_with fail
    rw [HX.out]
    clear i0 i1 i2 i3 i4 i5 i6 i7 z0 z1 z2 z3 z4 z5 z6 z7 zf
    obtain ⟨⟨z0, z1, z2, z3, z4, z5, z6, z7⟩, _⟩ := HBX.out
    exact bodyPost_ret (v := .tuple #[.agg #[.slice A1 A2 A3, .slice A4 A5 A6, .bool k.disk.dead, .int .i64 k.disk.left, .int .i64 k.shape.pages, .int .i64 k.shape.journal, .int .i64 k.seq, .slice A7 A8 A9], .string (strB S), .int .i64 E]) (by simp [results, Tryz.results15, go_sem, z0, z1, z2, z3, z4, z5, z6, z7]) rfl ⟨_, by first | (rw [HO.out]; done) | (rw [HO.out]; rfl), by rw [HO.out]; exact HF.out.1, HF.out.2⟩
  by_cases c2 : kind = 2
  · subst c2
    obtain ⟨K, hK⟩ : ∃ K, K = (commitV k).1 := ⟨_, rfl⟩
    obtain ⟨E, hE⟩ : ∃ E, E = (commitV k).2 := ⟨_, rfl⟩
    have HO : Hid (doesV k ⟨2, place, strB L, stay⟩ = (K, [], E)) := Lib.hid (by unfold doesV; rw [if_neg (by simp), if_neg (by simp), if_pos rfl, hK, hE])
    have CW := Lib.hid (fun v W (h : IsVault W v k) => rcommit_calls v k W h HPL.out HNN.out (by have := HII.out; have := HK.out.dirty; omega) HK.out.data HK.out.seq0 HK.out.seq1)
    rw [← hK, ← hE] at CW
    clear hK hE HK HL HA HPL HNN HII c0 c1
    go_enter Tryz.func15, Tryz.ntmps15
    go_upto_region 1 with (fail)
    rw [← HY.out]
    clear HY
    obtain ⟨i0, i1, i2, i3, i4, i5, i6, i7⟩ := HT.out.vb.at_
    obtain ⟨t0, t1, t2, t3⟩ := HT.out.act
    dsimp only at t0 t1 t2 t3
    go_wp2_with fail
    (with_reducible refine (CW.out _ _ HT.out.vault).mono ?_)
    rintro e wa ⟨u, rfl, hu, hBa⟩
    obtain ⟨U1, U2, U3, U4, U5, U6, U7, U8, U9, rfl⟩ := vault_parts hu
    have HV := Lib.hid hu
    have HTA := Lib.hid (HT.out.more hBa)
    clear hu hBa HT
    have HT := Lib.hid HTA.out
    clear HTA i0 i1 i2 i3 i4 i5 i6 i7 t0 t1 t2 t3
    obtain ⟨i0, i1, i2, i3, i4, i5, i6, i7⟩ := HT.out.vb.at_
    obtain ⟨t0, t1, t2, t3⟩ := HT.out.act
    dsimp only at t0 t1 t2 t3
    have kf := HT.out.vb.free
    obtain ⟨X1, hX1, hl1⟩ := HT.out.put HV.out
    have HX1 := Lib.hid hX1
    have HT1 := Lib.hid hl1
    clear hX1 hl1
    go_upto_region 17 with (fail)
    rw [HX1.out]
    clear i0 i1 i2 i3 i4 i5 i6 i7 t0 t1 t2 t3 kf HX1 HT HV
    have HT := Lib.hid HT1.out
    clear HT1
    obtain ⟨i0, i1, i2, i3, i4, i5, i6, i7⟩ := HT.out.vb.at_
    obtain ⟨X, hX, f1, f2, f3⟩ := HT.out.fin
    obtain ⟨⟨z0, z1, z2, z3, z4, z5, z6, z7⟩, zf⟩ := box8 HT.out.zb
    have HX := Lib.hid hX
    have HF := Lib.hid (And.intro f1 f2)
    have HBX := Lib.hid (box8 f3)
    (try dsimp only at i0 i1 i2 i3 i4 i5 i6 i7)
    (try dsimp only at HX HF HBX)
    clear hX f1 f2 f3
    go_wp2_with fail
    rw [HX.out]
    clear i0 i1 i2 i3 i4 i5 i6 i7 z0 z1 z2 z3 z4 z5 z6 z7 zf
    obtain ⟨⟨z0, z1, z2, z3, z4, z5, z6, z7⟩, _⟩ := HBX.out
    exact bodyPost_ret (v := .tuple #[.agg #[.slice U1 U2 U3, .slice U4 U5 U6, .bool K.disk.dead, .int .i64 K.disk.left, .int .i64 K.shape.pages, .int .i64 K.shape.journal, .int .i64 K.seq, .slice U7 U8 U9], .string ⟨#[]⟩, .int .i64 E]) (by simp [results, Tryz.results15, go_sem, z0, z1, z2, z3, z4, z5, z6, z7]) rfl ⟨_, by first | (rw [HO.out]; done) | (rw [HO.out]; rfl), by rw [HO.out]; exact HF.out.1, HF.out.2⟩
  by_cases c3 : kind = 3
  · subst c3
    obtain ⟨D, hD⟩ : ∃ D, D = ({ k.disk with left := max place (-1) } : DK) := ⟨_, rfl⟩
    have HO : Hid (doesV k ⟨3, place, strB L, stay⟩ = ({ k with disk := D }, [], 0)) := Lib.hid (by unfold doesV; rw [if_neg (by simp), if_neg (by simp), if_neg (by simp), if_pos rfl, hD])
    have CW := Lib.hid (fun v W (h : IsDisk W v k.disk) => rarm_calls v k.disk place W h)
    rw [← hD] at CW
    clear hD HK HL HA HPL HNN HII c0 c1 c2
    go_enter Tryz.func15, Tryz.ntmps15
    go_upto_region 1 with (fail)
    rw [← HY.out]
    clear HY
    obtain ⟨i0, i1, i2, i3, i4, i5, i6, i7⟩ := HT.out.vb.at_
    obtain ⟨t0, t1, t2, t3⟩ := HT.out.act
    dsimp only at t0 t1 t2 t3
    go_wp2_with fail
    (with_reducible refine (CW.out _ _ HT.out.ds).mono ?_)
    rintro e wa ⟨u, rfl, hu, hBa⟩
    obtain ⟨U1, U2, U3, U4, U5, U6, rfl⟩ := hu.parts
    have HV := Lib.hid hu
    have HTA := Lib.hid (HT.out.more hBa)
    clear hu hBa HT
    have HT := Lib.hid HTA.out
    clear HTA i0 i1 i2 i3 i4 i5 i6 i7 t0 t1 t2 t3
    obtain ⟨i0, i1, i2, i3, i4, i5, i6, i7⟩ := HT.out.vb.at_
    obtain ⟨t0, t1, t2, t3⟩ := HT.out.act
    dsimp only at t0 t1 t2 t3
    have kf := HT.out.vb.free
    obtain ⟨X1, hX1, hl1⟩ := HT.out.putD HV.out
    have HX1 := Lib.hid hX1
    have HT1 := Lib.hid hl1
    clear hX1 hl1
    go_upto_region 17 with (fail)
    rw [HX1.out]
    clear i0 i1 i2 i3 i4 i5 i6 i7 t0 t1 t2 t3 kf HX1 HT HV
    have HT := Lib.hid HT1.out
    clear HT1
    obtain ⟨i0, i1, i2, i3, i4, i5, i6, i7⟩ := HT.out.vb.at_
    obtain ⟨X, hX, f1, f2, f3⟩ := HT.out.fin
    obtain ⟨⟨z0, z1, z2, z3, z4, z5, z6, z7⟩, zf⟩ := box8 HT.out.zb
    have HX := Lib.hid hX
    have HF := Lib.hid (And.intro f1 f2)
    have HBX := Lib.hid (box8 f3)
    (try dsimp only at i0 i1 i2 i3 i4 i5 i6 i7)
    (try dsimp only at HX HF HBX)
    clear hX f1 f2 f3
    go_wp2_with fail
    rw [HX.out]
    clear i0 i1 i2 i3 i4 i5 i6 i7 z0 z1 z2 z3 z4 z5 z6 z7 zf
    obtain ⟨⟨z0, z1, z2, z3, z4, z5, z6, z7⟩, _⟩ := HBX.out
    exact bodyPost_ret (v := .tuple #[.agg #[.slice U1 U2 U3, .slice U4 U5 U6, .bool D.dead, .int .i64 D.left, .int .i64 k.shape.pages, .int .i64 k.shape.journal, .int .i64 k.seq, .slice A7 A8 A9], .string ⟨#[]⟩, .int .i64 0]) (by simp [results, Tryz.results15, go_sem, z0, z1, z2, z3, z4, z5, z6, z7]) rfl ⟨_, by first | (rw [HO.out]; done) | (rw [HO.out]; rfl), by rw [HO.out]; exact HF.out.1, HF.out.2⟩
  by_cases c4 : kind = 4
  · subst c4
    obtain ⟨D, hD⟩ : ∃ D, D = stD k.disk stay := ⟨_, rfl⟩
    have hpd : Pl nn 0 D := by rw [hD]; exact stD_pl HPL.out stay
    obtain ⟨K, hK⟩ : ∃ K, K = (openV D).1 := ⟨_, rfl⟩
    obtain ⟨F, hF⟩ : ∃ F, F = (openV D).2.1 := ⟨_, rfl⟩
    obtain ⟨E, hE⟩ : ∃ E, E = (openV D).2.2 := ⟨_, rfl⟩
    have HO : Hid (doesV k ⟨4, place, strB L, stay⟩ = (if E = 0 then K else { k with disk := F }, [], E)) := Lib.hid (by unfold doesV; rw [if_neg (by simp), if_neg (by simp), if_neg (by simp), if_neg (by simp), if_pos rfl, hK, hF, hE, hD])
    have CT := Lib.hid (fun v W (h : IsDisk W v k.disk) => rstart_calls v k.disk stay W h (HPL.out.ok HNN.out (by have := HII.out; omega)) HPL.out.inn HA.out.1)
    have CO := Lib.hid (fun v W (h : IsDisk W v D) => ropen_calls v D W h hpd HNN.out)
    rw [← hK, ← hF, ← hE] at CO
    rw [show (⟨settleF stay k.disk.wet k.disk.sure, [], false, -1⟩ : DK) = D from hD.symm] at CT
    clear hK hF hE hD hpd HK HL HA HPL HNN HII c0 c1 c2 c3
    go_enter Tryz.func15, Tryz.ntmps15
    go_upto_region 1 with (fail)
    rw [← HY.out]
    clear HY
    obtain ⟨i0, i1, i2, i3, i4, i5, i6, i7⟩ := HT.out.vb.at_
    obtain ⟨t0, t1, t2, t3⟩ := HT.out.act
    dsimp only at t0 t1 t2 t3
    go_wp2_with fail
    (with_reducible refine (CT.out _ _ HT.out.ds).mono ?_)
    rintro e wa ⟨u, rfl, hu, hBa⟩
    have HU := Lib.hid hu
    have HTA := Lib.hid (HT.out.more hBa)
    clear hu hBa HT i0 i1 i2 i3 i4 i5 i6 i7 t0 t1 t2 t3
    have HT := Lib.hid HTA.out
    clear HTA
    go_wp2_with fail
    (with_reducible refine (CO.out _ _ HU.out).mono ?_)
    rintro e wb ⟨u1, u2, rfl, hu1, hu2, hBb⟩
    obtain ⟨U1, U2, U3, U4, U5, U6, U7, U8, U9, rfl⟩ := vault_parts hu1
    obtain ⟨F1, F2, F3, F4, F5, F6, rfl⟩ := hu2.parts
    obtain ⟨Z1, hZ1⟩ : ∃ Z1, Z1 = wb.alloc (.cells #[.slice U1 U2 U3, .slice U4 U5 U6, .bool K.disk.dead, .int .i64 K.disk.left, .int .i64 K.shape.pages, .int .i64 K.shape.journal, .int .i64 K.seq, .slice U7 U8 U9] 33) := ⟨_, rfl⟩
    obtain ⟨Z2, hZ2⟩ : ∃ Z2, Z2 = Z1.alloc (.cells #[.slice F1 F2 F3, .slice F4 F5 F6, .bool F.dead, .int .i64 F.left] 28) := ⟨_, rfl⟩
    have b1 : Below wb.heap.size wb Z1 := by rw [hZ1]; exact below_one _ _
    have b2 : Below Z1.heap.size Z1 Z2 := by rw [hZ2]; exact below_one _ _
    have hs1 : Z1.heap.size = wb.heap.size + 1 := by rw [hZ1]; simp
    have hbb := Dsk.below_trans' b1 b2
    have hbx : VBox Z2 wb.heap.size (.slice U1 U2 U3) (.slice U4 U5 U6) (.slice U7 U8 U9) K := by
      refine VBox.below ?_ b2
      rw [hZ1]
      exact VBox.new wb _ _ _ K
    have hdx : Z2.heap[wb.heap.size + 1]? = some (.cells #[.slice F1 F2 F3, .slice F4 F5 F6, .bool F.dead, .int .i64 F.left] 28 (0, 0)) := by
      rw [← hs1, hZ2]
      exact heap_alloc_new Z1 _
    have HVB := Lib.hid hbx
    have HDB := Lib.hid hdx
    have HV1 := Lib.hid (hu1.below hbb)
    have HV2 := Lib.hid (hu2.below hbb)
    have HTA := Lib.hid ((HT.out.more hBb).more hbb)
    have HZ1 := Lib.hid hZ1
    have HZ2 := Lib.hid hZ2
    have HS1 := Lib.hid hs1
    obtain ⟨G, hG⟩ : ∃ G, G = wb.heap.size := ⟨_, rfl⟩
    rw [← hG] at HVB HDB HS1
    have HG := Lib.hid hG.symm
    clear hu1 hu2 hBb hZ1 hZ2 b1 b2 hs1 hbb hbx hdx hG HT HU
    have HT := Lib.hid HTA.out
    clear HTA
    go_upto_region 13 with (fail)
    first | rw [← HZ1.out, ← HZ2.out] | skip
    (try rw [HG.out])
    (try rw [HS1.out])
    obtain ⟨j0, j1, j2, j3, j4, j5, j6, j7⟩ := HVB.out.at_
    obtain ⟨⟨y0, y1, y2, y3⟩, _⟩ := box4 HDB.out
    obtain ⟨i0, i1, i2, i3, i4, i5, i6, i7⟩ := HT.out.vb.at_
    obtain ⟨t0, t1, t2, t3⟩ := HT.out.act
    dsimp only at t0 t1 t2 t3
    have kf := HT.out.vb.free
    by_cases hE0 : E = 0
    · subst hE0
      rw [if_pos rfl] at HO
      obtain ⟨X1, hX1, hl1⟩ := HT.out.put HV1.out
      have HX1 := Lib.hid hX1
      have HT1 := Lib.hid hl1
      clear hX1 hl1
      go_upto_region 17 with (fail)
      rw [HX1.out]
      clear i0 i1 i2 i3 i4 i5 i6 i7 t0 t1 t2 t3 kf HX1 HT j0 j1 j2 j3 j4 j5 j6 j7 y0 y1 y2 y3
      have HT := Lib.hid HT1.out
      clear HT1
      obtain ⟨i0, i1, i2, i3, i4, i5, i6, i7⟩ := HT.out.vb.at_
      obtain ⟨X, hX, f1, f2, f3⟩ := HT.out.fin
      obtain ⟨⟨z0, z1, z2, z3, z4, z5, z6, z7⟩, zf⟩ := box8 HT.out.zb
      have HX := Lib.hid hX
      have HF := Lib.hid (And.intro f1 f2)
      have HBX := Lib.hid (box8 f3)
      (try dsimp only at i0 i1 i2 i3 i4 i5 i6 i7)
      (try dsimp only at HX HF HBX)
      clear hX f1 f2 f3
      go_wp2_with fail
      rw [HX.out]
      clear i0 i1 i2 i3 i4 i5 i6 i7 z0 z1 z2 z3 z4 z5 z6 z7 zf
      obtain ⟨⟨z0, z1, z2, z3, z4, z5, z6, z7⟩, _⟩ := HBX.out
      exact bodyPost_ret (v := .tuple #[.agg #[.slice U1 U2 U3, .slice U4 U5 U6, .bool K.disk.dead, .int .i64 K.disk.left, .int .i64 K.shape.pages, .int .i64 K.shape.journal, .int .i64 K.seq, .slice U7 U8 U9], .string ⟨#[]⟩, .int .i64 0]) (by simp [results, Tryz.results15, go_sem, z0, z1, z2, z3, z4, z5, z6, z7]) rfl ⟨_, by first | (rw [HO.out]; done) | (rw [HO.out]; rfl), by rw [HO.out]; exact HF.out.1, HF.out.2⟩
    · have hEb : (E == 0) = false := by simpa using hE0
      rw [if_neg hE0] at HO
      obtain ⟨X1, hX1, hl1⟩ := HT.out.putD HV2.out
      have HX1 := Lib.hid hX1
      have HT1 := Lib.hid hl1
      clear hX1 hl1 hE0
      go_upto_region 17 with (fail)
      rw [HX1.out]
      clear i0 i1 i2 i3 i4 i5 i6 i7 t0 t1 t2 t3 kf HX1 HT j0 j1 j2 j3 j4 j5 j6 j7 y0 y1 y2 y3
      have HT := Lib.hid HT1.out
      clear HT1
      obtain ⟨i0, i1, i2, i3, i4, i5, i6, i7⟩ := HT.out.vb.at_
      obtain ⟨X, hX, f1, f2, f3⟩ := HT.out.fin
      obtain ⟨⟨z0, z1, z2, z3, z4, z5, z6, z7⟩, zf⟩ := box8 HT.out.zb
      have HX := Lib.hid hX
      have HF := Lib.hid (And.intro f1 f2)
      have HBX := Lib.hid (box8 f3)
      (try dsimp only at i0 i1 i2 i3 i4 i5 i6 i7)
      (try dsimp only at HX HF HBX)
      clear hX f1 f2 f3
      go_wp2_with fail
      rw [HX.out]
      clear i0 i1 i2 i3 i4 i5 i6 i7 z0 z1 z2 z3 z4 z5 z6 z7 zf
      obtain ⟨⟨z0, z1, z2, z3, z4, z5, z6, z7⟩, _⟩ := HBX.out
      exact bodyPost_ret (v := .tuple #[.agg #[.slice F1 F2 F3, .slice F4 F5 F6, .bool F.dead, .int .i64 F.left, .int .i64 k.shape.pages, .int .i64 k.shape.journal, .int .i64 k.seq, .slice A7 A8 A9], .string ⟨#[]⟩, .int .i64 E]) (by simp [results, Tryz.results15, go_sem, z0, z1, z2, z3, z4, z5, z6, z7]) rfl ⟨_, by first | (rw [HO.out]; done) | (rw [HO.out]; rfl), by rw [HO.out]; exact HF.out.1, HF.out.2⟩
  · have HO : Hid (doesV k ⟨kind, place, strB L, stay⟩ = (k, [], 0)) := Lib.hid (by unfold doesV; rw [if_neg c0, if_neg c1, if_neg c2, if_neg c3, if_neg c4])
    have b0 : (kind == 0) = false := by simpa using c0
    have b1 : (kind == 1) = false := by simpa using c1
    have b2 : (kind == 2) = false := by simpa using c2
    have b3 : (kind == 3) = false := by simpa using c3
    have b4 : (kind == 4) = false := by simpa using c4
    clear HK HL HA HPL HNN HII
    go_enter Tryz.func15, Tryz.ntmps15
    go_upto_region 1 with (fail)
    rw [← HY.out]
    clear HY
    obtain ⟨i0, i1, i2, i3, i4, i5, i6, i7⟩ := HT.out.vb.at_
    obtain ⟨t0, t1, t2, t3⟩ := HT.out.act
    dsimp only at t0 t1 t2 t3
    obtain ⟨X, hX, f1, f2, f3⟩ := HT.out.fin
    obtain ⟨⟨z0, z1, z2, z3, z4, z5, z6, z7⟩, zf⟩ := box8 HT.out.zb
    have HX := Lib.hid hX
    have HF := Lib.hid (And.intro f1 f2)
    have HBX := Lib.hid (box8 f3)
    (try dsimp only at i0 i1 i2 i3 i4 i5 i6 i7)
    (try dsimp only at HX HF HBX)
    clear hX f1 f2 f3
    go_wp2_with fail
    rw [HX.out]
    clear i0 i1 i2 i3 i4 i5 i6 i7 z0 z1 z2 z3 z4 z5 z6 z7 zf
    obtain ⟨⟨z0, z1, z2, z3, z4, z5, z6, z7⟩, _⟩ := HBX.out
    exact bodyPost_ret (v := .tuple #[.agg #[.slice A1 A2 A3, .slice A4 A5 A6, .bool k.disk.dead, .int .i64 k.disk.left, .int .i64 k.shape.pages, .int .i64 k.shape.journal, .int .i64 k.seq, .slice A7 A8 A9], .string ⟨#[]⟩, .int .i64 0]) (by simp [results, Tryz.results15, go_sem, z0, z1, z2, z3, z4, z5, z6, z7]) rfl ⟨_, by first | (rw [HO.out]; done) | (rw [HO.out]; rfl), by rw [HO.out]; exact HF.out.1, HF.out.2⟩

end Go.Proofs.YtnbbijpmkhdgpaaGreat.Vlt

/- LPlays -/
namespace Go.Proofs.YtnbbijpmkhdgpaaGreat.Vlt
open Go.RowKit Go.Sort
open Dsk

/-- What is known of a vault behind any deeds. -/
theorem plays_does {x : Sh} {m : Int} {v : VK} (hx : rightS x = true) (h : BInv x (PN x) m v) (h0 : 1 ≤ m) (hm : m < 2147483647) (a : AK) (ha : a.stay < 18446744073709551616 ∧ a.place ≤ 9223372036854775807) : BInv x (PN x) (m + 1) (doesV v a).1 := by
  by_cases hk : a.kind = 0 ∧ a.place = (PN x : Int)
  · obtain ⟨c0, c1⟩ := hk
    obtain ⟨p1, p2, p3, p4, p5, p6⟩ := right_nat hx
    have hs : v.shape = x := by
      cases h with
      | live P r b n => exact r.shape
      | down P Q d s b c o hq => exact s
    have : (doesV v a).1 = v := by
      unfold doesV
      rw [if_pos c0]
      dsimp only
      rw [write_no (fun hc => by have := hc.1.2; rw [hs, p1] at this; omega)]
    rw [this]
    exact h.more (by omega)
  · exact blank_does hx h h0 hm a ha hk
theorem plays_start {x : Sh} (hx : rightS x = true) : BInv x (PN x) 1 (formatV x) := by
  obtain ⟨r0, d0, _, _⟩ := format_rest hx
  exact .live _ r0 rfl (by rw [d0]; simp)
theorem VOk.lens {k : VK} (h : VOk k) : k.disk.sure.length ≤ 1000000 ∧ k.disk.wet.length ≤ 1000000 ∧ k.dirty.length ≤ 1000000 := by
  obtain ⟨n, i, p, h1, h2⟩ := h.pl
  exact ⟨by have := p.good.sure; omega, by have := p.good.wet; omega, by have := h.dirty; omega⟩
/-- Another vault's box is stored into. -/
theorem VH.beside {b W X : World} {g g' : Nat} {v0 v1 v7 u0 u1 u7 : Value} {k k' : VK} (h : VH b W g' v0 v1 v7 k) (hn : VH b X g u0 u1 u7 k') (hk : ∀ q : Nat, q ≠ g → X.heap[q]? = W.heap[q]?) (ht : ∀ u y, IsVault W u y → IsVault X u y) (hne : g' ≠ g) : VH b X g' v0 v1 v7 k :=
  ⟨h.box.keep (hk _ hne), ht _ _ h.val, hn.below, h.far⟩

set_option maxRecDepth 100000 in
set_option maxHeartbeats 16000000 in
theorem plays_calls (pg jn : Int) (A : Option Addr) (len cap : Nat) (xs : List AK) (w : World) (hR : ActIn w A len xs) (hlm : len ≤ 9223372036854775807) :
    Calls Tryz.prog 3 #[.int .i64 pg, .int .i64 jn, .slice A len cap] w fun e w' => e = .returned (.bool true) ∧ Below w.heap.size w w' := by
  have CSM := Lib.hid (small_calls A len cap xs 60 w hR hlm)
  have CAW := Lib.hid awake_true
  have HR := Lib.hid hR
  have hp : (60 : Int) < pg ∨ (¬ (60 : Int) < pg ∧ (40 : Int) < jn) ∨ (¬ (60 : Int) < pg ∧ ¬ (40 : Int) < jn) := by omega
  rcases hp with hp | ⟨hp, hp1⟩ | ⟨hp, hp1⟩
  · clear CSM hR hlm
    go_enter Tryz.func3, Tryz.ntmps3
    go_wp2_with fail
    (with_reducible refine (CAW.out _).mono ?_)
    rintro e w2 ⟨rfl, hB2⟩
    go_wp2_with fail
    go_ret
    exact ⟨rfl, hB2⟩
  · clear CSM hR hlm
    go_enter Tryz.func3, Tryz.ntmps3
    go_wp2_with fail
    (with_reducible refine (CAW.out _).mono ?_)
    rintro e w2 ⟨rfl, hB2⟩
    go_wp2_with fail
    go_ret
    exact ⟨rfl, hB2⟩
  obtain ⟨x, hxe⟩ : ∃ x : Sh, x = ⟨pg, jn⟩ := ⟨_, rfl⟩
  have hform : ∃ (E : Int) (k0 : VK), (∀ W, Calls Tryz.prog 11 #[.int .i64 pg, .int .i64 jn] W fun e w' => ∃ v', e = .returned (.tuple #[v', .int .i64 E]) ∧ IsVault w' v' k0 ∧ Below W.heap.size W w') ∧
      (∀ W, Calls Tryz.prog 12 #[.int .i64 pg, .int .i64 jn] W fun e w' => ∃ v', e = .returned (.tuple #[v', .int .i64 E]) ∧ IsVault w' v' k0 ∧ Below W.heap.size W w') ∧
      (k0.disk.sure.length ≤ 1000000 ∧ k0.disk.wet.length ≤ 1000000 ∧ k0.dirty.length ≤ 1000000) ∧ (E = 1 ∨ (E = 0 ∧ rightS x = true ∧ BInv x (PN x) 1 k0)) := by
    rcases Bool.eq_false_or_eq_true (rightS x) with h | h
    · refine ⟨0, formatV x, fun W => ?_, fun W => ?_, ?_, .inr ⟨rfl, h, plays_start h⟩⟩
      · have := format_ok x W h
        rw [hxe] at this ⊢
        exact this
      · have := rformat_ok x W h
        rw [hxe] at this ⊢
        exact this
      · exact ((plays_start h).ok h (by omega)).lens
    · refine ⟨1, zeroV, fun W => ?_, fun W => ?_, ⟨Nat.zero_le _, Nat.zero_le _, Nat.zero_le _⟩, .inl rfl⟩
      · have := format_bad x W h
        rw [hxe] at this
        exact this
      · have := rformat_bad x W h
        rw [hxe] at this
        exact this
  obtain ⟨E, k0, CF1, CF2, hlen, hcase⟩ := hform
  have CF1 := Lib.hid CF1
  have CF2 := Lib.hid CF2
  have HLEN := Lib.hid hlen
  have HCASE := Lib.hid hcase
  clear hR hxe hlen hcase
  go_enter Tryz.func3, Tryz.ntmps3
  go_wp2_with fail
  (with_reducible refine CSM.out.mono ?_)
  rintro e w1 ⟨b, rfl, hsm, hB1⟩
  have HB1 := Lib.hid hB1
  cases hbq : b with
  | false =>
    clear hsm hbq hB1
    go_wp2_with fail
    (with_reducible refine (CAW.out _).mono ?_)
    rintro e w2 ⟨rfl, hB2⟩
    go_wp2_with fail
    go_ret
    exact ⟨rfl, Dsk.below_trans' HB1.out hB2⟩
  | true =>
    have hl60 : len ≤ 60 := by have := hsm hbq; omega
    have HL := Lib.hid hl60
    clear hsm hbq hB1 hlm
    go_wp2_with fail
    (with_reducible refine (CF1.out _).mono ?_)
    rintro e w2 ⟨u, rfl, hu, hB⟩
    obtain ⟨A1, A2, A3, A4, A5, A6, A7, A8, A9, rfl⟩ := vault_parts hu
    obtain ⟨Y, hY, hV, _⟩ := VH.new (b := w) (Dsk.below_trans' HB1.out hB) hu
    have HY := Lib.hid hY
    obtain ⟨G, hG⟩ : ∃ G, G = w2.heap.size := ⟨_, rfl⟩
    rw [← hG] at hV
    have HV0 := Lib.hid hV
    have HG := Lib.hid hG.symm
    clear hu hB hY hV hG HB1
    go_upto_region 4 with (fail)
    rw [HY.out, HG.out]
    clear HY HG
    go_wp2_with fail
    (with_reducible refine (CF2.out _).mono ?_)
    rintro e w3 ⟨u, rfl, hu, hB⟩
    obtain ⟨B1, B2, B3, B4, B5, B6, B7, B8, B9, rfl⟩ := vault_parts hu
    have hv1 := HV0.out.more hB
    obtain ⟨Y, hY, hV, hbY⟩ := VH.new (b := w) hv1.below hu
    have hlt : G < w3.heap.size := hv1.box.lt
    obtain ⟨G2, hG⟩ : ∃ G, G = w3.heap.size := ⟨_, rfl⟩
    rw [← hG] at hV hlt
    have HX1 := Lib.hid (hv1.more hbY)
    have HX2 := Lib.hid hV
    have HY := Lib.hid hY
    have HG := Lib.hid hG.symm
    have HNE : Hid (G2 ≠ G ∧ G ≠ G2) := Lib.hid ⟨by omega, by omega⟩
    clear hu hB hv1 hY hV hbY hlt hG HV0
    go_upto_region 5 with (fail)
    rw [HY.out, HG.out]
    clear HY HG
    obtain ⟨i0, i1, i2, i3, i4, i5, i6, i7⟩ := HX1.out.box.at_
    obtain ⟨j0, j1, j2, j3, j4, j5, j6, j7⟩ := HX2.out.box.at_
    have CS := Lib.hid (fun v u W (h1 : IsVault W v k0) (h2 : IsVault W u k0) => same_calls v u k0 W h1 h2 HLEN.out.1 HLEN.out.2.1 HLEN.out.2.2)
    go_wp2_with fail
    (with_reducible refine (CS.out _ _ _ HX1.out.val HX2.out.val).mono ?_)
    rintro e w4 ⟨rfl, hB⟩
    have HV1 := Lib.hid (HX1.out.more hB)
    have HV2 := Lib.hid (HX2.out.more hB)
    clear i0 i1 i2 i3 i4 i5 i6 i7 j0 j1 j2 j3 j4 j5 j6 j7 hB HX1 HX2 CS CF1 CF2
    rcases HCASE.out with rfl | ⟨rfl, hx, hbi⟩
    · go_wp2_with fail
      (with_reducible refine (CAW.out _).mono ?_)
      rintro e w5 ⟨rfl, hB⟩
      go_wp2_with fail
      go_ret
      exact ⟨rfl, Dsk.below_trans' HV1.out.below hB⟩
    have HX := Lib.hid hx
    have HI0 := Lib.hid hbi
    clear hx hbi HCASE
    go_wp2_with fail
    go_loopw [11] (fun u wr => ∃ (i : Nat) (k : VK) (A1 : Option Addr) (A2 A3 : Nat) (A4 : Option Addr) (A5 A6 : Nat) (A7 : Option Addr) (A8 A9 : Nat) (B1 : Option Addr) (B2 B3 : Nat) (B4 : Option Addr) (B5 B6 : Nat) (B7 : Option Addr) (B8 B9 : Nat), i ≤ len ∧ u = .int .i64 i ∧ VH w wr G (.slice A1 A2 A3) (.slice A4 A5 A6) (.slice A7 A8 A9) k ∧ VH w wr G2 (.slice B1 B2 B3) (.slice B4 B5 B6) (.slice B7 B8 B9) k ∧ BInv x (PN x) (i + 1) k) (fun u _ => len - (intOf u).toNat)
    case atStart => exact ⟨0, k0, _, _, _, _, _, _, _, _, _, _, _, _, _, _, _, _, _, _, Nat.zero_le _, rfl, HV1.out, HV2.out, HI0.out⟩
    case round =>
      obtain ⟨i, k, A1, A2, A3, A4, A5, A6, A7, A8, A9, B1, B2, B3, B4, B5, B6, B7, B8, B9, hi, rfl, hv1, hv2, hb⟩ := hrel
      have HA := Lib.hid hv1
      have HB := Lib.hid hv2
      have HI := Lib.hid hb
      clear hv1 hv2 hb HV1 HV2 HI0
      by_cases hlt : i < len
      rotate_left
      · have hnl : decide ((i : Int) < (len : Int)) = false := by simp; omega
        go_wp2_with fail
        (with_reducible refine (CAW.out _).mono ?_)
        rintro e w5 ⟨rfl, hB⟩
        go_wp2_with fail
        go_ret
        exact ⟨rfl, Dsk.below_trans' HA.out.below hB⟩
      obtain ⟨a, ha⟩ : ∃ a, xs[i]? = some a := ⟨_, List.getElem?_eq_getElem (by have := HR.out.1; omega)⟩
      have has := HR.out.2.1 a (List.mem_of_getElem? ha)
      obtain ⟨b, off, rfl, hat⟩ := act_at HR.out (Below.refl w.heap.size w) ha (by omega)
      have hi1 : (0 : Int) ≤ (i : Int) := by omega
      have hi2 : (i : Int) < (len : Int) := by omega
      have HAT := Lib.hid hat
      have HAS := Lib.hid has
      clear ha hat has
      have hmi : ((i : Int) + 1) < 2147483647 := by have := HL.out; omega
      have step := plays_does HX.out HI.out (by omega) hmi a HAS.out
      have CD := fun v W (h : IsVault W v k) => does_calls v k a W h (HI.out.ok HX.out (by omega)) HAS.out
      have CQ := fun v W (h : IsVault W v k) => ask_calls v k a W h (HI.out.ok HX.out (by omega)) HAS.out
      obtain ⟨k2, hk2⟩ : ∃ k2, k2 = (doesV k a).1 := ⟨_, rfl⟩
      obtain ⟨s2, hs2⟩ : ∃ s, s = strB (doesV k a).2.1 := ⟨_, rfl⟩
      obtain ⟨e2, he2⟩ : ∃ e, e = (doesV k a).2.2 := ⟨_, rfl⟩
      rw [← hk2, ← hs2, ← he2] at CD CQ
      rw [← hk2] at step
      have hlen := (step.ok HX.out (by omega)).lens
      unfold AK.v at CD CQ
      have CD := Lib.hid CD
      have CQ := Lib.hid CQ
      have HST := Lib.hid step
      have CS := Lib.hid (fun v u W (h1 : IsVault W v k2) (h2 : IsVault W u k2) => same_calls v u k2 W h1 h2 hlen.1 hlen.2.1 hlen.2.2)
      clear step hk2 hs2 he2 hmi hlen
      obtain ⟨kind, place, data, stay⟩ := a
      dsimp only at CD CQ HAT
      have HT := Lib.hid (HA.out.more (Below.refl _ _).drew)
      have HT2 := Lib.hid (HB.out.more (Below.refl _ _).drew)
      go_upto_region 13 with (fail)
      obtain ⟨x0, x1, x2, x3⟩ := HAT.out _ HT.out.below
      obtain ⟨i0, i1, i2, i3, i4, i5, i6, i7⟩ := HT.out.box.at_
      go_region_with (first
        | (go_at_call 14; (with_reducible refine (CD.out _ _ HT.out.val).mono ?_); rintro e wa ⟨u, rfl, hu, hBa⟩; obtain ⟨U1, U2, U3, U4, U5, U6, U7, U8, U9, rfl⟩ := vault_parts hu; (with_reducible have HW := Lib.hid (HT.out.more hBa)); (with_reducible have HW2 := Lib.hid (HT2.out.more hBa)); have HU := Lib.hid hu; clear hu hBa; have kf := HW.out.box.free; obtain ⟨j0, j1, j2, j3, j4, j5, j6, j7⟩ := HW.out.box.at_))
      all_goals
        obtain ⟨X, hX, hn, hk, ht⟩ := HW.out.put HU.out
        have HX1 := Lib.hid hX
        have HN := Lib.hid hn
        have HN2 := Lib.hid (HW2.out.beside hn hk ht HNE.out.1)
        clear hX hn hk ht
        go_upto_region 14 with (fail)
        rw [HX1.out]
        clear x0 x1 x2 x3 i0 i1 i2 i3 i4 i5 i6 i7 kf j0 j1 j2 j3 j4 j5 j6 j7 HX1 HW HW2 HU HT HT2 HA HB
        have HT := Lib.hid (HN.out.more (Below.refl _ _).drew)
        have HT2 := Lib.hid (HN2.out.more (Below.refl _ _).drew)
        obtain ⟨x0, x1, x2, x3⟩ := HAT.out _ HT.out.below
        obtain ⟨i0, i1, i2, i3, i4, i5, i6, i7⟩ := HT2.out.box.at_
        go_region_with (first
          | (go_at_call 15; (with_reducible refine (CQ.out _ _ HT2.out.val).mono ?_); rintro e wa ⟨u, rfl, hu, hBa⟩; obtain ⟨V1, V2, V3, V4, V5, V6, V7, V8, V9, rfl⟩ := vault_parts hu; (with_reducible have HW := Lib.hid (HT.out.more hBa)); (with_reducible have HW2 := Lib.hid (HT2.out.more hBa)); have HU := Lib.hid hu; clear hu hBa; have kf := HW2.out.box.free; obtain ⟨j0, j1, j2, j3, j4, j5, j6, j7⟩ := HW2.out.box.at_))
        all_goals
          obtain ⟨X, hX, hn, hk, ht⟩ := HW2.out.put HU.out
          have HX1 := Lib.hid hX
          have HM2 := Lib.hid hn
          have HM := Lib.hid (HW.out.beside hn hk ht HNE.out.2)
          clear hX hn hk ht
          go_upto_region 15 with (fail)
          rw [HX1.out]
          clear x0 x1 x2 x3 i0 i1 i2 i3 i4 i5 i6 i7 kf j0 j1 j2 j3 j4 j5 j6 j7 HX1 HW HW2 HU HT HT2 HN HN2
          obtain ⟨i0, i1, i2, i3, i4, i5, i6, i7⟩ := HM.out.box.at_
          obtain ⟨j0, j1, j2, j3, j4, j5, j6, j7⟩ := HM2.out.box.at_
          go_wp2_with fail
          (with_reducible refine (CS.out _ _ _ HM.out.val HM2.out.val).mono ?_)
          rintro e wz ⟨rfl, hB⟩
          have HZ := Lib.hid (HM.out.more hB)
          have HZ2 := Lib.hid (HM2.out.more hB)
          clear i0 i1 i2 i3 i4 i5 i6 i7 j0 j1 j2 j3 j4 j5 j6 j7 hB HM HM2
          go_wp2_with fail
          exact ⟨⟨i + 1, k2, _, _, _, _, _, _, _, _, _, _, _, _, _, _, _, _, _, _, by omega, by go_num, HZ.out, HZ2.out, by exact HST.out⟩, by simp [intOf]; omega⟩

end Go.Proofs.YtnbbijpmkhdgpaaGreat.Vlt
