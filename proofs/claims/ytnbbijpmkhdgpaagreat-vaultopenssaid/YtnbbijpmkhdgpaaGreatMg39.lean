/- Contracts and plain mathematics that the statement's proof wants: no statement is proved here, nothing is assumed. -/
import Derived.BigQuiet
import Derived.Deep.Cut
import Derived.Deep.CutRange
import Derived.Deep.CutBlock
import Derived.Test.YtnbbijpmkhdgpaaGreatMg12
import Derived.Test.YtnbbijpmkhdgpaaGreatMg34
import Derived.Test.YtnbbijpmkhdgpaaGreatMg36
import Derived.Test.YtnbbijpmkhdgpaaGreatMg38
/- LOpens -/
namespace Go.Proofs.YtnbbijpmkhdgpaaGreat.Vlt
open Go.RowKit Go.Sort
open Dsk

theorem min_cut (s : ByteArray) (k : Nat) : ∃ l : List UInt8, l.length ≤ k ∧ s.extract 0 (min (s.size : Int) (k : Int)).toNat = strB l := by
  obtain ⟨l0, rfl⟩ : ∃ l0, s = strB l0 := ⟨s.data.toList, by cases s; simp [strB]⟩
  refine ⟨l0.take (min ((strB l0).size : Int) (k : Int)).toNat, ?_, ?_⟩
  · rw [List.length_take]; omega
  · rw [strB_extract, List.drop_zero]

theorem act_below {w w' : World} {A : Option Addr} {len : Nat} {xs : List AK} (h : ActIn w A len xs) (hb : Below w.heap.size w w') : ActIn w' A len xs := by
  refine ⟨h.1, h.2.1, fun hl => ?_⟩
  obtain ⟨b, off, e, hbl, hc⟩ := h.2.2 hl
  refine ⟨b, off, e, Nat.lt_of_lt_of_le hbl hb.size, fun j a ha => ?_⟩
  obtain ⟨c0, c1, c2, c3⟩ := hc j a ha
  exact ⟨(hb.cell (p := ⟨b, off + j * 4, none⟩) hbl).trans c0, (hb.cell (p := ⟨b, off + j * 4 + 1, none⟩) hbl).trans c1, (hb.cell (p := ⟨b, off + j * 4 + 2, none⟩) hbl).trans c2, (hb.cell (p := ⟨b, off + j * 4 + 3, none⟩) hbl).trans c3⟩

theorem disk_len {W : World} {A1 : Option Addr} {A2 A3 : Nat} {A4 : Option Addr} {A5 A6 : Nat} {a : Bool} {b : Int} {d : DK} (h : IsDisk W (.agg #[.slice A1 A2 A3, .slice A4 A5 A6, .bool a, .int .i64 b]) d) : A2 = d.sure.length := by
  obtain ⟨_, _, e, h1, _⟩ := h
  obtain ⟨_, _, e4, _⟩ := h1
  simp only [Value.agg.injEq, Array.mk.injEq, List.cons.injEq] at e
  rw [← e.1] at e4
  injection e4

/-- The shape's box and the disk's. -/
structure OH (b W : World) (gs g : Nat) (v0 v1 : Value) (x : Sh) (d : DK) : Prop where
  sh : SBox W gs x
  box : W.heap[g]? = some (.cells #[v0, v1, .bool d.dead, .int .i64 d.left] 28 (0, 0))
  disk : IsDisk W (.agg #[v0, v1, .bool d.dead, .int .i64 d.left]) d
  below : Below b.heap.size b W
  far : b.heap.size ≤ g
  ne : gs ≠ g
section
variable {b W W' : World} {gs g : Nat} {v0 v1 u0 u1 : Value} {x : Sh} {d d' : DK}
theorem OH.more (h : OH b W gs g v0 v1 x d) (hb : Below W.heap.size W W') : OH b W' gs g v0 v1 x d := ⟨h.sh.below hb, box_kept g h.box hb, h.disk.below hb, Dsk.below_trans' h.below hb, h.far, h.ne⟩
theorem OH.new (hs : SBox W gs x) (hb : Below b.heap.size b W) (hd : IsDisk W (.agg #[v0, v1, .bool d.dead, .int .i64 d.left]) d) :
    ∃ Y, W.alloc (.cells #[v0, v1, .bool d.dead, .int .i64 d.left] 28) = Y ∧ OH b Y gs W.heap.size v0 v1 x d :=
  ⟨_, rfl, hs.below (below_one _ _), heap_alloc_new W _, hd.below (below_one _ _), Dsk.below_trans' hb (below_one _ _), hb.size, by have := hs.lt; omega⟩
theorem OH.put (h : OH b W gs g v0 v1 x d) (hv : IsDisk W (.agg #[u0, u1, .bool d'.dead, .int .i64 d'.left]) d') :
    ∃ X, (((W.setCell ⟨g, 0, none⟩ u0).setCell ⟨g, 1, none⟩ u1).setCell ⟨g, 2, none⟩ (.bool d'.dead)).setCell ⟨g, 3, none⟩ (.int .i64 d'.left) = X ∧ OH b X gs g u0 u1 x d' := by
  obtain ⟨X, hX, hbX, hkX, hBX⟩ := box_store4 h.box u0 u1 (.bool d'.dead) (.int .i64 d'.left)
  exact ⟨X, hX, h.sh.keep (hkX _ h.ne), hbX, hv.other h.box (by decide) (by decide) (fun q hq => hkX q hq), hBX _ _ h.below h.far, h.far, h.ne⟩
end

set_option maxRecDepth 100000 in
set_option maxHeartbeats 16000000 in
theorem opens_calls (x : Sh) (A : Option Addr) (len cap : Nat) (xs : List AK) (stay : Nat) (w : World) (hR : ActIn w A len xs) (hlm : len ≤ 9223372036854775807) (hst : stay < 18446744073709551616) :
    Calls Tryz.prog 6 #[shV x, .slice A len cap, .int .u64 (stay : Nat)] w fun e w' => e = .returned (.bool true) ∧ Below w.heap.size w w' := by
  have CSM := Lib.hid (fun W (hb : Below w.heap.size w W) => small_calls A len cap xs 40 W (act_below hR hb) hlm)
  have CAW := Lib.hid awake_true
  have CRT := rright_calls x
  have HAT0 := Lib.hid (fun (i : Nat) (a : AK) => act_at (i := i) (a := a) hR (Below.refl w.heap.size w))
  have HR := Lib.hid hR
  have HST := Lib.hid hst
  obtain ⟨Y, hY, hs, hb⟩ : ∃ Y, w.alloc (.cells #[.int .i64 x.pages, .int .i64 x.journal] 30) = Y ∧ SBox Y w.heap.size x ∧ Below w.heap.size w Y := ⟨_, rfl, SBox.new _ _, below_one _ _⟩
  have HY := Lib.hid hY
  obtain ⟨GS, hGS⟩ : ∃ G, G = w.heap.size := ⟨_, rfl⟩
  rw [← hGS] at hs
  have HGS := Lib.hid hGS.symm
  have HS := Lib.hid hs
  have HB := Lib.hid hb
  obtain ⟨x0, hx0⟩ : ∃ x0, x0 = x := ⟨_, rfl⟩
  unfold shV at CRT ⊢
  have CRT := Lib.hid CRT
  clear hR hst hY hGS hs hb
  go_enter Tryz.func6, Tryz.ntmps6
  go_upto_region 1 with (fail)
  rw [HY.out, HGS.out]
  have c0 := HS.out.c0
  have c1 := HS.out.c1
  go_wp2_with fail
  (with_reducible refine (CSM.out _ HB.out).mono ?_)
  rintro e w1 ⟨b, rfl, hsm, hB1⟩
  have HB1 := Lib.hid hB1
  cases hbq : b with
  | false =>
    clear hsm hbq hB1
    go_wp2_with fail
    (with_reducible refine (CAW.out _).mono ?_)
    rintro e w2 ⟨rfl, hB2⟩
    go_wp2_with fail
    go_ret
    exact ⟨rfl, Dsk.below_trans' (Dsk.below_trans' HB.out HB1.out) hB2⟩
  | true =>
    have hl40 : len ≤ 40 := by have := hsm hbq; omega
    have HL := Lib.hid hl40
    have AWK : ∀ W, Below w.heap.size w W → True := fun _ _ => trivial
    clear hsm hbq hB1 hlm AWK
    have HS1 := Lib.hid (HS.out.below HB1.out)
    clear c0 c1
    have c0 := HS1.out.c0
    have c1 := HS1.out.c1
    go_wp2_with fail
    (with_reducible refine (CRT.out _).mono ?_)
    rintro e w2 ⟨rfl, hB2⟩
    have HS2 := Lib.hid (HS1.out.below hB2)
    have HB2 := Lib.hid (Dsk.below_trans' (Dsk.below_trans' HB.out HB1.out) hB2)
    clear hB2 c0 c1 HB HB1 HS1 HS
    have c0 := HS2.out.c0
    have c1 := HS2.out.c1
    by_cases hsz : rightS x = true ∧ x.pages ≤ 60 ∧ x.journal ≤ 40
    rotate_left
    · have hp : rightS x = false ∨ (rightS x = true ∧ ((60 : Int) < x.pages ∨ (¬ (60 : Int) < x.pages ∧ (40 : Int) < x.journal))) := by
        cases hq : rightS x with
        | false => exact .inl rfl
        | true => exact .inr ⟨rfl, by by_cases h : x.pages ≤ 60 <;> by_cases h2 : x.journal ≤ 40 <;> simp_all <;> omega⟩
      clear hsz
      rcases hp with hp | ⟨hp, hp1 | ⟨hp1, hp2⟩⟩
      all_goals
        go_wp2_with fail
        (with_reducible refine (CAW.out _).mono ?_)
        rintro e w3 ⟨rfl, hB2⟩
        go_wp2_with fail
        go_ret
        exact ⟨rfl, Dsk.below_trans' HB2.out hB2⟩
    obtain ⟨hx, hp1, hp2⟩ := hsz
    have hpn1 : ¬ (60 : Int) < x.pages := by omega
    have hpn2 : ¬ (40 : Int) < x.journal := by omega
    obtain ⟨n1, n2, n3, n4, n5, n6⟩ := right_nat hx
    have hnn : NN x ≤ 101 := by unfold NN; omega
    have hpp : PN x ≤ 60 := by omega
    have HN := Lib.hid (show x.pages = (PN x : Nat) ∧ PN x ≤ 60 ∧ NN x ≤ 101 from ⟨n1, hpp, hnn⟩)
    have HX := Lib.hid hx
    have CF := fun W => format_ok x W hx
    obtain ⟨k0, hk0⟩ : ∃ k, k = formatV x := ⟨_, rfl⟩
    have ho := OInv.format hx
    rw [← hk0] at CF ho
    have CF := Lib.hid CF
    have HO := Lib.hid ho
    clear hk0 ho n1 n2 n3 n4 n5 n6 hnn hpp hp1 hp2
    go_wp2_with fail
    (with_reducible refine (CF.out _).mono ?_)
    rintro e w3 ⟨u, rfl, hu, hB⟩
    obtain ⟨A1, A2, A3, A4, A5, A6, A7, A8, A9, rfl⟩ := vault_parts hu
    obtain ⟨Y, hY, hV, hbY⟩ := VH.new (b := w) (Dsk.below_trans' HB2.out hB) hu
    have HY := Lib.hid hY
    have HS3 := Lib.hid ((HS2.out.below hB).below hbY)
    obtain ⟨G, hG⟩ : ∃ G, G = w3.heap.size := ⟨_, rfl⟩
    rw [← hG] at hV
    have HV0 := Lib.hid hV
    have HG := Lib.hid hG.symm
    clear hu hB hY hV hG hbY HB2 HS2 c0 c1
    go_upto_region 4 with (fail)
    rw [HY.out, HG.out]
    clear HY HG
    obtain ⟨i0, i1, i2, i3, i4, i5, i6, i7⟩ := HV0.out.box.at_
    obtain ⟨Z, hZ, hH⟩ := OH.new HS3.out HV0.out.below (vault_open HV0.out.val).1
    obtain ⟨Q, hQ⟩ : ∃ Q, Q = Y.heap.size := ⟨_, rfl⟩
    rw [← hQ] at hH
    have HZ := Lib.hid hZ
    have HQ := Lib.hid hQ.symm
    have HH0 := Lib.hid hH
    clear hZ hH hQ
    go_upto_region 5 with (fail)
    rw [HZ.out, HQ.out]
    clear HZ HQ i0 i1 i2 i3 i4 i5 i6 i7 HV0 HS3
    obtain ⟨d0, hd0⟩ : ∃ d, d = k0.disk := ⟨_, rfl⟩
    rw [← hd0] at HH0 HO
    clear hd0 CF
    go_wp2_with fail
    go_loopw [10] (fun u wr => ∃ (i : Nat) (d : DK) (A1 : Option Addr) (A2 A3 : Nat) (A4 : Option Addr) (A5 A6 : Nat), i ≤ len ∧ u = .int .i64 i ∧ OH w wr GS Q (.slice A1 A2 A3) (.slice A4 A5 A6) x d ∧ OInv x i d) (fun u _ => len - (intOf u).toNat)
    case atStart => exact ⟨0, d0, _, _, _, _, _, _, Nat.zero_le _, rfl, HH0.out, HO.out⟩
    case round =>
      obtain ⟨i, d, A1, A2, A3, A4, A5, A6, hi, rfl, hh, ho⟩ := hrel
      have HH := Lib.hid hh
      have HI := Lib.hid ho
      clear hh ho HH0 HO
      by_cases hlt : i < len
      rotate_left
      · have hnl : decide ((i : Int) < (len : Int)) = false := by simp; omega
        obtain ⟨o1, o2, o3, o4⟩ := HI.out.start stay
        obtain ⟨D, hD⟩ : ∃ D, D = stD d stay := ⟨_, rfl⟩
        rw [← hD] at o1 o2 o3 o4
        have CT := fun v W (h : IsDisk W v d) => rstart_calls v d stay W h (HI.out.pl.ok (by have := HN.out.2.2; omega) (by have := HL.out; omega)) HI.out.pl.inn HST.out
        rw [show (⟨settleF stay d.wet d.sure, [], false, -1⟩ : DK) = D from hD.symm] at CT
        have CO := fun v W (h : IsDisk W v D) => open_calls v D W h o1 (by have := HN.out.2.2; omega)
        have hop := open_any HX.out o1 o2 o3 o4
        have CT := Lib.hid CT
        have CO := Lib.hid CO
        have HOP := Lib.hid hop
        clear o1 o2 o3 o4 hop hD HI
        obtain ⟨⟨y0, y1, y2, y3⟩, _⟩ := box4 HH.out.box
        go_wp2_with fail
        (with_reducible refine (CT.out _ _ HH.out.disk).mono ?_)
        rintro e wy ⟨u, rfl, hu, hB⟩
        have HH1 := Lib.hid (HH.out.more hB)
        have HU := Lib.hid hu
        clear y0 y1 y2 y3 HH hu hB
        go_wp2_with fail
        (with_reducible refine (CO.out _ _ HU.out).mono ?_)
        rintro e wz ⟨u1, u2, rfl, hu1, hu2, hB⟩
        have HH2 := Lib.hid (HH1.out.more hB)
        clear hB HH1 HU CT CO
        rcases HOP.out with e | ⟨K, e, k1, k2, k3, k4, k5, k6⟩
        · rw [e] at hu1 hu2 ⊢
          dsimp only at hu1 hu2 ⊢
          obtain ⟨U1, U2, U3, U4, U5, U6, U7, U8, U9, rfl⟩ := vault_parts hu1
          obtain ⟨F1, F2, F3, F4, F5, F6, rfl⟩ := hu2.parts
          obtain ⟨Z1, hZ1, hn1, hb1⟩ := VH.new (b := w) HH2.out.below hu1
          obtain ⟨Z2, hZ2⟩ : ∃ Z2, Z2 = Z1.alloc (.cells #[.slice F1 F2 F3, .slice F4 F5 F6, .bool D.dead, .int .i64 D.left] 28) := ⟨_, rfl⟩
          have hb2 : Below Z1.heap.size Z1 Z2 := by rw [hZ2]; exact below_one _ _
          obtain ⟨Q2, hQ2⟩ : ∃ Q2, Q2 = wz.heap.size := ⟨_, rfl⟩
          have hN2 := hn1.more hb2
          rw [← hQ2] at hN2
          have HN2 := Lib.hid hN2
          have HZ1 := Lib.hid hZ1
          have HZ2 := Lib.hid hZ2.symm
          have HQ2 := Lib.hid hQ2.symm
          clear hu1 hu2 hZ1 hn1 hb1 hZ2 hb2 hQ2 hN2 HH2 HOP e
          go_upto_region 18 with (fail)
          rw [HZ1.out, HZ2.out]
          rw [HQ2.out]
          clear HZ1 HZ2 HQ2
          go_wp2_with fail
          (with_reducible refine (CAW.out _).mono ?_)
          rintro e wb ⟨rfl, hB⟩
          have HN3 := Lib.hid (HN2.out.more hB)
          clear hB HN2
          obtain ⟨j0, j1, j2, j3, j4, j5, j6, j7⟩ := HN3.out.box.at_
          have hq := eql23 zeroS zeroS
          rw [decide_eq_true rfl] at hq
          unfold shV at hq
          unfold zeroV at j4 j5
          dsimp only [zeroS] at hq j4 j5
          go_wp2_with fail
          go_ret
          exact ⟨rfl, HN3.out.below⟩
        · rw [e] at hu1 hu2 ⊢
          dsimp only at hu1 hu2 ⊢
          have HK := Lib.hid (And.intro k1 (And.intro k2 (And.intro k3 (And.intro k4 (And.intro k5 k6)))))
          obtain ⟨U1, U2, U3, U4, U5, U6, U7, U8, U9, rfl⟩ := vault_parts hu1
          obtain ⟨F1, F2, F3, F4, F5, F6, rfl⟩ := hu2.parts
          obtain rfl : U8 = 0 := by
            have h := (vault_lens hu1).1
            rw [k2] at h
            exact h
          have hF2 : F2 = NN x := by rw [disk_len hu2, k5.good.sure]
          obtain ⟨Z1, hZ1, hn1, hb1⟩ := VH.new (b := w) HH2.out.below hu1
          obtain ⟨Z2, hZ2⟩ : ∃ Z2, Z2 = Z1.alloc (.cells #[.slice F1 F2 F3, .slice F4 F5 F6, .bool K.disk.dead, .int .i64 K.disk.left] 28) := ⟨_, rfl⟩
          have hb2 : Below Z1.heap.size Z1 Z2 := by rw [hZ2]; exact below_one _ _
          obtain ⟨Q2, hQ2⟩ : ∃ Q2, Q2 = wz.heap.size := ⟨_, rfl⟩
          have hs1 : Z1.heap.size = Q2 + 1 := by rw [← hZ1, hQ2]; simp
          have hdx : Z2.heap[Q2 + 1]? = some (.cells #[.slice F1 F2 F3, .slice F4 F5 F6, .bool K.disk.dead, .int .i64 K.disk.left] 28 (0, 0)) := by rw [← hs1, hZ2]; exact heap_alloc_new Z1 _
          have hN2 := hn1.more hb2
          rw [← hQ2] at hN2
          have HN2 := Lib.hid hN2
          have HDX := Lib.hid hdx
          have HSX := Lib.hid ((HH2.out.sh.below hb1).below hb2)
          have HF2 := Lib.hid hF2
          have HZ1 := Lib.hid hZ1
          have HZ2 := Lib.hid hZ2.symm
          have HQ2 := Lib.hid hQ2.symm
          clear hu1 hu2 hZ1 hn1 hb1 hZ2 hb2 hQ2 hN2 HH2 HOP e hs1 hdx hF2 k1 k2 k3 k4 k5 k6
          go_upto_region 18 with (fail)
          rw [HZ1.out, HZ2.out]
          rw [HQ2.out]
          clear HZ1 HZ2 HQ2
          go_wp2_with fail
          go_loopw [15] (fun u wr => ∃ (n : Nat), n ≤ PN x ∧ u = .int .i64 n ∧ SBox wr GS x ∧ VH w wr Q2 (.slice U1 U2 U3) (.slice U4 U5 U6) (.slice U7 0 U9) K ∧ wr.heap[Q2 + 1]? = some (.cells #[.slice F1 F2 F3, .slice F4 F5 F6, .bool K.disk.dead, .int .i64 K.disk.left] 28 (0, 0))) (fun u _ => PN x - (intOf u).toNat)
          case atStart => exact ⟨0, by omega, rfl, HSX.out, HN2.out, HDX.out⟩
          case round =>
            obtain ⟨n, hn, rfl, hs, hv, hd⟩ := hrel
            have HS := Lib.hid hs
            have HV := Lib.hid hv
            have HDX := Lib.hid hd
            clear hs hv hd HSX HN2
            have c0 := HS.out.c0
            have c1 := HS.out.c1
            rw [HN.out.1] at c0
            by_cases hlt : n < PN x
            · have hlt1 : (n : Int) < (PN x : Nat) := by omega
              have hp60 := HN.out.2.1
              have hg : VGood K := ⟨⟨NN x, 0, HK.out.2.2.2.2.1, by have := HN.out.2.2; omega, by omega⟩, by rw [HK.out.1]; have := HN.out; omega, by rw [HK.out.2.1]; simp⟩
              have hri : RiseL K.dirty := by rw [HK.out.2.1]; exact List.Pairwise.nil
              have CR := fun v W (h : IsVault W v K) => read_calls v K (n : Nat) W h hg hri
              have hro := read_opened HX.out HK.out.1 HK.out.2.1 HK.out.2.2.2.2.1 HK.out.2.2.2.2.2 hlt
              obtain ⟨⟨B, E⟩, hBE⟩ : ∃ p, p = readV K (n : Nat) := ⟨_, rfl⟩
              rw [← hBE] at CR hro
              dsimp only at CR hro
              obtain ⟨g, hg2⟩ : ∃ g, g = strB B := ⟨_, rfl⟩
              have hsz : g.size = B.length := by rw [hg2, strB_size]
              rw [← hg2] at CR
              have CR := Lib.hid CR
              clear hg hri hBE hg2
              obtain ⟨i0, i1, i2, i3, i4, i5, i6, i7⟩ := HV.out.box.at_
              rcases hro with ⟨rfl, hB8⟩ | rfl
              · have hsz2 : ((g.size : Int) != 208) = false := by
                  rw [hsz, hB8]; rfl
                clear hsz hB8
                go_wp2_with fail
                (with_reducible refine (CR.out _ _ HV.out.val).mono ?_)
                rintro e wx ⟨rfl, hB⟩
                go_wp2_with fail
                exact ⟨⟨n + 1, by omega, by go_num, HS.out.below hB, HV.out.more hB, box_kept _ HDX.out hB⟩, by simp [intOf]; omega⟩
              · clear hsz
                go_wp2_with fail
                (with_reducible refine (CR.out _ _ HV.out.val).mono ?_)
                rintro e wx ⟨rfl, hB⟩
                go_wp2_with fail
                exact ⟨⟨n + 1, by omega, by go_num, HS.out.below hB, HV.out.more hB, box_kept _ HDX.out hB⟩, by simp [intOf]; omega⟩
            · have hnl2 : decide ((n : Int) < (PN x : Nat)) = false := by simp; omega
              obtain ⟨a1, a2, a3, a4, a5, a6⟩ := right_nat HX.out
              have j4 := fun dd os => ((HV.out.more (below_regrown wr dd os)).box.at_).c4
              have j5 := fun dd os => ((HV.out.more (below_regrown wr dd os)).box.at_).c5
              have j6 := fun dd os => ((HV.out.more (below_regrown wr dd os)).box.at_).c6
              have j7 := fun dd os => ((HV.out.more (below_regrown wr dd os)).box.at_).c7
              have y0 := fun dd os => (box4 (box_kept _ HDX.out (below_regrown wr dd os))).1.1
              have s0 := fun dd os => (HS.out.below (below_regrown wr dd os)).c0
              have s1 := fun dd os => (HS.out.below (below_regrown wr dd os)).c1
              simp only [HK.out.1] at j4 j5
              have hq := eql23 x x
              rw [decide_eq_true rfl] at hq
              have CZ := rsize_calls x
              rw [show placeN x x.pages = ((NN x : Nat) : Int) from size_nat HX.out] at CZ
              unfold shV at hq CZ
              have D1 := Lib.hid (rg CAW.out wr)
              have D2 := Lib.hid (rg CZ wr)
              have hf2 := HF2.out
              subst hf2
              have k3 : (1 : Int) ≤ K.seq := HK.out.2.2.1
              have k3' : decide (K.seq ≥ 1) = true := by simpa using k3
              clear a1 a2 a3 a4 a5 a6 CZ
              go_wp2_with fail
              refine wp_region_quiet_below (by kernel_rfl) (by kernel_rfl) ?_
              (try simp only [List.append_eq, List.cons_append, List.nil_append])
              repeat (first | go_big_quiet_step (first | (with_reducible exact D1.out _ _) | (with_reducible exact D2.out _ _)) | quiet_step (first | (with_reducible exact D1.out _ _) | (with_reducible exact D2.out _ _)))
              refine wpQuiet_nil ?_
              intro _ hw'
              obtain ⟨⟨dq, osq⟩, hw''⟩ := hw'
              subst hw''
              have HBZ := Lib.hid (Dsk.below_trans' HV.out.below (below_regrown wr dq osq))
              generalize grow (redrawn wr dq) osq = W1 at *
              clear j4 j5 j6 j7 y0 s0 s1 D1 D2
              go_wp2_with fail
              go_ret
              exact ⟨rfl, HBZ.out⟩
      · obtain ⟨a, ha⟩ : ∃ a, xs[i]? = some a := ⟨_, List.getElem?_eq_getElem (by have := HR.out.1; omega)⟩
        obtain ⟨b, off, rfl, hat⟩ := HAT0.out i a ha (by omega)
        obtain ⟨x0, x1, x2, x3⟩ := hat wr HH.out.below
        have hi1 : (0 : Int) ≤ (i : Int) := by omega
        have hi2 : (i : Int) < (len : Int) := by omega
        have hl4 := HL.out
        have HAT := Lib.hid hat
        obtain ⟨kind, place, data, stay'⟩ := a
        dsimp only at x0 x1 x2 x3 HAT
        obtain ⟨l2, hl2, hcut2⟩ : ∃ l : List UInt8, l.length ≤ 200 ∧ data.extract 0 (min (data.size : Int) 200).toNat = strB l := min_cut data 200
        have CPG := fun W => page_calls l2 W (by omega)
        rw [← hcut2] at CPG
        have hpl := padP_len (l := l2) (by omega)
        have CLF := fun no W => Ent.rleaf_calls no (padP l2) W (by omega)
        have CPR := fun s i n W => Ent.rprint_calls ⟨s, i, false, n, padP l2⟩ W (by show (padP l2).length ≤ 240; omega)
        have CPH := fun s i n W => Ent.rprint_calls ⟨s, i, true, n, []⟩ W (by show 0 ≤ 240; omega)
        unfold Ent.lfV at CLF
        unfold Ent.enV at CPR CPH
        dsimp only at CLF CPR CPH
        simp only [show strB [] = (⟨#[]⟩ : ByteArray) from rfl] at CPH
        obtain ⟨FLF, hflf⟩ : ∃ f : Int → ByteArray, f = fun no => strB (Ent.leafL no (padP l2)) := ⟨_, rfl⟩
        obtain ⟨FPR, hfpr⟩ : ∃ f : Int → Int → Int → ByteArray, f = fun s i n => strB (Ent.printL ⟨s, i, false, n, padP l2⟩) := ⟨_, rfl⟩
        obtain ⟨FPH, hfph⟩ : ∃ f : Int → Int → Int → ByteArray, f = fun s i n => strB (Ent.printL ⟨s, i, true, n, []⟩) := ⟨_, rfl⟩
        have CLF : ∀ no W, Calls Tryz.prog 19 #[.agg #[.int .i64 no, .string (strB (padP l2))]] W fun e w' => e = .returned (.string (FLF no)) ∧ Below W.heap.size W w' := by rw [hflf]; exact CLF
        have CPR : ∀ s i n W, Calls Tryz.prog 20 #[.agg #[.int .i64 s, .int .i64 i, .bool false, .int .i64 n, .string (strB (padP l2))]] W fun e w' => e = .returned (.string (FPR s i n)) ∧ Below W.heap.size W w' := by rw [hfpr]; exact CPR
        have CPH : ∀ s i n W, Calls Tryz.prog 20 #[.agg #[.int .i64 s, .int .i64 i, .bool true, .int .i64 n, .string ⟨#[]⟩]] W fun e w' => e = .returned (.string (FPH s i n)) ∧ Below W.heap.size W w' := by rw [hfph]; exact CPH
        have CPG := Lib.hid CPG
        have CLF := Lib.hid CLF
        have CPR := Lib.hid CPR
        have CPH := Lib.hid CPH
        have CW := fun (s : ByteArray) v W (h : IsDisk W v d) => rwr_calls v d (1 + (i : Int)) s W h (HI.out.pl.ok (by have := HN.out.2.2; omega) (by omega)) HI.out.pl.rise
        have CW := Lib.hid CW
        have hst2 := fun s => HI.out.write i s
        rw [show ((i : Int) + 1) = 1 + (i : Int) by omega] at hst2
        have HST2 := Lib.hid hst2
        have HT := Lib.hid (HH.out.more (Below.refl _ _).drew)
        clear ha hat hl2 hpl hcut2 hst2 hflf hfpr hfph
        go_upto_block 2 with (fail)
        go_cut [11] from 47 to 127 (fun u wx => ∃ S, u = .string S ∧ OH w wx GS Q (.slice A1 A2 A3) (.slice A4 A5 A6) x d)
        case first =>
          by_cases k0 : kind = 0
          · subst k0
            go_upto_region 11 with (fail)
            clear x0 x1 x2 x3
            have q := fun dd os => HH.out.more (below_regrown wr dd os)
            have z1 := fun dd os => (HAT.out _ (q dd os).below).2.1
            have D1 := Lib.hid (rg CPG.out wr)
            have D2 := Lib.hid (fun no => rg (CLF.out no) wr)
            clear q
            refine wp_region_quiet_below (by kernel_rfl) (by kernel_rfl) ?_
            (try simp only [List.append_eq, List.cons_append, List.nil_append])
            repeat (first | go_big_quiet_step (first | (with_reducible exact D1.out _ _) | (with_reducible exact D2.out _ _ _)))
            refine wpQuiet_nil ?_
            intro _ hw'
            obtain ⟨⟨dq, osq⟩, hw''⟩ := hw'
            subst hw''
            have HE2 := Lib.hid (HH.out.more (below_regrown wr dq osq))
            generalize grow (redrawn wr dq) osq = W1 at *
            clear z1 D1 D2
            go_wp2_with fail
            go_meet
            case rel => exact ⟨_, rfl, HE2.out⟩
          by_cases k1 : kind = 1
          · subst k1
            go_upto_region 13 with (fail)
            clear x0 x1 x2 x3
            have q := fun dd os => HH.out.more (below_regrown wr dd os)
            have z1 := fun dd os => (HAT.out _ (q dd os).below).2.1
            have D1 := Lib.hid (rg CPG.out wr)
            have D2 := Lib.hid (fun s i n => rg (CPR.out s i n) wr)
            clear q
            refine wp_region_quiet_below (by kernel_rfl) (by kernel_rfl) ?_
            (try simp only [List.append_eq, List.cons_append, List.nil_append])
            repeat (first | go_big_quiet_step (first | (with_reducible exact D1.out _ _) | (with_reducible exact D2.out _ _ _ _ _)))
            refine wpQuiet_nil ?_
            intro _ hw'
            obtain ⟨⟨dq, osq⟩, hw''⟩ := hw'
            subst hw''
            have HE2 := Lib.hid (HH.out.more (below_regrown wr dq osq))
            generalize grow (redrawn wr dq) osq = W1 at *
            clear z1 D1 D2
            go_wp2_with fail
            go_meet
            case rel => exact ⟨_, rfl, HE2.out⟩
          by_cases k2 : kind = 2
          · subst k2
            go_wp2_with fail
            (with_reducible refine (CPH.out _ _ _ _).mono ?_)
            rintro e wa2 ⟨rfl, hBb⟩
            have HE2 := Lib.hid (HH.out.more hBb)
            clear hBb
            go_wp2_with fail
            go_meet
            case rel => exact ⟨_, rfl, HE2.out⟩
          · go_wp2_with fail
            go_meet
            case rel => exact ⟨data, rfl, HH.out⟩
        case rest =>
          obtain ⟨S, rfl, hh⟩ := hcut
          clear CPG CLF CPR CPH HT HH x0 x1 x2 x3
          have HE := Lib.hid (hh.more (Below.refl _ _).drew)
          clear hh
          go_upto_region 16 with (fail)
          obtain ⟨⟨y0, y1, y2, y3⟩, _⟩ := box4 HE.out.box
          go_region_with (first
            | (go_at_call 21; (with_reducible refine (CW.out _ _ _ HE.out.disk).mono ?_); rintro e wb ⟨u, rfl, hu, hBb⟩; obtain ⟨F1, F2, F3, F4, F5, F6, rfl⟩ := hu.parts; (with_reducible have HW := Lib.hid (HE.out.more hBb)); have HU := Lib.hid hu; clear hu hBb; obtain ⟨_, g0, g1, g2, g3⟩ := box4 HW.out.box))
          all_goals
            obtain ⟨X, hX, hn⟩ := HW.out.put HU.out
            have HXX := Lib.hid hX
            have HNN := Lib.hid hn
            clear hX hn
            go_wp2_with fail
            rw [HXX.out]
            exact ⟨⟨i + 1, _, _, _, _, _, _, _, by omega, by go_num, HNN.out, HST2.out _⟩, by simp [intOf]; omega⟩


end Go.Proofs.YtnbbijpmkhdgpaaGreat.Vlt
