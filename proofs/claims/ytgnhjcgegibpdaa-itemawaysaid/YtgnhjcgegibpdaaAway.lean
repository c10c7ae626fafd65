/- ItemAway: the walk. No statement is proved here. -/
import Derived.Test.YtgnhjcgegibpdaaAwake
import Derived.Test.YtgnhjcgegibpdaaGone
import Derived.Deep.RegionHeld3
namespace Go.Proofs.Ytgnhjcgegibpdaa
open Go.RowKit
open Go.Sort (grow)

theorem drop_own (v : Value) (l : List It) (x : It) (w : World) (hv : Its w v l) (hl : l.length ≤ 1000) : Calls Try.prog 20 #[v, .string (strB x.key), .int .i64 x.seq] w fun e w' => ∃ v', e = .returned v' ∧ Its w' v' (dropL x.key x.seq l) ∧ Below w.heap.size w w' :=
  (drop_calls v l x.key x.seq w hv hl).mono fun e w' ⟨v', h1, h2, h3⟩ => ⟨v', h1, h2.its, h3⟩

theorem Its.drew {w : World} {v : Value} {l : List It} (h : Its w v l) : Its w.drew v l := h.below (Below.refl _ _).drew

/-- What lies in W at the end: the items X, what is left of them, twice, and x. -/
structure AW (w : World) (x : It) (X : List It) (a d e : Value) (W : World) : Prop where
  a : Its W a X
  d : Its W d (dropL x.key x.seq X)
  e : Its W e (dropL x.key x.seq X)
  b : Box W w.heap.size x
  below : Below w.heap.size w W
theorem AW.more {w : World} {x : It} {X : List It} {a d e : Value} {W W' : World} (h : AW w x X a d e W) (hb : Below W.heap.size W W') : AW w x X a d e W' :=
  ⟨h.a.below hb, h.d.below hb, h.e.below hb, h.b.below hb, below_trans' h.below hb⟩
theorem of_its (v : Value) (l : List It) (k : List UInt8) (w : World) (hv : Its w v l) (hl : l.length ≤ 1000) : Calls Try.prog 16 #[v, .string (strB k)] w fun e w' => ∃ v', e = .returned v' ∧ Its w' v' (ofL k l) ∧ Below w.heap.size w w' :=
  (of_calls v l k w hv hl).mono fun e w' ⟨v', h1, h2, h3⟩ => ⟨v', h1, h2.its, h3⟩

set_option maxRecDepth 100000 in
set_option maxHeartbeats 16000000 in
theorem away_calls (v : Value) (l : List It) (x : It) (w : World) (hv : Its w v l) (hlm : l.length ≤ 9223372036854775000)
    (hsz : ∀ x ∈ l, x.key.length ≤ 1000000000000000 ∧ x.mt.length ≤ 1000000000000000 ∧ x.tag.length ≤ 1000000000000000 ∧ x.body.length ≤ 1000000000000000)
    (hsx : x.key.length ≤ 1000000000000000 ∧ x.mt.length ≤ 1000000000000000 ∧ x.tag.length ≤ 1000000000000000 ∧ x.body.length ≤ 1000000000000000) :
    Calls Try.prog 6 #[v, itV x] w fun e w' => e = .returned (.bool true) ∧ Below w.heap.size w w' := by
  obtain ⟨CX, hCX⟩ : ∃ CX : Obj, CX = .cells #[.string (strB x.key), .int .i64 x.seq, .int .i64 x.ver, .bool x.mark, .string (strB x.mt), .string (strB x.tag), .string (strB x.body)] 24 := ⟨_, rfl⟩
  have hb0 := below_one w CX
  have hS0 := small_calls v l (w.alloc CX) (hv.below hb0) hlm hsz
  have hbx : Box (w.alloc CX) w.heap.size x := by rw [hCX]; exact heap_alloc_new w _
  have hS1 : ∀ W : World, Calls Try.prog 7 #[.slice (some ⟨W.heap.size, 0, none⟩) 1 1] (W.alloc CX) fun e w' => ∃ b, e = .returned (.bool b) ∧ (b = true → [x].length ≤ 60 ∧ ∀ y ∈ [x], y.key.length ≤ 2500) ∧ Below (W.alloc CX).heap.size (W.alloc CX) w' := fun W => by
    rw [hCX]
    exact small_calls _ [x] _ (build1 W x) (by simp) (fun y hy => by rw [List.mem_singleton.1 hy]; exact hsx)
  rw [hCX] at hS0 hS1 hb0 hbx
  have HS0 := Lib.hid hS0
  have HS1 := Lib.hid hS1
  have HB0 := Lib.hid hb0
  have HBX := Lib.hid hbx
  obtain ⟨A, c, rfl⟩ := hv.form
  obtain ⟨n, hn⟩ : ∃ n, n = l.length := ⟨_, rfl⟩
  rw [← hn] at hv hlm HS0 ⊢
  have HN := Lib.hid hn
  have HV := Lib.hid hv
  clear hn hv hsz hsx hS0 hS1 hb0 hbx hCX
  unfold itV
  go_enter Try.func6, Try.ntmps6
  go_wp2_with fail
  with_reducible refine HS0.out.mono ?_
  rintro e w1 ⟨b, rfl, hb, hB1⟩
  have HB1 := Lib.hid (below_trans' HB0.out hB1)
  have HX1 := Lib.hid (HBX.out.below hB1)
  clear HS0 HB0 HBX
  cases b with
  | false =>
    clear hb HS1
    go_wp2_with fail
    with_reducible refine (awake_true _).mono ?_
    rintro e w2 ⟨rfl, hB2⟩
    go_wp2_with fail
    go_ret
    exact ⟨rfl, below_trans' HB1.out hB2⟩
  | true =>
    have h60 := (hb rfl).1
    clear hb hlm hB1
    obtain ⟨p0, p1, p2, p3, p4, p5, p6⟩ := box7 HX1.out
    go_wp2_with fail
    with_reducible refine (HS1.out _).mono ?_
    rintro e w2 ⟨b, rfl, _, hB2⟩
    have HB2 := Lib.hid (below_trans' (below_trans' HB1.out (below_one _ _)) hB2)
    have HX2 := Lib.hid ((HX1.out.below (below_one _ _)).below hB2)
    clear HS1 hB2 p0 p1 p2 p3 p4 p5 p6 HB1 HX1
    cases b with
    | false =>
      go_wp2_with fail
      with_reducible refine (awake_true _).mono ?_
      rintro e w3 ⟨rfl, hB3⟩
      go_wp2_with fail
      go_ret
      exact ⟨rfl, below_trans' HB2.out hB3⟩
    | true =>
      go_wp2_with fail
      go_loopw [5, 6] (fun u5 u6 w3 => ∃ i : Nat, i ≤ n ∧ u6 = .int .i64 i ∧ Its w3 u5 (built l i) ∧ Below w2.heap.size w2 w3) (fun _ u _ => n - (intOf u).toNat)
      case atStart => exact ⟨0, Nat.zero_le _, rfl, Its.nil _, Below.refl _ _⟩
      case round =>
        obtain ⟨i, hi', rfl, hI, hbr⟩ := hrel
        obtain ⟨w3, rfl⟩ : ∃ w3, w3 = wr := ⟨_, rfl⟩
        have HBR := Lib.hid (below_trans' HB2.out hbr)
        have HB3 := Lib.hid hbr
        have HI := Lib.hid hI
        have hbl0 := built_len l i
        clear hbr hI
        by_cases hlt : i < n
        · obtain ⟨z, hz⟩ : ∃ z, l[i]? = some z := ⟨_, List.getElem?_eq_getElem (by have := HN.out; omega)⟩
          obtain ⟨b, off, rfl, hbl, hcell⟩ := HV.out.at_.2.2 (by omega)
          obtain ⟨c0, c1, c2, c3, c4, c5, c6⟩ := (hcell i z hz).below hbl HBR.out
          have hi1 : (0 : Int) ≤ (i : Int) := by omega
          have hi2 : (i : Int) < (n : Int) := by omega
          have hp := put_its _ _ z _ HI.out (by omega)
          unfold itV at hp
          have HP := Lib.hid hp
          have HZ := Lib.hid (built_next hz)
          clear hcell hz hp
          go_wp2_with fail
          with_reducible refine HP.out.mono ?_
          rintro e w4 ⟨v4, rfl, hv4, hB4⟩
          go_wp2_with fail
          exact ⟨⟨i + 1, by omega, by go_num, by rw [HZ.out]; exact hv4, below_trans' HB3.out hB4⟩, by simp [intOf]; omega⟩
        · have hin : ¬ (i : Int) < (n : Int) := by omega
          obtain ⟨X, hX⟩ : ∃ X, X = built l i := ⟨_, rfl⟩
          have hXs := built_sorted l i
          rw [← hX] at hXs HI hbl0
          have HXS := Lib.hid hXs
          clear hX hXs
          have hX60 : X.length ≤ 60 := by omega
          have hX3 := HX2.out.below HB3.out
          obtain ⟨p0, p1, p2, p3, p4, p5, p6⟩ := box7 hX3
          have HX3 := Lib.hid hX3
          have hd := drop_own _ _ x _ HI.out (by omega)
          have HD := Lib.hid hd
          clear hX3 hd HX2
          obtain ⟨A3, c3', rfl⟩ := HI.out.form
          go_wp2_with fail
          with_reducible refine HD.out.mono ?_
          rintro e w4 ⟨v4, rfl, hv4, hB4⟩
          have HX4 := Lib.hid (HX3.out.below hB4)
          have HI4 := Lib.hid (HI.out.below hB4)
          have HV4 := Lib.hid hv4
          have HB4 := Lib.hid (below_trans' HBR.out hB4)
          clear hv4 hB4 HD HX3 HI p0 p1 p2 p3 p4 p5 p6 HBR HB3
          have hp := put_its _ X x w4.drew HI4.out.drew (by omega)
          unfold itV at hp
          have HP := Lib.hid hp
          have hpl := put_len x X
          clear hp
          go_wp2_with fail
          go_region_held3 (fun W => W.cell? ⟨w.heap.size, 0, none⟩ = some (.string (strB x.key)) ∧ W.cell? ⟨w.heap.size, 1, none⟩ = some (.int .i64 x.seq) ∧ W.cell? ⟨w.heap.size, 2, none⟩ = some (.int .i64 x.ver) ∧ W.cell? ⟨w.heap.size, 3, none⟩ = some (.bool x.mark) ∧ W.cell? ⟨w.heap.size, 4, none⟩ = some (.string (strB x.mt)) ∧ W.cell? ⟨w.heap.size, 5, none⟩ = some (.string (strB x.tag)) ∧ W.cell? ⟨w.heap.size, 6, none⟩ = some (.string (strB x.body))) (first | exact box7 HX4.out | exact box7 HX5.out | exact box7 HX6.out) (first | (go_at_call 18; (with_reducible refine HP.out.mono ?_); rintro e w5 ⟨v5, rfl, hv5, hB5⟩; have HX5 := Lib.hid (Box.below (w := w4.drew) HX4.out hB5); have HV5 := Lib.hid hv5; have HB5 := Lib.hid hB5; clear hv5 hB5) | (go_at_call 20; (with_reducible refine (drop_own _ (putL x X) x _ HV5.out (by omega)).mono ?_); rintro e w6 ⟨v6, rfl, hv6, hB6⟩; have HX6 := Lib.hid (HX5.out.below hB6); have HV6 := Lib.hid hv6; have HB6 := Lib.hid hB6; clear hv6 hB6))
          have hd6 := HV6.out
          rw [drop_put] at hd6
          have hX5 := (HI4.out.drew.below HB5.out).below HB6.out
          have hD5 := (HV4.out.drew.below HB5.out).below HB6.out
          have hb6 := below_trans' (below_trans' (HB4.out.drew) HB5.out) HB6.out
          have HAW : Hid (AW w x X (.slice A3 X.length c3') v4 v6 w6) := Lib.hid ⟨hX5, hD5, hd6, HX6.out, hb6⟩
          have hdl := drop_len x.key x.seq X
          have hol := of_len x.key x.seq X
          have hc1 := cnt_le (k := x.key) (s := x.seq) HXS.out
          have HOL := Lib.hid hol
          clear hd6 hX5 hD5 hb6 HV6 HX6 HB6 HV5 HX5 HB5 HP HV4 HI4 HX4 HB4 hol
          obtain ⟨m, hm⟩ : ∃ m, m = X.length := ⟨_, rfl⟩
          have HM := Lib.hid hm
          rw [← hm] at hdl hX60 HAW hbl0
          clear hm
          obtain ⟨A4, c4, rfl⟩ := HAW.out.d.form
          obtain ⟨A6, c6, rfl⟩ := HAW.out.e.form
          obtain ⟨dl, hdl'⟩ : ∃ dl, dl = (dropL x.key x.seq X).length := ⟨_, rfl⟩
          rw [← hdl'] at hdl HAW
          have HDL := Lib.hid hdl'
          obtain ⟨cn, hcn⟩ : ∃ cn, cn = cnt x.key x.seq X := ⟨_, rfl⟩
          rw [← hcn] at hdl hc1 HOL
          have HCN := Lib.hid hcn
          rw [← HM.out, ← hdl']
          clear hcn hdl'
          go_wp2_with fail
          go_loopw [9, 10] (fun u9 u10 w7 => ∃ j : Nat, j ≤ m ∧ u10 = .int .i64 j ∧ u9 = .int .i64 (cnt x.key x.seq (X.take j) : Nat) ∧ AW w x X (.slice A3 m c3') (.slice A4 dl c4) (.slice A6 dl c6) w7) (fun _ u _ => m - (intOf u).toNat)
          case atStart => exact ⟨0, Nat.zero_le _, rfl, rfl, HAW.out⟩
          case round =>
            obtain ⟨j, hj, rfl, rfl, haw⟩ := hrel
            obtain ⟨w7, rfl⟩ : ∃ w7, w7 = wr := ⟨_, rfl⟩
            replace HAW := Lib.hid haw
            clear haw
            by_cases hjm : j < m
            · obtain ⟨z, hz⟩ : ∃ z, X[j]? = some z := ⟨_, List.getElem?_eq_getElem (by have := HM.out; omega)⟩
              obtain ⟨b, off, rfl, hbl, hcell⟩ := HAW.out.a.at_.2.2 (by omega)
              obtain ⟨c0, c1, c2, c3, c4', c5, c6'⟩ := hcell j z hz
              obtain ⟨p0, p1, p2, p3, p4, p5, p6⟩ := box7 HAW.out.b
              have hj1 : (0 : Int) ≤ (j : Int) := by omega
              have hj2 : (j : Int) < (m : Int) := by omega
              have e1 := strB_toList z.key
              have e2 := strB_toList x.key
              have HNX := Lib.hid (cnt_next x.key x.seq hz)
              have hcl : cnt x.key x.seq (X.take j) ≤ j := Nat.le_trans (List.length_filter_le _ _) (by rw [List.length_take]; omega)
              obtain ⟨cj, hcj⟩ : ∃ cj, cj = cnt x.key x.seq (X.take j) := ⟨_, rfl⟩
              rw [← hcj] at hcl HNX ⊢
              clear hcell hz hcj
              by_cases hk' : z.key = x.key
              · have hkb : (z.key == x.key) = true := by simpa using hk'
                by_cases hs' : z.seq = x.seq
                · have hsb : (z.seq == x.seq) = true := by simpa using hs'
                  have hst : stays x.key x.seq z = false := by
                    cases h : stays x.key x.seq z with
                    | false => rfl
                    | true => exact absurd ⟨hk', hs'⟩ ((stays_iff _ _ _).1 h)
                  have hnx := HNX.out
                  rw [hst, if_neg (by simp)] at hnx
                  have HF := Lib.hid hnx
                  clear hk' hs' hst hnx HNX
                  go_wp2_with fail
                  go_quiet (fail)
                  go_wp2_with fail
                  exact ⟨⟨j + 1, by omega, by go_num, by rw [HF.out]; go_num, HAW.out.more (bdrewN (Below.refl _ _) _)⟩, by simp [intOf]; omega⟩
                · have hsb : (z.seq == x.seq) = false := by simpa using hs'
                  have hst : stays x.key x.seq z = true := (stays_iff _ _ _).2 fun h => hs' h.2
                  have hnx := HNX.out
                  rw [hst, if_pos rfl, Nat.add_zero] at hnx
                  have HF := Lib.hid hnx
                  clear hk' hs' hst hnx HNX
                  go_wp2_with fail
                  go_quiet (fail)
                  go_wp2_with fail
                  exact ⟨⟨j + 1, by omega, by go_num, by rw [HF.out]; rfl, HAW.out.more (bdrewN (Below.refl _ _) _)⟩, by simp [intOf]; omega⟩
              · have hkb : (z.key == x.key) = false := by simpa using hk'
                have hst : stays x.key x.seq z = true := (stays_iff _ _ _).2 fun h => hk' h.1
                have hnx := HNX.out
                rw [hst, if_pos rfl, Nat.add_zero] at hnx
                have HF := Lib.hid hnx
                clear hk' hst hnx HNX
                go_wp2_with fail
                go_quiet (fail)
                go_wp2_with fail
                exact ⟨⟨j + 1, by omega, by go_num, by rw [HF.out]; rfl, HAW.out.more (bdrewN (Below.refl _ _) _)⟩, by simp [intOf]; omega⟩
            · have hjm' : ¬ (j : Int) < (m : Int) := by omega
              rw [show X.take j = X by rw [show j = X.length by have := HM.out; omega, List.take_length], ← HCN.out]
              have hsm : dropL x.key x.seq X = dropL x.key x.seq X := rfl
              replace HAW := Lib.hid (HAW.out.more (Below.refl _ _).drew)
              have hdm : (dropL x.key x.seq X).length ≤ 1000 := by have := HDL.out; omega
              have hxm : X.length ≤ 1000 := by have := HM.out; omega
              have hol := HOL.out
              have hom : (ofL x.key X).length ≤ 1000 := Nat.le_trans (List.length_filter_le _ _) hxm
              obtain ⟨o1, ho1⟩ : ∃ o1, o1 = (ofL x.key (dropL x.key x.seq X)).length := ⟨_, rfl⟩
              obtain ⟨o2, ho2⟩ : ∃ o2, o2 = (ofL x.key X).length := ⟨_, rfl⟩
              rw [← ho1, ← ho2] at hol
              rw [← ho2] at hom
              have HO1 := Lib.hid ho1
              have HO2 := Lib.hid ho2
              have g1 : (m : Int) - (cn : Int) = (dl : Int) := by omega
              have g2 : (o2 : Int) - (cn : Int) = (o1 : Int) := by omega
              have g3 : (cn : Int) ≤ 1 := by omega
              have g4 : IntKind.i64.wrap ((m : Int) - (cn : Int)) = (dl : Int) := by rw [IntKind.wrap_i64]; omega
              have g5 : IntKind.i64.wrap ((o2 : Int) - (cn : Int)) = (o1 : Int) := by rw [IntKind.wrap_i64]; omega
              have g6 : IntKind.i64.wrap (dl : Int) = (dl : Int) := by rw [IntKind.wrap_i64]; omega
              have g7 : IntKind.i64.wrap (o1 : Int) = (o1 : Int) := by rw [IntKind.wrap_i64]; omega
              clear ho1 ho2 hsm
              go_wp2_with fail
              go_region_held3 (fun W => W.cell? ⟨w.heap.size, 0, none⟩ = some (.string (strB x.key))) (exact HAW.out.b.at_.c0) (first
                | (go_at_call 8; (with_reducible refine (awake_true _).mono ?_); rintro e wa ⟨rfl, hBa⟩; replace HAW := Lib.hid (HAW.out.more hBa); clear hBa)
                | (go_at_call 15; (with_reducible refine (same_calls _ _ (dropL x.key x.seq X) (dropL x.key x.seq X) _ HAW.out.d HAW.out.e hdm).mono ?_); rintro e wa ⟨rfl, hBa⟩; replace HAW := Lib.hid (HAW.out.more hBa); clear hBa)
                | (go_at_call 16; (with_reducible refine (of_its _ _ x.key _ HAW.out.d hdm).mono ?_); rintro e wa ⟨va, rfl, hva, hBa⟩; replace HAW := Lib.hid (HAW.out.more hBa); obtain ⟨Aa, ca, rfl⟩ := its_len hva o1 HO1.out.symm; clear hva hBa)
                | (go_at_call 16; (with_reducible refine (of_its _ _ x.key _ HAW.out.a hxm).mono ?_); rintro e wa ⟨va, rfl, hva, hBa⟩; replace HAW := Lib.hid (HAW.out.more hBa); obtain ⟨Aa, ca, rfl⟩ := its_len hva o2 HO2.out.symm; clear hva hBa))
              all_goals
                go_wp2_with fail
                go_ret
                exact ⟨rfl, HAW.out.below⟩

end Go.Proofs.Ytgnhjcgegibpdaa
