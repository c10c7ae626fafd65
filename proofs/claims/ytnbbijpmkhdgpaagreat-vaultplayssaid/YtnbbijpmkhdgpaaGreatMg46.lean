/- Contracts and plain mathematics that the statement's proof wants: no statement is proved here, nothing is assumed. -/
import Derived.Test.YtnbbijpmkhdgpaaGreatMg22
import Derived.Test.YtnbbijpmkhdgpaaGreatMg25
import Derived.Test.YtnbbijpmkhdgpaaGreatMg45
/- VRJour -/
namespace Go.Proofs.YtnbbijpmkhdgpaaGreat.Vlt
open Go.RowKit Go.Sort
open Dsk
open Ent (isE parseE En enV EBox enC)

/-- What lies: the disk's box, the shape's. -/
structure RJB (w W : World) (x : Sh) (vs vw : Value) (d : DK) : Prop where
  dk : W.heap[w.heap.size]? = some (.cells #[vs, vw, .bool d.dead, .int .i64 d.left] 28 (0, 0))
  isd : IsDisk W (.agg #[vs, vw, .bool d.dead, .int .i64 d.left]) d
  sh : SBox W (w.heap.size + 1) x
theorem RJB.more {w W W' : World} {x : Sh} {vs vw : Value} {d : DK} (h : RJB w W x vs vw d) (k : Below W.heap.size W W') : RJB w W' x vs vw d :=
  ⟨box_kept _ h.dk k, h.isd.below k, h.sh.below k⟩
theorem RJB.low {w W W' : World} {x : Sh} {vs vw : Value} {d : DK} {B : Nat} (h : RJB w W x vs vw d) (k : Below B W W') (hB : w.heap.size + 2 ≤ B) (hd : IsDisk W' (.agg #[vs, vw, .bool d.dead, .int .i64 d.left]) d) : RJB w W' x vs vw d :=
  ⟨(k.block _ (by omega)).trans h.dk, hd, h.sh.keep (k.block _ (by omega))⟩

set_option maxRecDepth 100000 in
set_option maxHeartbeats 32000000 in
theorem rjournal_calls (v : Value) (d : DK) (x : Sh) (w : World) {nn ii : Nat} (hv : IsDisk w v d) (hp : Pl nn ii d) (hnn : nn ≤ 2000) (hii : ii ≤ 2000) (J : Nat) (hJ : x.journal = J) (hJ2 : J ≤ 256) :
    Calls Tryz.prog 74 #[v, shV x] w fun e w' => ∃ vl, e = .returned (.tuple #[vl, .int .i64 (mostF (secK d) J)]) ∧ IsLfs w' vl (jl x.pages J (secK d)) ∧ Below w.heap.size w w' := by
  obtain ⟨X1, X2, X3, X4, X5, X6, rfl⟩ := hv.parts
  obtain ⟨i1, hi0, hz0, hz1, hz2⟩ := info_parts info48
  have hdok := hp.ok hnn hii
  have HDK := Lib.hid (And.intro hdok hp.rise)
  have HV := Lib.hid hv
  obtain ⟨Y, hY, hB, hBY⟩ : ∃ Y, Y = (w.alloc (.cells #[.slice X1 X2 X3, .slice X4 X5 X6, .bool d.dead, .int .i64 d.left] 28)).alloc (.cells #[.int .i64 x.pages, .int .i64 x.journal] 30) ∧ RJB w Y x (.slice X1 X2 X3) (.slice X4 X5 X6) d ∧ Below w.heap.size w Y ∧ Y.heap.size = w.heap.size + 2 := by
    have b1 := below_one w (.cells #[.slice X1 X2 X3, .slice X4 X5 X6, .bool d.dead, .int .i64 d.left] 28)
    have b2 := below_one (w.alloc (.cells #[.slice X1 X2 X3, .slice X4 X5 X6, .bool d.dead, .int .i64 d.left] 28)) (.cells #[.int .i64 x.pages, .int .i64 x.journal] 30)
    refine ⟨_, rfl, ⟨box_kept _ (heap_alloc_new w _) b2, (hv.below b1).below b2, ?_⟩, Dsk.below_trans' b1 b2, by simp⟩
    have := SBox.new (w.alloc (.cells #[.slice X1 X2 X3, .slice X4 X5 X6, .bool d.dead, .int .i64 d.left] 28)) x
    simpa using this
  obtain ⟨hBY, hYs⟩ := hBY
  have HY := Lib.hid hY
  have HJB := Lib.hid hB
  have HBY := Lib.hid hBY
  have HYS := Lib.hid hYs
  obtain ⟨B, hBB⟩ : ∃ B, B = w.heap.size + 2 := ⟨_, rfl⟩
  have HBB := Lib.hid hBB
  clear hv hp hdok hY hB hBY hYs hBB
  unfold shV
  rw [hJ] at HY ⊢
  go_enter Tryz.func74, Tryz.ntmps74
  go_wp2_with fail
  rw [← HY.out]
  clear HY
  go_loopw [6, 7, 8, 9, 10, 11] (fun s6 s7 s8 s9 s10 s11 wr => ∃ (k : Nat) (l : List Lf) (q m : Int) (wh op : Bool) (A : Option Addr) (c : Nat), k ≤ J ∧ s11 = .int .i64 k ∧ s6 = .slice A l.length c ∧ s7 = .int .i64 q ∧ s8 = .int .i64 m ∧ s9 = .bool wh ∧ s10 = .bool op ∧ l.length ≤ k ∧ Jst x.pages (secK d) k l q m wh op ∧ OwnL B wr (.slice A l.length c) l ∧ Below Y.heap.size Y wr) (fun _ _ _ _ _ s11 _ => J - (intOf s11).toNat)
  case atStart => exact ⟨0, [], 0, 0, false, true, none, 0, Nat.zero_le _, rfl, rfl, rfl, rfl, rfl, rfl, Nat.le_refl _, Jst.start _ _, OwnL.nil _ _, Below.refl _ _⟩
  case round =>
    obtain ⟨k, l, q, m, wh, op, A, c, hk, rfl, rfl, rfl, rfl, rfl, rfl, hlk, hjst, how, hbr⟩ := hrel
    have HJS := Lib.hid hjst
    have HOW := Lib.hid how
    have HBR := Lib.hid hbr
    have HLK := Lib.hid hlk
    clear hjst how hbr hlk
    by_cases hlt : k < J
    · have hi1 : (k : Int) < (J : Int) := by omega
      have s1 := (HJB.out.more HBR.out).sh.c1
      rw [hJ] at s1
      have hHB2 : wr.heap.size ≥ B := by have := HBR.out.size; have := HYS.out; have := HBB.out; omega
      obtain ⟨L, hL⟩ : ∃ L, L = logN (k : Int) := ⟨_, rfl⟩
      have hL2 : L = 1 + (k : Int) := by rw [hL]; unfold logN wrap64; omega
      have q1 := fun dd os => (HJB.out.more HBR.out).more (below_regrown wr dd os)
      have i0 := fun dd os => (box4 (q1 dd os).dk).1.1
      have i1' := fun dd os => (box4 (q1 dd os).dk).1.2.1
      have i2 := fun dd os => (box4 (q1 dd os).dk).1.2.2.1
      have i3 := fun dd os => (box4 (q1 dd os).dk).1.2.2.2
      have D1 := rg0 (rlog_calls (k : Int)) wr
      rw [← hL] at D1
      have D2 := fun dd os => Calls.regrown_of (rrd_calls _ d L (grow (redrawn wr dd) os) (q1 dd os).isd HDK.out.1 HDK.out.2)
      obtain ⟨S, hS⟩ : ∃ S, S = secK d k := ⟨_, rfl⟩
      have hS2 : rdS d L = strB S := by rw [hS, hL2]; unfold secK; rw [strB_of]
      rw [hS2] at D2
      obtain ⟨RE, hRE⟩ : ∃ r, r = rdE d L := ⟨_, rfl⟩
      rw [← hRE] at D2
      have D1 := Lib.hid D1
      have D2 := Lib.hid D2
      have HSS := Lib.hid hS
      clear q1 hS2 hRE hS hL2 hL
      go_wp2_with fail
      refine wp_region_quiet_below (by kernel_rfl) (by kernel_rfl) ?_
      (try simp only [List.append_eq, List.cons_append, List.nil_append])
      repeat (first | go_big_quiet_step (first | (with_reducible exact D1.out _ _) | (with_reducible exact D2.out _ _)))
      refine wpQuiet_nil ?_
      intro _ hw'
      obtain ⟨⟨dq, osq⟩, hw''⟩ := hw'
      subst hw''
      have HB2 := Lib.hid (Dsk.below_trans' HBR.out (below_regrown wr dq osq))
      have HO2 := Lib.hid (HOW.out.below (below_regrown wr dq osq))
      generalize grow (redrawn wr dq) osq = W1 at *
      clear i0 i1' i2 i3 D1 D2 s1 HOW
      go_wp2_with fail
      (with_reducible refine (Ent.rparse_calls S _).mono ?_)
      rintro e w3 ⟨rfl, hB3⟩
      obtain ⟨y, hy⟩ : ∃ y, y = parseE S := ⟨_, rfl⟩
      obtain ⟨ok, hok⟩ : ∃ b, b = isE S := ⟨_, rfl⟩
      rw [← hy, ← hok]
      have hyk : parseE (secK d k) = y := by rw [hy, ← HSS.out]
      have hokk : isE (secK d k) = ok := by rw [hok, ← HSS.out]
      have HYK := Lib.hid hyk
      have HOKK := Lib.hid hokk
      have HB4 : Hid (∀ o, Below Y.heap.size Y (w3.alloc o)) := Lib.hid (fun o => Dsk.below_trans' (Dsk.below_trans' HB2.out hB3) (below_one w3 o))
      have HO4 : Hid (∀ o, OwnL B (w3.alloc o) (.slice A l.length c) l) := Lib.hid (fun o => (HO2.out.below hB3).below (below_one w3 o))
      have t0 : ∀ o, (w3.alloc o).cell? ⟨w.heap.size + 1, 0, none⟩ = some (.int .i64 x.pages) := fun o => (HJB.out.more (HB4.out o)).sh.c0
      have t1 : ∀ o, (w3.alloc o).cell? ⟨w.heap.size + 1, 1, none⟩ = some (.int .i64 J) := fun o => by have := (HJB.out.more (HB4.out o)).sh.c1; rw [hJ] at this; exact this
      have HS3 : Hid (B ≤ w3.heap.size) := Lib.hid (by have := HB2.out.size; have := hB3.size; have := HYS.out; have := HBB.out; omega)
      obtain ⟨ys, yi, yl, yn, yd⟩ := y
      clear hB3 HB2 HO2 hy hok hyk hokk
      unfold enV
      dsimp only
      cases op with
      | false =>
        have hk0 := HJS.out.ipos rfl
        have hkz : ((k : Int) == 0) = false := by rw [beq_eq_false_iff_ne]; omega
        have JN := HJS.out.skip hk0
        rw [HYK.out, HOKK.out] at JN
        dsimp only at JN
        cases ok with
        | false =>
          rw [if_neg (by simp)] at JN
          have HJ2 := Lib.hid (JN)
          go_wp2_with fail
          exact ⟨⟨k + 1, l, q, m, wh, false, A, c, by omega, by go_num, rfl, rfl, rfl, rfl, rfl, by have := HLK.out; omega, HJ2.out, HO4.out _, HB4.out _⟩, by simp [intOf]; omega⟩
        | true =>
          rw [if_pos rfl] at JN
          have HJ2 := Lib.hid (JN)
          go_wp2_with fail
          exact ⟨⟨k + 1, l, q, max m ys, wh, false, A, c, by omega, by go_num, rfl, rfl, rfl, rfl, rfl, by have := HLK.out; omega, HJ2.out, HO4.out _, HB4.out _⟩, by simp [intOf]; omega⟩
      | true =>
        obtain rfl : wh = false := (HJS.out.iop rfl).1
        by_cases hk0 : k = 0
        · have JS := HJS.out.step HYK.out HOKK.out (q := ys) (by rw [if_pos hk0])
          dsimp only at JS
          have hkz : ((k : Int) == 0) = true := by rw [beq_iff_eq]; omega
          cases ok with
          | false =>
            rw [if_neg (by simp)] at JS
            clear hk0
            have HJ2 := Lib.hid (JS.2.2 (fun h => absurd h.1 (by simp)) (fun h => absurd h.1 (by simp)))
            go_wp2_with fail
            exact ⟨⟨k + 1, l, ys, m, false, false, A, c, by omega, by go_num, rfl, rfl, rfl, rfl, rfl, by have := HLK.out; omega, HJ2.out, HO4.out _, HB4.out _⟩, by simp [intOf]; omega⟩
          | true =>
            rw [if_pos rfl] at JS
            by_cases hi : yi = (k : Int)
            rotate_left
            · have hi2 : (yi == (k : Int)) = false := by simpa using hi
              have HJ2 := Lib.hid (JS.2.2 (fun h => hi h.2.2.1) (fun h => hi h.2.2.1))
              go_wp2_with fail
              exact ⟨⟨k + 1, l, ys, max m ys, false, false, A, c, by omega, by go_num, rfl, rfl, rfl, rfl, rfl, by have := HLK.out; omega, HJ2.out, HO4.out _, HB4.out _⟩, by simp [intOf]; omega⟩
            have hi2 : (yi == (k : Int)) = true := by simpa using hi
            cases yl with
            | true =>
              by_cases hn : yn = (l.length : Int)
              · have hn2 : (yn == (l.length : Int)) = true := by simpa using hn
                have HJ2 := Lib.hid (JS.2.1 ⟨rfl, rfl, hi, rfl, hn⟩)
                go_wp2_with fail
                exact ⟨⟨k + 1, l, ys, max m ys, true, false, A, c, by omega, by go_num, rfl, rfl, rfl, rfl, rfl, by have := HLK.out; omega, HJ2.out, HO4.out _, HB4.out _⟩, by simp [intOf]; omega⟩
              · have hn2 : (yn == (l.length : Int)) = false := by simpa using hn
                have HJ2 := Lib.hid (JS.2.2 (fun h => absurd h.2.2.2.1 (by simp)) (fun h => hn h.2.2.2.2))
                go_wp2_with fail
                exact ⟨⟨k + 1, l, ys, max m ys, false, false, A, c, by omega, by go_num, rfl, rfl, rfl, rfl, rfl, by have := HLK.out; omega, HJ2.out, HO4.out _, HB4.out _⟩, by simp [intOf]; omega⟩
            | false =>
              by_cases hn : yn < x.pages
              · have HJ2 := Lib.hid (JS.1 ⟨rfl, rfl, hi, rfl, hn⟩)
                have hll : l.length ≤ 256 := by have := HLK.out; omega
                have hS3 := HS3.out
                go_wp2_with (at_builtin; refine wpList_append_own_at _ (by rfl) (.tmp 88) (.tmp 94) 31 (by rfl) B 52 i1 _ 2 24 Tryz.underlying31 hi0 hz0 hz1 hz2 (by rfl) (by omega) _ l.length (lfCells l) (by rfl) (by exact World.ownsRow.alloc (HO4.out _) _) ⟨w3.heap.size + 1, 0, none⟩ 1 1 [.int .i64 yn, .string (strB yd)] (by rfl) (by rfl) (by exact newsL ⟨yn, yd⟩ (by simp)) (oneL ⟨yn, yd⟩) (Nat.le_trans (show l.length + 1 ≤ 1000000 by omega) (by decide)) (by omega) (by simp; omega) ?_; intro v' w' hown' hgrow' hnil' hat')
                obtain ⟨A', c', hA⟩ := (ownL_snoc (l := l) (x := ⟨yn, yd⟩) hown').form
                have HO5 : Hid (OwnL B w' v' (l ++ [⟨yn, yd⟩])) := Lib.hid (ownL_snoc (l := l) (x := ⟨yn, yd⟩) hown')
                have HB5 : Hid (Below Y.heap.size Y w') := Lib.hid (below_grown (Dsk.below_trans' (HB4.out _) (below_one _ _)) hgrow' (fun i hi => by have := (HO4.out (.cells #[] 0)).ge i hi; have := HYS.out; have := HBB.out; omega) (by have := (HB4.out (.cells #[] 0)).size; simp at this ⊢; omega))
                clear hown' hgrow' hnil' hat'
                subst hA
                go_wp2_with fail
                exact ⟨⟨k + 1, l ++ [⟨yn, yd⟩], ys, max m ys, false, true, A', c', by omega, by go_num, rfl, rfl, rfl, rfl, rfl, by have := HLK.out; simp; omega, HJ2.out, HO5.out, HB5.out⟩, by simp [intOf]; omega⟩
              · have hn3 : x.pages ≤ yn := by omega
                have HJ2 := Lib.hid (JS.2.2 (fun h => hn h.2.2.2.2) (fun h => absurd h.2.2.2.1 (by simp)))
                go_wp2_with fail
                exact ⟨⟨k + 1, l, ys, max m ys, false, false, A, c, by omega, by go_num, rfl, rfl, rfl, rfl, rfl, by have := HLK.out; omega, HJ2.out, HO4.out _, HB4.out _⟩, by simp [intOf]; omega⟩
        · have JS := HJS.out.step HYK.out HOKK.out (q := q) (by rw [if_neg hk0])
          dsimp only at JS
          have hkz : ((k : Int) == 0) = false := by rw [beq_eq_false_iff_ne]; omega
          cases ok with
          | false =>
            rw [if_neg (by simp)] at JS
            clear hk0
            have HJ2 := Lib.hid (JS.2.2 (fun h => absurd h.1 (by simp)) (fun h => absurd h.1 (by simp)))
            go_wp2_with fail
            exact ⟨⟨k + 1, l, q, m, false, false, A, c, by omega, by go_num, rfl, rfl, rfl, rfl, rfl, by have := HLK.out; omega, HJ2.out, HO4.out _, HB4.out _⟩, by simp [intOf]; omega⟩
          | true =>
            rw [if_pos rfl] at JS
            by_cases hs : ys = q
            rotate_left
            · have hs2 : (ys == q) = false := by simpa using hs
              have HJ2 := Lib.hid (JS.2.2 (fun h => hs h.2.1) (fun h => hs h.2.1))
              go_wp2_with fail
              exact ⟨⟨k + 1, l, q, max m ys, false, false, A, c, by omega, by go_num, rfl, rfl, rfl, rfl, rfl, by have := HLK.out; omega, HJ2.out, HO4.out _, HB4.out _⟩, by simp [intOf]; omega⟩
            have hs2 : (ys == q) = true := by simpa using hs
            have HSQ := Lib.hid hs
            clear hs
            by_cases hi : yi = (k : Int)
            rotate_left
            · have hi2 : (yi == (k : Int)) = false := by simpa using hi
              have HJ2 := Lib.hid (JS.2.2 (fun h => hi h.2.2.1) (fun h => hi h.2.2.1))
              go_wp2_with fail
              exact ⟨⟨k + 1, l, q, max m ys, false, false, A, c, by omega, by go_num, rfl, rfl, rfl, rfl, rfl, by have := HLK.out; omega, HJ2.out, HO4.out _, HB4.out _⟩, by simp [intOf]; omega⟩
            have hi2 : (yi == (k : Int)) = true := by simpa using hi
            cases yl with
            | true =>
              by_cases hn : yn = (l.length : Int)
              · have hn2 : (yn == (l.length : Int)) = true := by simpa using hn
                have HJ2 := Lib.hid (JS.2.1 ⟨rfl, HSQ.out, hi, rfl, hn⟩)
                go_wp2_with fail
                exact ⟨⟨k + 1, l, q, max m ys, true, false, A, c, by omega, by go_num, rfl, rfl, rfl, rfl, rfl, by have := HLK.out; omega, HJ2.out, HO4.out _, HB4.out _⟩, by simp [intOf]; omega⟩
              · have hn2 : (yn == (l.length : Int)) = false := by simpa using hn
                have HJ2 := Lib.hid (JS.2.2 (fun h => absurd h.2.2.2.1 (by simp)) (fun h => hn h.2.2.2.2))
                go_wp2_with fail
                exact ⟨⟨k + 1, l, q, max m ys, false, false, A, c, by omega, by go_num, rfl, rfl, rfl, rfl, rfl, by have := HLK.out; omega, HJ2.out, HO4.out _, HB4.out _⟩, by simp [intOf]; omega⟩
            | false =>
              by_cases hn : yn < x.pages
              · have HJ2 := Lib.hid (JS.1 ⟨rfl, HSQ.out, hi, rfl, hn⟩)
                have hll : l.length ≤ 256 := by have := HLK.out; omega
                have hS3 := HS3.out
                go_wp2_with (at_builtin; refine wpList_append_own_at _ (by rfl) (.tmp 88) (.tmp 94) 31 (by rfl) B 52 i1 _ 2 24 Tryz.underlying31 hi0 hz0 hz1 hz2 (by rfl) (by omega) _ l.length (lfCells l) (by rfl) (by exact World.ownsRow.alloc (HO4.out _) _) ⟨w3.heap.size + 1, 0, none⟩ 1 1 [.int .i64 yn, .string (strB yd)] (by rfl) (by rfl) (by exact newsL ⟨yn, yd⟩ (by simp)) (oneL ⟨yn, yd⟩) (Nat.le_trans (show l.length + 1 ≤ 1000000 by omega) (by decide)) (by omega) (by simp; omega) ?_; intro v' w' hown' hgrow' hnil' hat')
                obtain ⟨A', c', hA⟩ := (ownL_snoc (l := l) (x := ⟨yn, yd⟩) hown').form
                have HO5 : Hid (OwnL B w' v' (l ++ [⟨yn, yd⟩])) := Lib.hid (ownL_snoc (l := l) (x := ⟨yn, yd⟩) hown')
                have HB5 : Hid (Below Y.heap.size Y w') := Lib.hid (below_grown (Dsk.below_trans' (HB4.out _) (below_one _ _)) hgrow' (fun i hi => by have := (HO4.out (.cells #[] 0)).ge i hi; have := HYS.out; have := HBB.out; omega) (by have := (HB4.out (.cells #[] 0)).size; simp at this ⊢; omega))
                clear hown' hgrow' hnil' hat'
                subst hA
                go_wp2_with fail
                exact ⟨⟨k + 1, l ++ [⟨yn, yd⟩], q, max m ys, false, true, A', c', by omega, by go_num, rfl, rfl, rfl, rfl, rfl, by have := HLK.out; simp; omega, HJ2.out, HO5.out, HB5.out⟩, by simp [intOf]; omega⟩
              · have hn3 : x.pages ≤ yn := by omega
                have HJ2 := Lib.hid (JS.2.2 (fun h => hn h.2.2.2.2) (fun h => absurd h.2.2.2.1 (by simp)))
                go_wp2_with fail
                exact ⟨⟨k + 1, l, q, max m ys, false, false, A, c, by omega, by go_num, rfl, rfl, rfl, rfl, rfl, by have := HLK.out; omega, HJ2.out, HO4.out _, HB4.out _⟩, by simp [intOf]; omega⟩
    · have hkJ : k = J := by omega
      subst hkJ
      have hnl : decide ((k : Int) < (k : Int)) = false := by simp
      have s1 := (HJB.out.more HBR.out).sh.c1
      rw [hJ] at s1
      obtain ⟨e1, e2⟩ := HJS.out.done
      have HE1 := Lib.hid e1
      have HE2 := Lib.hid e2
      have HBF := Lib.hid (Dsk.below_trans' HBY.out HBR.out)
      clear e1 e2
      cases wh with
      | true =>
        go_wp2_with fail
        refine bodyPost_ret (v := .tuple #[.slice A l.length c, .int .i64 m]) (by simp [results, Tryz.results74, go_sem]) rfl ⟨_, by rw [HE1.out], ?_, HBF.out⟩
        have h := HE2.out
        rw [if_pos trivial] at h
        rw [← h]
        exact HOW.out.isLfs
      | false =>
        go_wp2_with fail
        refine bodyPost_ret (v := .tuple #[.slice none 0 0, .int .i64 m]) (by simp [results, Tryz.results74, go_sem]) rfl ⟨_, by rw [HE1.out], ?_, HBF.out⟩
        have h := HE2.out
        rw [if_neg (by simp)] at h
        rw [← h]
        exact IsLfs.nil _

end Go.Proofs.YtnbbijpmkhdgpaaGreat.Vlt
