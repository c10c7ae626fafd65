/- ItemPlays: the walk. No statement is proved here. -/
import Derived.Test.YtgnhjcgegibpdaaRPut
import Derived.Test.YtgnhjcgegibpdaaBytes
import Derived.Test.YtgnhjcgegibpdaaSort
namespace Go.Proofs.Ytgnhjcgegibpdaa
open Go.RowKit
open Go.Sort (grow)

theorem rput_its (v : Value) (l : List It) (x : It) (w : World) (hv : Its w v l) (hl : l.length ≤ 1000) : Calls Try.prog 19 #[v, itV x] w fun e w' => ∃ v', e = .returned v' ∧ Its w' v' (putL x l) ∧ Below w.heap.size w w' :=
  (rput_calls v l x w hv hl).mono fun _ _ ⟨v', h1, h2, h3⟩ => ⟨v', h1, h2.its, h3⟩
theorem drop_its (v : Value) (l : List It) (k : List UInt8) (s : Int) (w : World) (hv : Its w v l) (hl : l.length ≤ 1000) : Calls Try.prog 20 #[v, .string (strB k), .int .i64 s] w fun e w' => ∃ v', e = .returned v' ∧ Its w' v' (dropL k s l) ∧ Below w.heap.size w w' :=
  (drop_calls v l k s w hv hl).mono fun _ _ ⟨v', h1, h2, h3⟩ => ⟨v', h1, h2.its, h3⟩
theorem rdrop_its (v : Value) (l : List It) (k : List UInt8) (s : Int) (w : World) (hv : Its w v l) (hl : l.length ≤ 1000) : Calls Try.prog 21 #[v, .string (strB k), .int .i64 s] w fun e w' => ∃ v', e = .returned v' ∧ Its w' v' (dropL k s l) ∧ Below w.heap.size w w' :=
  (rdrop_calls v l k s w hv hl).mono fun _ _ ⟨v', h1, h2, h3⟩ => ⟨v', h1, h2.its, h3⟩

theorem at7_and {W : World} {b o : Nat} {x : It} (h : At7 W b o x) : W.cell? ⟨b, o, none⟩ = some (.string (strB x.key)) ∧ W.cell? ⟨b, o + 1, none⟩ = some (.int .i64 x.seq) ∧ W.cell? ⟨b, o + 2, none⟩ = some (.int .i64 x.ver) ∧ W.cell? ⟨b, o + 3, none⟩ = some (.bool x.mark) ∧ W.cell? ⟨b, o + 4, none⟩ = some (.string (strB x.mt)) ∧ W.cell? ⟨b, o + 5, none⟩ = some (.string (strB x.tag)) ∧ W.cell? ⟨b, o + 6, none⟩ = some (.string (strB x.body)) :=
  ⟨h.c0, h.c1, h.c2, h.c3, h.c4, h.c5, h.c6⟩

/-- What lies in W: the two lists, alike. -/
structure PW (w : World) (X Y : List It) (u v : Value) (W : World) : Prop where
  u : Its W u X
  v : Its W v Y
  below : Below w.heap.size w W
theorem PW.more {w : World} {X Y : List It} {u v : Value} {W W' : World} (h : PW w X Y u v W) (hb : Below W.heap.size W W') : PW w X Y u v W' := ⟨h.u.below hb, h.v.below hb, below_trans' h.below hb⟩

set_option maxRecDepth 100000 in
set_option maxHeartbeats 32000000 in
theorem plays_calls (v : Value) (l : List It) (gv : Value) (gs : List Nat) (w : World) (hv : Its w v l) (hlm : l.length ≤ 9223372036854775000)
    (hsz : ∀ x ∈ l, x.key.length ≤ 1000000000000000 ∧ x.mt.length ≤ 1000000000000000 ∧ x.tag.length ≤ 1000000000000000 ∧ x.body.length ≤ 1000000000000000) (hg : Bys w gv gs) :
    Calls Try.prog 4 #[v, gv] w fun e w' => e = .returned (.bool true) ∧ Below w.heap.size w w' := by
  have HS := Lib.hid (small_calls v l w hv hlm hsz)
  clear hsz
  obtain ⟨A, c, rfl⟩ := hv.form
  obtain ⟨Ag, cg, rfl, hgc, hgl, hgat⟩ := hg
  obtain ⟨n, hn⟩ : ∃ n, n = l.length := ⟨_, rfl⟩
  rw [← hn] at hv hlm HS ⊢
  obtain ⟨gn, hgn⟩ : ∃ gn, gn = gs.length := ⟨_, rfl⟩
  rw [← hgn] at hgc hgl hgat ⊢
  have HN := Lib.hid hn
  have HGN := Lib.hid hgn
  have HV := Lib.hid hv
  have HG := Lib.hid hgat
  clear hn hv hgn hgat
  go_enter Try.func4, Try.ntmps4
  go_wp2_with fail
  with_reducible refine HS.out.mono ?_
  rintro e w1 ⟨b, rfl, hb, hB1⟩
  clear HS
  cases b with
  | false =>
    clear hb
    go_wp2_with fail
    with_reducible refine (awake_true _).mono ?_
    rintro e w2 ⟨rfl, hB2⟩
    go_wp2_with fail
    go_ret
    exact ⟨rfl, below_trans' hB1 hB2⟩
  | true =>
    have h60 := (hb rfl).1
    clear hb hlm
    have HB1 := Lib.hid hB1
    clear hB1
    go_wp2_with fail
    go_loopw [5, 6, 7] (fun u5 u6 u7 wr => ∃ (i : Nat) (X : List It), i ≤ n ∧ u7 = .int .i64 i ∧ X.length ≤ i ∧ PW w X X u5 u6 wr) (fun _ _ u _ => n - (intOf u).toNat)
    case atStart => exact ⟨0, [], Nat.zero_le _, rfl, by simp, Its.nil _, Its.nil _, HB1.out⟩
    case round =>
      obtain ⟨i, X, hi', rfl, hXl, hpw⟩ := hrel
      obtain ⟨w2, rfl⟩ : ∃ w2, w2 = wr := ⟨_, rfl⟩
      have HPW := Lib.hid (hpw.more (Below.refl _ _).drew)
      clear hpw HB1
      by_cases hlt : i < n
      · obtain ⟨x, hx⟩ : ∃ x, l[i]? = some x := ⟨_, List.getElem?_eq_getElem (by have := HN.out; omega)⟩
        obtain ⟨b, off, rfl, hbl, hcell⟩ := HV.out.at_.2.2 (by omega)
        have HX := Lib.hid (hcell i x hx)
        have HC := Lib.hid hcell
        have hi1 : (0 : Int) ≤ (i : Int) := by omega
        have hi2 : (i : Int) < (n : Int) := by omega
        have hp := fun W => put_its u5 X x W
        have hq := fun W => rput_its u6 X x W
        unfold itV at hp hq
        have HP := Lib.hid hp
        have HQ := Lib.hid hq
        clear hcell hx hp hq
        have hX1 : X.length ≤ 1000 := by omega
        have hpl := put_len x X
        go_wp2_with fail
        go_region_held3 (fun W => W.cell? ⟨b, off + i * 7, none⟩ = some (.string (strB x.key)) ∧ W.cell? ⟨b, off + i * 7 + 1, none⟩ = some (.int .i64 x.seq) ∧ W.cell? ⟨b, off + i * 7 + 2, none⟩ = some (.int .i64 x.ver) ∧ W.cell? ⟨b, off + i * 7 + 3, none⟩ = some (.bool x.mark) ∧ W.cell? ⟨b, off + i * 7 + 4, none⟩ = some (.string (strB x.mt)) ∧ W.cell? ⟨b, off + i * 7 + 5, none⟩ = some (.string (strB x.tag)) ∧ W.cell? ⟨b, off + i * 7 + 6, none⟩ = some (.string (strB x.body))) (exact at7_and (HX.out.below hbl HPW.out.below)) (first
          | (go_at_call 18; (with_reducible refine (HP.out _ HPW.out.u hX1).mono ?_); rintro e wa ⟨va, rfl, hva, hBa⟩; (try replace HR := Lib.hid (HR.out.below hBa)); replace HPW := Lib.hid (HPW.out.more hBa); have HL := Lib.hid hva; clear hva hBa)
          | (go_at_call 19; (with_reducible refine (HQ.out _ HPW.out.v hX1).mono ?_); rintro e wa ⟨va, rfl, hva, hBa⟩; (try replace HL := Lib.hid (HL.out.below hBa)); replace HPW := Lib.hid (HPW.out.more hBa); have HR := Lib.hid hva; clear hva hBa))
        all_goals
          have HPY : Hid (PW w (putL x X) (putL x X) _ _ wa) := Lib.hid ⟨HL.out, HR.out, HPW.out.below⟩
          clear HL HR HPW HP HQ HX
          have hY60 : (putL x X).length ≤ 61 := by omega
          have hYl : (putL x X).length ≤ i + 1 := by omega
          obtain ⟨Y, hY⟩ : ∃ Y, Y = putL x X := ⟨_, rfl⟩
          rw [← hY] at HPY hY60 hYl
          clear hY hpl
          obtain ⟨AL, cL, rfl⟩ := HPY.out.u.form
          obtain ⟨AR, cR, rfl⟩ := HPY.out.v.form
          by_cases hgi : i < gn
          · obtain ⟨g, hg⟩ : ∃ g, gs[i]? = some g := ⟨_, List.getElem?_eq_getElem (by have := HGN.out; omega)⟩
            obtain ⟨bg, og, rfl, hbg, hgc'⟩ := HG.out (by omega)
            obtain ⟨hgcell, hg256⟩ := hgc' i g hg
            have hgw : wa.cell? ⟨bg, og + i, none⟩ = some (.int .u8 (g : Nat)) := (HPY.out.below.cell (p := ⟨bg, og + i, none⟩) hbg).trans hgcell
            have hg2 : (i : Int) < (gn : Int) := by omega
            clear hg hgc' hgcell
            by_cases h3 : g % 3 = 0
            · have hb3 : ((g : Int) % 3 == 0) = true := by simpa using (by omega : (g : Int) % 3 = 0)
              have hr1 : (0 : Int) ≤ (g : Int) % (n : Int) := Int.emod_nonneg _ (by omega)
              have hr2 : (g : Int) % (n : Int) < (n : Int) := Int.emod_lt_of_pos _ (by omega)
              have hr3 : g % n < n := Nat.mod_lt _ (by omega)
              obtain ⟨z, hz⟩ : ∃ z, l[g % n]? = some z := ⟨_, List.getElem?_eq_getElem (by have := HN.out; omega)⟩
              obtain ⟨c0, c1, c2, c3, c4, c5, c6⟩ := (HC.out (g % n) z hz).below hbl HPY.out.below
              clear h3 hz
              have hbz : Box (wa.alloc (.cells #[.string (strB z.key), .int .i64 z.seq, .int .i64 z.ver, .bool z.mark, .string (strB z.mt), .string (strB z.tag), .string (strB z.body)] 24)) wa.heap.size z := heap_alloc_new wa _
              have HBZ : Hid (Box (wa.alloc (.cells #[.string (strB z.key), .int .i64 z.seq, .int .i64 z.ver, .bool z.mark, .string (strB z.mt), .string (strB z.tag), .string (strB z.body)] 24)).drew wa.heap.size z) := Lib.hid hbz
              have HPZ := Lib.hid ((HPY.out.more (below_one wa (.cells #[.string (strB z.key), .int .i64 z.seq, .int .i64 z.ver, .bool z.mark, .string (strB z.mt), .string (strB z.tag), .string (strB z.body)] 24))).more (Below.refl _ _).drew)
              have hY1 : Y.length ≤ 1000 := by omega
              have hD1 : (dropL z.key z.seq Y).length ≤ 1000 := Nat.le_trans (List.length_filter_le _ _) hY1
              have hD2 : (dropL z.key z.seq Y).length ≤ i + 1 := Nat.le_trans (List.length_filter_le _ _) hYl
              clear hbz HPY
              go_wp2_with fail
              go_region_held3 (fun W => W.cell? ⟨wa.heap.size, 0, none⟩ = some (.string (strB z.key)) ∧ W.cell? ⟨wa.heap.size, 1, none⟩ = some (.int .i64 z.seq)) (exact ⟨(box7 HBZ.out).1, (box7 HBZ.out).2.1⟩) (first
                | (go_at_call 20; (with_reducible refine (drop_its _ Y z.key z.seq _ HPZ.out.u hY1).mono ?_); rintro e wb ⟨vb, rfl, hvb, hBb⟩; (try replace HR := Lib.hid (HR.out.below hBb)); replace HPZ := Lib.hid (HPZ.out.more hBb); replace HBZ := Lib.hid (HBZ.out.below hBb); have HL := Lib.hid hvb; clear hvb hBb)
                | (go_at_call 21; (with_reducible refine (rdrop_its _ Y z.key z.seq _ HPZ.out.v hY1).mono ?_); rintro e wb ⟨vb, rfl, hvb, hBb⟩; (try replace HL := Lib.hid (HL.out.below hBb)); replace HPZ := Lib.hid (HPZ.out.more hBb); replace HBZ := Lib.hid (HBZ.out.below hBb); have HR := Lib.hid hvb; clear hvb hBb))
              all_goals
                have HPU : Hid (PW w (dropL z.key z.seq Y) (dropL z.key z.seq Y) _ _ wb) := Lib.hid ⟨HL.out, HR.out, HPZ.out.below⟩
                clear HL HR HPZ HBZ
                go_wp2_with fail
                with_reducible refine (same_calls _ _ (dropL z.key z.seq Y) (dropL z.key z.seq Y) _ HPU.out.u HPU.out.v hD1).mono ?_
                rintro e wc ⟨rfl, hBc⟩
                rw [decide_eq_true rfl]
                go_wp2_with fail
                exact ⟨⟨i + 1, dropL z.key z.seq Y, by omega, by go_num, hD2, HPU.out.more hBc⟩, by simp [intOf]; omega⟩
            · have hb3 : ((g : Int) % 3 == 0) = false := by simpa using (by omega : ¬ (g : Int) % 3 = 0)
              clear h3
              go_wp2_with fail
              with_reducible refine (same_calls _ _ Y Y _ HPY.out.u HPY.out.v (by omega)).mono ?_
              rintro e wb ⟨rfl, hBb⟩
              rw [decide_eq_true rfl]
              go_wp2_with fail
              exact ⟨⟨i + 1, Y, by omega, by go_num, by omega, HPY.out.more hBb⟩, by simp [intOf]; omega⟩
          · have hg2 : ¬ (i : Int) < (gn : Int) := by omega
            go_wp2_with fail
            with_reducible refine (same_calls _ _ Y Y _ HPY.out.u HPY.out.v (by omega)).mono ?_
            rintro e wb ⟨rfl, hBb⟩
            rw [decide_eq_true rfl]
            go_wp2_with fail
            exact ⟨⟨i + 1, Y, by omega, by go_num, by omega, HPY.out.more hBb⟩, by simp [intOf]; omega⟩
      · have hin : ¬ (i : Int) < (n : Int) := by omega
        go_wp2_with fail
        with_reducible refine (awake_true _).mono ?_
        rintro e wb ⟨rfl, hBb⟩
        go_wp2_with fail
        go_ret
        have hbw := HPW.out.below
        exact ⟨rfl, below_trans' (show Below w.heap.size w w2 from ⟨hbw.os, hbw.tape, hbw.output, hbw.size, hbw.block⟩) hBb⟩

end Go.Proofs.Ytgnhjcgegibpdaa
