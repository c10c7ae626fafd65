/- fresh.readRecord: what each call does. No statement is proved here. -/
import Derived.Test.YtkfjbhikibidiaaRRead
import Derived.Deep.RegionWith
namespace Go.Proofs.Ytkfjbhikibidiaa
open Go.RowKit
open Wire (TK TP But textL twoL fourL markS txtV txtS numV numS)

theorem Sps.but {w w' : World} {A : Option Addr} {n c b : Nat} {l : List (Int × Int)} (h : Sps w (.slice A n c) l) (hb : But b w w') (hA : ∀ p, A = some p → p.block ≠ b) : Sps w' (.slice A n c) l := by
  obtain ⟨A', c', e, hc, hr⟩ := h
  injection e with e1 e2 e3
  subst e1 e2 e3
  refine ⟨A, c, rfl, hc, fun hp => ?_⟩
  obtain ⟨b', off, e1, hl, hx⟩ := hr hp
  have hk : w'.heap[b']? = w.heap[b']? := hb.block b' hl (hA _ e1)
  exact ⟨b', off, e1, Nat.lt_of_lt_of_le hl hb.size, fun j x hj => ⟨(World.cell?_of_block (w := w) (w' := w') (a := ⟨b', off + j * 2, none⟩) hk).trans (hx j x hj).1, (World.cell?_of_block (w := w) (w' := w') (a := ⟨b', off + j * 2 + 1, none⟩) hk).trans (hx j x hj).2⟩⟩
theorem Sps.set {w : World} {A : Option Addr} {n c : Nat} {l : List (Int × Int)} (h : Sps w (.slice A n c) l) (a : Addr) (v : Value) (hA : ∀ p, A = some p → p.block ≠ a.block) : Sps (w.setCell a v) (.slice A n c) l :=
  h.keep (by simp [World.setCell]) (fun p hp => Below.heap_setCell _ _ _ _ (hA p hp))

set_option maxRecDepth 100000 in
set_option maxHeartbeats 8000000 in
theorem record_calls (b : Nat) (t : TK) (w : World) (ht : TP 50 w b t) :
    Calls Try.prog 23 #[.pointer (some ⟨b, 0, none⟩)] w fun e w' => ∃ A n c, e = .returned (recV (readR t) (.slice A n c)) ∧ Sps w' (.slice A n c) (readR t).spans ∧ (∀ p, A = some p → w.heap.size ≤ p.block) ∧ TP 50 w' b (readS t) ∧ But b w w' := by
  have hbl := ht.lt
  obtain ⟨Y, hY, hT0, hX0, hG0, hB0, hsz⟩ : ∃ Y, Y = (w.alloc (.cells (recC zeroR (.slice none 0 0)) 26)).alloc (.cells (recC zeroR (.slice none 0 0)) 26) ∧ TP 50 Y b t ∧ RBox Y (w.heap.size + 1) zeroR (.slice none 0 0) ∧ RBox Y w.heap.size zeroR (.slice none 0 0) ∧ But b w Y ∧ Y.heap.size = w.heap.size + 2 := by
    refine ⟨_, rfl, (ht.alloc _).alloc _, ?_, (RBox.new w _ _).below (below_one _ _), ((But.refl _ _).alloc _).alloc _, by simp⟩
    have := RBox.new (w.alloc (.cells (recC zeroR (.slice none 0 0)) 26)) zeroR (.slice none 0 0)
    rw [show (w.alloc (.cells (recC zeroR (.slice none 0 0)) 26)).heap.size = w.heap.size + 1 by simp] at this
    exact this
  have HY : Hid (Y = (w.alloc (.cells #[.string ⟨#[]⟩, .int .i64 0, .int .i64 0, .bool false, .string ⟨#[]⟩, .string ⟨#[]⟩, .string ⟨#[]⟩, .int .i64 0, .slice none 0 0] 26)).alloc (.cells #[.string ⟨#[]⟩, .int .i64 0, .int .i64 0, .bool false, .string ⟨#[]⟩, .string ⟨#[]⟩, .string ⟨#[]⟩, .int .i64 0, .slice none 0 0] 26)) := Lib.hid hY
  have hg1 : w.heap.size + 1 ≠ b := by omega
  have hg0 : w.heap.size ≠ b := by omega
  have HT := Lib.hid hT0
  have HX := Lib.hid hX0
  have HG := Lib.hid hG0
  have HB := Lib.hid hB0
  clear ht hT0 hX0 hG0 hB0 hY
  go_enter Try.func23, Try.ntmps23
  go_wp2_with fail
  rw [← HY.out]
  clear HY
  (with_reducible refine (Wire.ttext_calls b 24 t _ HT.out).mono ?_)
  rintro e w1 ⟨rfl, hT1, hB1⟩
  have c0 := (HX.out.but hB1 hg1).at_.c0
  have f0 := (HX.out.but hB1 hg1).free 0
  replace HX := Lib.hid ((HX.out.but hB1 hg1).setKey (txtV 24 t))
  replace HG := Lib.hid ((HG.out.but hB1 hg0).keep (w' := w1.setCell ⟨w.heap.size + 1, 0, none⟩ (.string (strB (txtV 24 t)))) (Below.heap_setCell _ _ _ _ (by show w.heap.size ≠ w.heap.size + 1; omega)))
  replace HT : Hid (TP 50 (w1.setCell ⟨w.heap.size + 1, 0, none⟩ (.string (strB (txtV 24 t)))) b (rd1 t)) := Lib.hid (TP.setOther hT1 ⟨w.heap.size + 1, 0, none⟩ (.string (strB (txtV 24 t))) hg1)
  replace HB := Lib.hid (But.setNew (HB.out.trans hB1) ⟨w.heap.size + 1, 0, none⟩ (.string (strB (txtV 24 t))) (by show w.heap.size ≤ w.heap.size + 1; omega))
  clear hT1 hB1
  go_wp2_with fail
  clear c0 f0
  (with_reducible refine (Wire.tfour_calls b 1 2147483647 (rd1 t) _ HT.out).mono ?_)
  rintro e w2 ⟨rfl, hT1, hB1⟩
  have c1 := (HX.out.but hB1 hg1).at_.c1
  have f1 := (HX.out.but hB1 hg1).free 1
  replace HX := Lib.hid ((HX.out.but hB1 hg1).setSeq (numV 4 1 2147483647 (rd1 t) : Nat))
  replace HG := Lib.hid ((HG.out.but hB1 hg0).keep (w' := w2.setCell ⟨w.heap.size + 1, 1, none⟩ (.int .i64 (numV 4 1 2147483647 (rd1 t) : Nat))) (Below.heap_setCell _ _ _ _ (by show w.heap.size ≠ w.heap.size + 1; omega)))
  replace HT : Hid (TP 50 (w2.setCell ⟨w.heap.size + 1, 1, none⟩ (.int .i64 (numV 4 1 2147483647 (rd1 t) : Nat))) b (rd2 t)) := Lib.hid (TP.setOther hT1 ⟨w.heap.size + 1, 1, none⟩ (.int .i64 (numV 4 1 2147483647 (rd1 t) : Nat)) hg1)
  replace HB := Lib.hid (But.setNew (HB.out.trans hB1) ⟨w.heap.size + 1, 1, none⟩ (.int .i64 (numV 4 1 2147483647 (rd1 t) : Nat)) (by show w.heap.size ≤ w.heap.size + 1; omega))
  clear hT1 hB1
  go_wp2_with fail
  clear c1 f1
  (with_reducible refine (Wire.tfour_calls b 0 2147483647 (rd2 t) _ HT.out).mono ?_)
  rintro e w3 ⟨rfl, hT1, hB1⟩
  have c2 := (HX.out.but hB1 hg1).at_.c2
  have f2 := (HX.out.but hB1 hg1).free 2
  replace HX := Lib.hid ((HX.out.but hB1 hg1).setVer (numV 4 0 2147483647 (rd2 t) : Nat))
  replace HG := Lib.hid ((HG.out.but hB1 hg0).keep (w' := w3.setCell ⟨w.heap.size + 1, 2, none⟩ (.int .i64 (numV 4 0 2147483647 (rd2 t) : Nat))) (Below.heap_setCell _ _ _ _ (by show w.heap.size ≠ w.heap.size + 1; omega)))
  replace HT : Hid (TP 50 (w3.setCell ⟨w.heap.size + 1, 2, none⟩ (.int .i64 (numV 4 0 2147483647 (rd2 t) : Nat))) b (rd3 t)) := Lib.hid (TP.setOther hT1 ⟨w.heap.size + 1, 2, none⟩ (.int .i64 (numV 4 0 2147483647 (rd2 t) : Nat)) hg1)
  replace HB := Lib.hid (But.setNew (HB.out.trans hB1) ⟨w.heap.size + 1, 2, none⟩ (.int .i64 (numV 4 0 2147483647 (rd2 t) : Nat)) (by show w.heap.size ≤ w.heap.size + 1; omega))
  clear hT1 hB1
  go_wp2_with fail
  clear c2 f2
  (with_reducible refine (readFlag_calls b (rd3 t) _ HT.out).mono ?_)
  rintro e w4 ⟨rfl, hT1, hB1⟩
  have c3 := (HX.out.but hB1 hg1).at_.c3
  have f3 := (HX.out.but hB1 hg1).free 3
  replace HX := Lib.hid ((HX.out.but hB1 hg1).setMark (ones (rd3 t)))
  replace HG := Lib.hid ((HG.out.but hB1 hg0).keep (w' := w4.setCell ⟨w.heap.size + 1, 3, none⟩ (.bool (ones (rd3 t)))) (Below.heap_setCell _ _ _ _ (by show w.heap.size ≠ w.heap.size + 1; omega)))
  replace HT : Hid (TP 50 (w4.setCell ⟨w.heap.size + 1, 3, none⟩ (.bool (ones (rd3 t)))) b (rd4 t)) := Lib.hid (TP.setOther hT1 ⟨w.heap.size + 1, 3, none⟩ (.bool (ones (rd3 t))) hg1)
  replace HB := Lib.hid (But.setNew (HB.out.trans hB1) ⟨w.heap.size + 1, 3, none⟩ (.bool (ones (rd3 t))) (by show w.heap.size ≤ w.heap.size + 1; omega))
  clear hT1 hB1
  go_wp2_with fail
  clear c3 f3
  (with_reducible refine (Wire.ttwo_calls b 0 1500 (rd4 t) _ HT.out).mono ?_)
  rintro e w5 ⟨rfl, hT1, hB1⟩
  have c7 := (HX.out.but hB1 hg1).at_.c7
  have f7 := (HX.out.but hB1 hg1).free 7
  replace HX := Lib.hid ((HX.out.but hB1 hg1).setSize (numV 2 0 1500 (rd4 t) : Nat))
  replace HG := Lib.hid ((HG.out.but hB1 hg0).keep (w' := w5.setCell ⟨w.heap.size + 1, 7, none⟩ (.int .i64 (numV 2 0 1500 (rd4 t) : Nat))) (Below.heap_setCell _ _ _ _ (by show w.heap.size ≠ w.heap.size + 1; omega)))
  replace HT : Hid (TP 50 (w5.setCell ⟨w.heap.size + 1, 7, none⟩ (.int .i64 (numV 2 0 1500 (rd4 t) : Nat))) b (rd5 t)) := Lib.hid (TP.setOther hT1 ⟨w.heap.size + 1, 7, none⟩ (.int .i64 (numV 2 0 1500 (rd4 t) : Nat)) hg1)
  replace HB := Lib.hid (But.setNew (HB.out.trans hB1) ⟨w.heap.size + 1, 7, none⟩ (.int .i64 (numV 2 0 1500 (rd4 t) : Nat)) (by show w.heap.size ≤ w.heap.size + 1; omega))
  clear hT1 hB1
  go_wp2_with fail
  clear c7 f7
  (with_reducible refine (readRuns_calls b (rd5 t) _ HT.out).mono ?_)
  rintro e w6 ⟨A9, n9, k9, rfl, hS1, hA1, hT1, hB1⟩
  have HA : Hid (∀ p, A9 = some p → w.heap.size + 2 ≤ p.block) := Lib.hid (fun p hp => by have := hA1 p hp; have := HX.out.lt; omega)
  have HA1 : Hid (∀ p, A9 = some p → p.block ≠ w.heap.size + 1) := Lib.hid (fun p hp => by have := HA.out p hp; omega)
  have HAb : Hid (∀ p, A9 = some p → p.block ≠ b) := Lib.hid (fun p hp => by have := HA.out p hp; omega)
  have HS := Lib.hid (hS1.set ⟨w.heap.size + 1, 8, none⟩ (.slice A9 n9 k9) HA1.out)
  clear hA1 hS1
  have c8 := (HX.out.but hB1 hg1).at_.c8
  have f8 := (HX.out.but hB1 hg1).free 8
  replace HX := Lib.hid ((HX.out.but hB1 hg1).setSpans (runsV (rd5 t)) (.slice A9 n9 k9))
  replace HG := Lib.hid ((HG.out.but hB1 hg0).keep (w' := w6.setCell ⟨w.heap.size + 1, 8, none⟩ (.slice A9 n9 k9)) (Below.heap_setCell _ _ _ _ (by show w.heap.size ≠ w.heap.size + 1; omega)))
  replace HT : Hid (TP 50 (w6.setCell ⟨w.heap.size + 1, 8, none⟩ (.slice A9 n9 k9)) b (rd6 t)) := Lib.hid (TP.setOther hT1 ⟨w.heap.size + 1, 8, none⟩ (.slice A9 n9 k9) hg1)
  replace HB := Lib.hid (But.setNew (HB.out.trans hB1) ⟨w.heap.size + 1, 8, none⟩ (.slice A9 n9 k9) (by show w.heap.size ≤ w.heap.size + 1; omega))
  clear hT1 hB1
  go_wp2_with fail
  clear c8 f8
  (with_reducible refine (Wire.ttext_calls b 24 (rd6 t) _ HT.out).mono ?_)
  rintro e w7 ⟨rfl, hT1, hB1⟩
  replace HS := Lib.hid ((HS.out.but hB1 HAb.out).set ⟨w.heap.size + 1, 5, none⟩ (.string (strB (txtV 24 (rd6 t)))) HA1.out)
  have c5 := (HX.out.but hB1 hg1).at_.c5
  have f5 := (HX.out.but hB1 hg1).free 5
  replace HX := Lib.hid ((HX.out.but hB1 hg1).setTag (txtV 24 (rd6 t)))
  replace HG := Lib.hid ((HG.out.but hB1 hg0).keep (w' := w7.setCell ⟨w.heap.size + 1, 5, none⟩ (.string (strB (txtV 24 (rd6 t))))) (Below.heap_setCell _ _ _ _ (by show w.heap.size ≠ w.heap.size + 1; omega)))
  replace HT : Hid (TP 50 (w7.setCell ⟨w.heap.size + 1, 5, none⟩ (.string (strB (txtV 24 (rd6 t))))) b (rd7 t)) := Lib.hid (TP.setOther hT1 ⟨w.heap.size + 1, 5, none⟩ (.string (strB (txtV 24 (rd6 t)))) hg1)
  replace HB := Lib.hid (But.setNew (HB.out.trans hB1) ⟨w.heap.size + 1, 5, none⟩ (.string (strB (txtV 24 (rd6 t)))) (by show w.heap.size ≤ w.heap.size + 1; omega))
  clear hT1 hB1
  go_wp2_with fail
  clear c5 f5
  (with_reducible refine (Wire.ttext_calls b 40 (rd7 t) _ HT.out).mono ?_)
  rintro e w8 ⟨rfl, hT1, hB1⟩
  replace HS := Lib.hid ((HS.out.but hB1 HAb.out).set ⟨w.heap.size + 1, 4, none⟩ (.string (strB (txtV 40 (rd7 t)))) HA1.out)
  have c4 := (HX.out.but hB1 hg1).at_.c4
  have f4 := (HX.out.but hB1 hg1).free 4
  replace HX := Lib.hid ((HX.out.but hB1 hg1).setMt (txtV 40 (rd7 t)))
  replace HG := Lib.hid ((HG.out.but hB1 hg0).keep (w' := w8.setCell ⟨w.heap.size + 1, 4, none⟩ (.string (strB (txtV 40 (rd7 t))))) (Below.heap_setCell _ _ _ _ (by show w.heap.size ≠ w.heap.size + 1; omega)))
  replace HT : Hid (TP 50 (w8.setCell ⟨w.heap.size + 1, 4, none⟩ (.string (strB (txtV 40 (rd7 t))))) b (readS t)) := Lib.hid (TP.setOther hT1 ⟨w.heap.size + 1, 4, none⟩ (.string (strB (txtV 40 (rd7 t)))) hg1)
  replace HB := Lib.hid (But.setNew (HB.out.trans hB1) ⟨w.heap.size + 1, 4, none⟩ (.string (strB (txtV 40 (rd7 t)))) (by show w.heap.size ≤ w.heap.size + 1; omega))
  clear hT1 hB1
  obtain ⟨k0, k1, k2, k3, k4, k5, k6, k7, k8⟩ := HX.out.at_
  obtain ⟨j0, j1, j2, j3, j4, j5, j6, j7, j8⟩ := HG.out.at_
  have jf := HG.out.free
  obtain ⟨X, hX, hXb, hXo⟩ := store9 HG.out ⟨⟨txtV 24 t, (numV 4 1 2147483647 (rd1 t) : Nat), (numV 4 0 2147483647 (rd2 t) : Nat), ones (rd3 t), txtV 40 (rd7 t), txtV 24 (rd6 t), zeroR.it.body⟩, (numV 2 0 1500 (rd4 t) : Nat), runsV (rd5 t)⟩ (.slice A9 n9 k9)
  dsimp only at hX
  replace hXb : RBox X w.heap.size (readR t) (.slice A9 n9 k9) := hXb
  have HXX := Lib.hid hX
  have HXB := Lib.hid hXb
  have HXO := Lib.hid hXo
  clear hX hXb hXo
  go_wp2_with fail
  rw [HXX.out]
  clear k0 k1 k2 k3 k4 k5 k6 k7 k8 j0 j1 j2 j3 j4 j5 j6 j7 j8 jf HXX
  obtain ⟨k0, k1, k2, k3, k4, k5, k6, k7, k8⟩ := HXB.out.at_
  refine bodyPost_ret (v := recV (readR t) (.slice A9 n9 k9)) (by simp [results, Try.results23, go_sem, recV, k0, k1, k2, k3, k4, k5, k6, k7, k8]) rfl ⟨A9, n9, k9, rfl, ?_, fun p hp => (by have := HA.out p hp; omega), ?_, ?_⟩
  · exact HS.out.keep (by rw [HXO.out.size]; exact Nat.le_refl _) (fun p hp => HXO.out.block _ (by have := HA.out p hp; omega))
  · exact HT.out.keep (HXO.out.block b (by omega))
  · exact Only.but HB.out HXO.out (Nat.le_refl _)

end Go.Proofs.Ytkfjbhikibidiaa
