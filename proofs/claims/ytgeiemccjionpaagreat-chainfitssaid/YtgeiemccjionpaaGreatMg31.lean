/- Contracts and plain mathematics that the statement's proof wants: no statement is proved here, nothing is assumed. -/
import Derived.Test.YtgeiemccjionpaaGreatMg30
/- HFree -/
namespace Go.Proofs.YtgeiemccjionpaaGreat.Chn
open Go.RowKit Go.Sort
open Dsk Vlt
open Bit (Sps)

/-- A vault's value, by letters. -/
theorem Still.form8 {v : Value} {x : Sh} {k : VK} {w : World} (hx : rightS x = true) (hs : Still x k) (hv : IsVault w v k) :
    ∃ A1 n1 c1 A2 n2 c2 dl jr sq A7 n7 c7, v = .agg #[.slice A1 n1 c1, .slice A2 n2 c2, .bool false, .int .i64 dl, .int .i64 ((PN x : Nat) : Int), .int .i64 jr, .int .i64 sq, .slice A7 n7 c7] := by
  obtain ⟨vs, vw, vd, rfl, h1, h2⟩ := hv
  obtain ⟨A1, n1, c1, A2, n2, c2, e1⟩ := h1.parts
  obtain ⟨rfl, rfl⟩ : vs = .slice A1 n1 c1 ∧ vw = .slice A2 n2 c2 := by
    simp only [Value.agg.injEq, Array.mk.injEq, List.cons.injEq] at e1
    exact ⟨e1.1, e1.2.1⟩
  obtain ⟨A7, n7, c7, rfl, _⟩ := h2.open_
  refine ⟨A1, n1, c1, A2, n2, c2, k.disk.left, k.shape.journal, k.seq, A7, n7, c7, ?_⟩
  rw [hs.up, hs.shape, ← (right_nat hx).1]
/-- Boxes of a vault's cells. -/
def VB (W : World) (g : Nat) (cs : Array Value) : Prop := W.heap[g]? = some (.cells cs 32 (0, 0))
/-- A vault's box, and the answer's. -/
structure FB (w W : World) (cs zs : Array Value) : Prop where
  a : VB W w.heap.size cs
  z : VB W (w.heap.size + 1) zs
  below : Below w.heap.size w W
theorem FB.more {w W W' : World} {cs zs : Array Value} (h : FB w W cs zs) (k : Below W.heap.size W W') : FB w W' cs zs := ⟨box_kept _ h.a k, box_kept _ h.z k, Dsk.below_trans' h.below k⟩
theorem FB.new (w : World) (cs : Array Value) : FB w ((w.alloc (.cells cs 32)).alloc (.cells #[.slice none 0 0, .slice none 0 0, .bool false, .int .i64 0, .int .i64 0, .int .i64 0, .int .i64 0, .slice none 0 0] 32)) cs #[.slice none 0 0, .slice none 0 0, .bool false, .int .i64 0, .int .i64 0, .int .i64 0, .int .i64 0, .slice none 0 0] := by
  refine ⟨box_alloc (heap_alloc_new w _) _, ?_, Dsk.below_trans' (below_one w (.cells cs 32)) (below_one _ _)⟩
  have := heap_alloc_new (w.alloc (.cells cs 32)) (.cells #[.slice none 0 0, .slice none 0 0, .bool false, .int .i64 0, .int .i64 0, .int .i64 0, .int .i64 0, .slice none 0 0] 32)
  rw [show (w.alloc (.cells cs 32)).heap.size = w.heap.size + 1 by simp] at this
  exact this

/-- Numbers within the reach. -/
def IR (l : List Int) : Prop := ∀ a ∈ l, -9223372036854775808 ≤ a ∧ a ≤ 9223372036854775807
theorem IR.nat {l : List Nat} (h : ∀ p ∈ l, p ≤ 1000000) : IR (natI l) := by
  intro a ha
  obtain ⟨p, hp, rfl⟩ := List.mem_map.1 ha
  have := h p hp
  omega
theorem IR.ones {l : List Int} (h : IR l) : ∀ x ∈ onesI l, -9223372036854775808 ≤ x.1 ∧ x.1 + min x.2 512 ≤ 9223372036854775808 := by
  intro x hx
  obtain ⟨a, ha, rfl⟩ := List.mem_map.1 hx
  have := h a ha
  dsimp only
  omega

theorem cmark_calls (m : List UInt8) (t : Bool) (v : Value) (r : List (Int × Int)) (w : World) (hm : m.length ≤ 300) (hv : Sps w v r) (hn : r.length ≤ 1000) (hr : ∀ x ∈ r, -9223372036854775808 ≤ x.1 ∧ x.1 + min x.2 512 ≤ 9223372036854775808) :
    Calls Tryz.prog 50 #[.string (strB m), v, .bool t] w fun e w' => e = .returned (.string (strB (Bit.markL m t r))) ∧ Below w.heap.size w w' := by
  obtain ⟨A, c, rfl⟩ := hv.form
  exact Bit.mark_calls m t r A _ c w hm hv hn fun x hx => (hr x hx).1
theorem crmark_calls (m : List UInt8) (t : Bool) (v : Value) (r : List (Int × Int)) (w : World) (hm : m.length ≤ 300) (hv : Sps w v r) (hn : r.length ≤ 1000) (hr : ∀ x ∈ r, -9223372036854775808 ≤ x.1 ∧ x.1 + min x.2 512 ≤ 9223372036854775808) :
    Calls Tryz.prog 39 #[.string (strB m), v, .bool t] w fun e w' => e = .returned (.string (strB (Bit.markL m t r))) ∧ Below w.heap.size w w' := by
  obtain ⟨A, c, rfl⟩ := hv.form
  exact Bit.rmark_calls m t r A _ c w hm hv hn hr

theorem write_at (v : Value) {x : Sh} {k : VK} (no : Nat) (data : List UInt8) (w : World) (hx : rightS x = true) (hs : Still x k) (hv : IsVault w v k) (hn : no < PN x) (hd : data.length ≤ 208) :
    Calls Tryz.prog 38 #[v, .int .i64 (no : Nat), .string (strB data)] w fun e w' => ∃ v', e = .returned (.tuple #[v', .int .i64 0]) ∧ IsVault w' v' (writeV k no data).1 ∧ Below w.heap.size w w' := by
  obtain ⟨a, b, _⟩ := hs.good hx
  have := write_calls v k (no : Int) data w hv a b
  rw [(hs.write hx hn hd).1] at this
  exact this
theorem rwrite_at (v : Value) {x : Sh} {k : VK} (no : Nat) (data : List UInt8) (w : World) (hx : rightS x = true) (hs : Still x k) (hv : IsVault w v k) (hn : no < PN x) (hd : data.length ≤ 208) :
    Calls Tryz.prog 42 #[v, .int .i64 (no : Nat), .string (strB data)] w fun e w' => ∃ v', e = .returned (.tuple #[v', .int .i64 0]) ∧ IsVault w' v' (writeV k no data).1 ∧ Below w.heap.size w w' := by
  obtain ⟨a, b, _⟩ := hs.good hx
  have := rwrite_calls v k (no : Int) data w hv a b
  rw [(hs.write hx hn hd).1] at this
  exact this

theorem read_zero (v : Value) {x : Sh} {k : VK} (w : World) (hx : rightS x = true) (hs : Still x k) (hv : IsVault w v k) :
    Calls Tryz.prog 35 #[v, .int .i64 0] w fun e w' => e = .returned (.tuple #[.string (strB (CV k 0)), .int .i64 0]) ∧ Below w.heap.size w w' := read_at v 0 w hx hs hv (by have := (right_nat hx).2.2.1; omega)
theorem rread_zero (v : Value) {x : Sh} {k : VK} (w : World) (hx : rightS x = true) (hs : Still x k) (hv : IsVault w v k) :
    Calls Tryz.prog 25 #[v, .int .i64 0] w fun e w' => e = .returned (.tuple #[.string (strB (CV k 0)), .int .i64 0]) ∧ Below w.heap.size w w' := rread_at v 0 w hx hs hv (by have := (right_nat hx).2.2.1; omega)
theorem write_zero (v : Value) {x : Sh} {k : VK} (data : List UInt8) (w : World) (hx : rightS x = true) (hs : Still x k) (hv : IsVault w v k) (hd : data.length ≤ 208) :
    Calls Tryz.prog 38 #[v, .int .i64 0, .string (strB data)] w fun e w' => ∃ v', e = .returned (.tuple #[v', .int .i64 0]) ∧ IsVault w' v' (writeV k 0 data).1 ∧ Below w.heap.size w w' := write_at v 0 data w hx hs hv (by have := (right_nat hx).2.2.1; omega) hd
theorem rwrite_zero (v : Value) {x : Sh} {k : VK} (data : List UInt8) (w : World) (hx : rightS x = true) (hs : Still x k) (hv : IsVault w v k) (hd : data.length ≤ 208) :
    Calls Tryz.prog 42 #[v, .int .i64 0, .string (strB data)] w fun e w' => ∃ v', e = .returned (.tuple #[v', .int .i64 0]) ∧ IsVault w' v' (writeV k 0 data).1 ∧ Below w.heap.size w w' := rwrite_at v 0 data w hx hs hv (by have := (right_nat hx).2.2.1; omega) hd

/-- The vault with pages free. -/
def freeV (k : VK) (l : List Int) : VK := (writeV k 0 (Bit.markL (CV k 0) false (onesI l))).1
theorem freeV_is {x : Sh} {k : VK} (hx : rightS x = true) (h : Still x k) (l : List Int) : Still x (freeV k l) ∧ ∀ j, CV (freeV k l) j = if j = 0 then Bit.markL (CV k 0) false (onesI l) else CV k j := by
  have hn := (right_nat hx).2.2.1
  have hl : (Bit.markL (CV k 0) false (onesI l)).length = 208 := by rw [Bit.markL_len]; exact CV_len h 0
  obtain ⟨_, a, b⟩ := h.write hx (k := 0) (by omega) (data := Bit.markL (CV k 0) false (onesI l)) (by omega)
  refine ⟨a, fun j => ?_⟩
  have := b j
  unfold freeV
  rw [show ((0 : Nat) : Int) = 0 from rfl] at this
  rw [this]
  by_cases h0 : j = 0
  · rw [if_pos h0, if_pos h0]
    unfold pad
    rw [hl]
    simp
  · rw [if_neg h0, if_neg h0]

set_option maxRecDepth 100000 in
set_option maxHeartbeats 8000000 in
theorem free_calls (v vp : Value) {x : Sh} {k : VK} (l : List Int) (w : World) (hx : rightS x = true) (hs : Still x k) (hv : IsVault w v k) (hl : IsInts w vp l) (hln : l.length ≤ 1000) (hr : IR l) :
    Calls Tryz.prog 21 #[v, vp] w fun e w' => ∃ v', e = .returned (.tuple #[v', .int .i64 0]) ∧ IsVault w' v' (freeV k l) ∧ Below w.heap.size w w' := by
  obtain ⟨A1, n1, c1, A2, n2, c2, dl, jr, sq, A7, n7, c7, rfl⟩ := hs.form8 hx hv
  have hx16 := (right_nat hx).2.2
  obtain ⟨P, pn, pc, rfl, hpn⟩ := hl.open_
  have hm0 := CV_len hs 0
  have C0 := Lib.hid (fun W (hW : Below w.heap.size w W) => read_zero _ W hx hs (hv.below hW))
  have C1 := Lib.hid (fun W (hW : Below w.heap.size w W) => runs_calls _ l W (hl.below hW) hln)
  have C2 := Lib.hid (fun W vr (hr2 : Sps W vr (onesI l)) => cmark_calls (CV k 0) false vr (onesI l) W (by omega) hr2 (by rw [ones_len]; exact hln) hr.ones)
  have C3 := Lib.hid (fun W (hW : Below w.heap.size w W) => write_zero _ (Bit.markL (CV k 0) false (onesI l)) W hx hs (hv.below hW) (by rw [Bit.markL_len]; omega))
  have HF := Lib.hid (fun (w : World) (v : Value) (h : IsVault w v (freeV k l)) => (freeV_is hx hs l).1.form8 hx h)
  obtain ⟨n, hn⟩ : ∃ n, n = PN x := ⟨_, rfl⟩
  obtain ⟨m0, hm⟩ : ∃ m, m = strB (CV k 0) := ⟨_, rfl⟩
  obtain ⟨m1, hm1⟩ : ∃ m, m = strB (Bit.markL (CV k 0) false (onesI l)) := ⟨_, rfl⟩
  have HE : Hid ((writeV k 0 (Bit.markL (CV k 0) false (onesI l))).1 = freeV k l) := Lib.hid rfl
  rw [← hn] at C0 C3 HF ⊢
  rw [← hm] at C0 C2
  rw [← hm1] at C2 C3
  obtain ⟨Y, hY, hYb⟩ : ∃ Y, Y = (w.alloc (.cells #[.slice A1 n1 c1, .slice A2 n2 c2, .bool false, .int .i64 dl, .int .i64 (n : Nat), .int .i64 jr, .int .i64 sq, .slice A7 n7 c7] 32)).alloc (.cells #[.slice none 0 0, .slice none 0 0, .bool false, .int .i64 0, .int .i64 0, .int .i64 0, .int .i64 0, .slice none 0 0] 32) ∧ FB w Y #[.slice A1 n1 c1, .slice A2 n2 c2, .bool false, .int .i64 dl, .int .i64 (n : Nat), .int .i64 jr, .int .i64 sq, .slice A7 n7 c7] #[.slice none 0 0, .slice none 0 0, .bool false, .int .i64 0, .int .i64 0, .int .i64 0, .int .i64 0, .slice none 0 0] := ⟨_, rfl, FB.new w _⟩
  have HY := Lib.hid hY
  have HB := Lib.hid hYb
  obtain ⟨⟨i0, i1, i2, i3, i4, i5, i6, i7⟩, _⟩ := box8 hYb.a
  clear hn hm hm1 hY hYb hv hx hs hl hr hm0 hx16 hpn
  go_enter Tryz.func21, Tryz.ntmps21
  go_upto_region 1 with (fail)
  rw [← HY.out]
  clear HY
  go_wp2_with fail
  (with_reducible refine (C0.out _ HB.out.below).mono ?_)
  rintro e w1 ⟨rfl, hb1⟩
  have HB1 := Lib.hid (HB.out.more hb1)
  clear hb1 i0 i1 i2 i3 i4 i5 i6 i7
  go_wp2_with fail
  have HT := Lib.hid (HB1.out.more (Below.refl _ _).drew)
  obtain ⟨⟨i0, i1, i2, i3, i4, i5, i6, i7⟩, _⟩ := box8 HT.out.a
  obtain ⟨⟨z0, z1, z2, z3, z4, z5, z6, z7⟩, zf⟩ := box8 HT.out.z
  go_region_with (first
    | (go_at_call 51; (with_reducible refine (C1.out _ HT.out.below).mono ?_); rintro e wa ⟨vr, rfl, hsr, hBa⟩; (with_reducible replace HT := Lib.hid (HT.out.more hBa)); obtain ⟨RA, rc, rfl⟩ := hsr.form; have HS := Lib.hid hsr; clear hsr hBa; obtain ⟨⟨i0, i1, i2, i3, i4, i5, i6, i7⟩, _⟩ := box8 HT.out.a; obtain ⟨⟨z0, z1, z2, z3, z4, z5, z6, z7⟩, zf⟩ := box8 HT.out.z)
    | (go_at_call 50; (with_reducible refine (C2.out _ _ HS.out).mono ?_); rintro e wa ⟨rfl, hBa⟩; (with_reducible replace HT := Lib.hid (HT.out.more hBa)); clear hBa; obtain ⟨⟨i0, i1, i2, i3, i4, i5, i6, i7⟩, _⟩ := box8 HT.out.a; obtain ⟨⟨z0, z1, z2, z3, z4, z5, z6, z7⟩, zf⟩ := box8 HT.out.z)
    | (go_at_call 38; (with_reducible refine (C3.out _ HT.out.below).mono ?_); rintro e wa ⟨v', rfl, hv', hBa⟩; (with_reducible replace HT := Lib.hid (HT.out.more hBa)); rw [HE.out] at hv'; obtain ⟨qA1, qn1, qc1, qA2, qn2, qc2, qdl, qjr, qsq, qA7, qn7, qc7, rfl⟩ := HF.out _ _ hv'; have HV := Lib.hid hv'; clear hv' hBa; obtain ⟨⟨i0, i1, i2, i3, i4, i5, i6, i7⟩, _⟩ := box8 HT.out.a; obtain ⟨⟨z0, z1, z2, z3, z4, z5, z6, z7⟩, zf⟩ := box8 HT.out.z))
  all_goals
    obtain ⟨X, hX, hbX, hkX, hBX⟩ := box_store8 HT.out.z (.slice qA1 qn1 qc1) (.slice qA2 qn2 qc2) (.bool false) (.int .i64 qdl) (.int .i64 (n : Nat)) (.int .i64 qjr) (.int .i64 qsq) (.slice qA7 qn7 qc7)
    rw [hX]
    have HX := Lib.hid (box8 hbX)
    have HFIN : Hid (IsVault X (.agg #[.slice qA1 qn1 qc1, .slice qA2 qn2 qc2, .bool false, .int .i64 qdl, .int .i64 (n : Nat), .int .i64 qjr, .int .i64 qsq, .slice qA7 qn7 qc7]) (freeV k l) ∧ Below w.heap.size w X) := Lib.hid ⟨HV.out.other HT.out.z hkX, hBX _ _ HT.out.below (by omega)⟩
    clear hX hbX hkX hBX i0 i1 i2 i3 i4 i5 i6 i7 zf z0 z1 z2 z3 z4 z5 z6 z7
    obtain ⟨⟨z0, z1, z2, z3, z4, z5, z6, z7⟩, _⟩ := HX.out
    go_wp2_with fail
    exact bodyPost_ret (v := .tuple #[.agg #[.slice qA1 qn1 qc1, .slice qA2 qn2 qc2, .bool false, .int .i64 qdl, .int .i64 (n : Nat), .int .i64 qjr, .int .i64 qsq, .slice qA7 qn7 qc7], .int .i64 0]) (by simp [results, Tryz.results21, go_sem, z0, z1, z2, z3, z4, z5, z6, z7]) rfl ⟨_, rfl, HFIN.out.1, HFIN.out.2⟩

set_option maxRecDepth 100000 in
set_option maxHeartbeats 8000000 in
theorem rfree_calls (v vp : Value) {x : Sh} {k : VK} (l : List Int) (w : World) (hx : rightS x = true) (hs : Still x k) (hv : IsVault w v k) (hl : IsInts w vp l) (hln : l.length ≤ 1000) (hr : IR l) :
    Calls Tryz.prog 22 #[v, vp] w fun e w' => ∃ v', e = .returned (.tuple #[v', .int .i64 0]) ∧ IsVault w' v' (freeV k l) ∧ Below w.heap.size w w' := by
  obtain ⟨A1, n1, c1, A2, n2, c2, dl, jr, sq, A7, n7, c7, rfl⟩ := hs.form8 hx hv
  have hx16 := (right_nat hx).2.2
  obtain ⟨P, pn, pc, rfl, hpn⟩ := hl.open_
  have hm0 := CV_len hs 0
  have C0 := Lib.hid (fun W (hW : Below w.heap.size w W) => rread_zero _ W hx hs (hv.below hW))
  have C1 := Lib.hid (fun W (hW : Below w.heap.size w W) => spans_calls _ l W (hl.below hW) hln)
  have C2 := Lib.hid (fun W vr (hr2 : Sps W vr (onesI l)) => crmark_calls (CV k 0) false vr (onesI l) W (by omega) hr2 (by rw [ones_len]; exact hln) hr.ones)
  have C3 := Lib.hid (fun W (hW : Below w.heap.size w W) => rwrite_zero _ (Bit.markL (CV k 0) false (onesI l)) W hx hs (hv.below hW) (by rw [Bit.markL_len]; omega))
  have HF := Lib.hid (fun (w : World) (v : Value) (h : IsVault w v (freeV k l)) => (freeV_is hx hs l).1.form8 hx h)
  obtain ⟨n, hn⟩ : ∃ n, n = PN x := ⟨_, rfl⟩
  obtain ⟨m0, hm⟩ : ∃ m, m = strB (CV k 0) := ⟨_, rfl⟩
  obtain ⟨m1, hm1⟩ : ∃ m, m = strB (Bit.markL (CV k 0) false (onesI l)) := ⟨_, rfl⟩
  have HE : Hid ((writeV k 0 (Bit.markL (CV k 0) false (onesI l))).1 = freeV k l) := Lib.hid rfl
  rw [← hn] at C0 C3 HF ⊢
  rw [← hm] at C0 C2
  rw [← hm1] at C2 C3
  obtain ⟨Y, hY, hYb⟩ : ∃ Y, Y = (w.alloc (.cells #[.slice A1 n1 c1, .slice A2 n2 c2, .bool false, .int .i64 dl, .int .i64 (n : Nat), .int .i64 jr, .int .i64 sq, .slice A7 n7 c7] 32)).alloc (.cells #[.slice none 0 0, .slice none 0 0, .bool false, .int .i64 0, .int .i64 0, .int .i64 0, .int .i64 0, .slice none 0 0] 32) ∧ FB w Y #[.slice A1 n1 c1, .slice A2 n2 c2, .bool false, .int .i64 dl, .int .i64 (n : Nat), .int .i64 jr, .int .i64 sq, .slice A7 n7 c7] #[.slice none 0 0, .slice none 0 0, .bool false, .int .i64 0, .int .i64 0, .int .i64 0, .int .i64 0, .slice none 0 0] := ⟨_, rfl, FB.new w _⟩
  have HY := Lib.hid hY
  have HB := Lib.hid hYb
  obtain ⟨⟨i0, i1, i2, i3, i4, i5, i6, i7⟩, _⟩ := box8 hYb.a
  clear hn hm hm1 hY hYb hv hx hs hl hr hm0 hx16 hpn
  go_enter Tryz.func22, Tryz.ntmps22
  go_upto_region 1 with (fail)
  rw [← HY.out]
  clear HY
  go_wp2_with fail
  (with_reducible refine (C0.out _ HB.out.below).mono ?_)
  rintro e w1 ⟨rfl, hb1⟩
  have HB1 := Lib.hid (HB.out.more hb1)
  clear hb1 i0 i1 i2 i3 i4 i5 i6 i7
  go_wp2_with fail
  have HT := Lib.hid (HB1.out.more (Below.refl _ _).drew)
  obtain ⟨⟨i0, i1, i2, i3, i4, i5, i6, i7⟩, _⟩ := box8 HT.out.a
  obtain ⟨⟨z0, z1, z2, z3, z4, z5, z6, z7⟩, zf⟩ := box8 HT.out.z
  go_region_with (first
    | (go_at_call 40; (with_reducible refine (C1.out _ HT.out.below).mono ?_); rintro e wa ⟨vr, rfl, hsr, hBa⟩; (with_reducible replace HT := Lib.hid (HT.out.more hBa)); obtain ⟨RA, rc, rfl⟩ := hsr.form; have HS := Lib.hid hsr; clear hsr hBa; obtain ⟨⟨i0, i1, i2, i3, i4, i5, i6, i7⟩, _⟩ := box8 HT.out.a; obtain ⟨⟨z0, z1, z2, z3, z4, z5, z6, z7⟩, zf⟩ := box8 HT.out.z)
    | (go_at_call 39; (with_reducible refine (C2.out _ _ HS.out).mono ?_); rintro e wa ⟨rfl, hBa⟩; (with_reducible replace HT := Lib.hid (HT.out.more hBa)); clear hBa; obtain ⟨⟨i0, i1, i2, i3, i4, i5, i6, i7⟩, _⟩ := box8 HT.out.a; obtain ⟨⟨z0, z1, z2, z3, z4, z5, z6, z7⟩, zf⟩ := box8 HT.out.z)
    | (go_at_call 42; (with_reducible refine (C3.out _ HT.out.below).mono ?_); rintro e wa ⟨v', rfl, hv', hBa⟩; (with_reducible replace HT := Lib.hid (HT.out.more hBa)); rw [HE.out] at hv'; obtain ⟨qA1, qn1, qc1, qA2, qn2, qc2, qdl, qjr, qsq, qA7, qn7, qc7, rfl⟩ := HF.out _ _ hv'; have HV := Lib.hid hv'; clear hv' hBa; obtain ⟨⟨i0, i1, i2, i3, i4, i5, i6, i7⟩, _⟩ := box8 HT.out.a; obtain ⟨⟨z0, z1, z2, z3, z4, z5, z6, z7⟩, zf⟩ := box8 HT.out.z))
  all_goals
    obtain ⟨X, hX, hbX, hkX, hBX⟩ := box_store8 HT.out.z (.slice qA1 qn1 qc1) (.slice qA2 qn2 qc2) (.bool false) (.int .i64 qdl) (.int .i64 (n : Nat)) (.int .i64 qjr) (.int .i64 qsq) (.slice qA7 qn7 qc7)
    rw [hX]
    have HX := Lib.hid (box8 hbX)
    have HFIN : Hid (IsVault X (.agg #[.slice qA1 qn1 qc1, .slice qA2 qn2 qc2, .bool false, .int .i64 qdl, .int .i64 (n : Nat), .int .i64 qjr, .int .i64 qsq, .slice qA7 qn7 qc7]) (freeV k l) ∧ Below w.heap.size w X) := Lib.hid ⟨HV.out.other HT.out.z hkX, hBX _ _ HT.out.below (by omega)⟩
    clear hX hbX hkX hBX i0 i1 i2 i3 i4 i5 i6 i7 zf z0 z1 z2 z3 z4 z5 z6 z7
    obtain ⟨⟨z0, z1, z2, z3, z4, z5, z6, z7⟩, _⟩ := HX.out
    go_wp2_with fail
    exact bodyPost_ret (v := .tuple #[.agg #[.slice qA1 qn1 qc1, .slice qA2 qn2 qc2, .bool false, .int .i64 qdl, .int .i64 (n : Nat), .int .i64 qjr, .int .i64 qsq, .slice qA7 qn7 qc7], .int .i64 0]) (by simp [results, Tryz.results22, go_sem, z0, z1, z2, z3, z4, z5, z6, z7]) rfl ⟨_, rfl, HFIN.out.1, HFIN.out.2⟩
end Go.Proofs.YtgeiemccjionpaaGreat.Chn
