/- item.those, Of, Drop, and the document's: what each call does. No statement is proved here. -/
import Derived.Test.YtgnhjcgegibpdaaRight
namespace Go.Proofs.Ytgnhjcgegibpdaa
open Go.RowKit

set_option maxHeartbeats 1000000 in
theorem ofFn_calls (x : It) (k : List UInt8) (a : Addr) (w : World) (ha : w.cell? a = some (.string (strB k))) (hl : a.block < w.heap.size) :
    Calls Try.prog 28 #[itV x, .pointer (some a)] w fun e w' => e = .returned (.bool (decide (x.key = k))) ∧ Below w.heap.size w w' := by
  unfold itV
  have e1 := strB_toList x.key
  have e2 := strB_toList k
  have hc : ∀ o, (w.alloc o).cell? a = some (.string (strB k)) := fun o => by
    rw [← ha]; exact (below_one w o).cell hl
  go_enter Try.func28, Try.ntmps28
  go_wp2_with fail
  go_ret
  exact ⟨ret_bool (by rw [Bool.eq_iff_iff]; simp), below_one _ _⟩


set_option maxHeartbeats 1000000 in
theorem dropFn_calls (x : It) (k : List UInt8) (s : Int) (a b : Addr) (w : World) (ha : w.cell? a = some (.string (strB k))) (hl : a.block < w.heap.size) (hb : w.cell? b = some (.int .i64 s)) (hm : b.block < w.heap.size) :
    Calls Try.prog 32 #[itV x, .pointer (some a), .pointer (some b)] w fun e w' => e = .returned (.bool (stays k s x)) ∧ Below w.heap.size w w' := by
  unfold itV stays
  have e1 := strB_toList x.key
  have e2 := strB_toList k
  have hc : ∀ o, (w.alloc o).cell? a = some (.string (strB k)) := fun o => by
    rw [← ha]; exact (below_one w o).cell hl
  have hd : ∀ o, (w.alloc o).cell? b = some (.int .i64 s) := fun o => by
    rw [← hb]; exact (below_one w o).cell hm
  clear ha hb
  cases h : (x.key == k) with
  | false =>
    have h' : decide (x.key ≠ k) = true := by simpa using h
    rw [h', Bool.true_or]
    go_enter Try.func32, Try.ntmps32
    go_wp2_with fail
    go_ret
    exact ⟨rfl, below_one _ _⟩
  | true =>
    have h' : decide (x.key ≠ k) = false := by simpa using h
    rw [h', Bool.false_or]
    go_enter Try.func32, Try.ntmps32
    go_wp2_with fail
    go_ret
    exact ⟨ret_bool (by rw [Bool.eq_iff_iff]; simp), below_one _ _⟩

theorem filter_next {l : List It} {i : Nat} {x : It} (p : It → Bool) (h : l[i]? = some x) : (l.take (i + 1)).filter p = (l.take i).filter p ++ (if p x then [x] else []) := by
  rw [List.take_add_one, h, List.filter_append]
  cases hp : p x <;> simp [hp]

theorem news7 {W : World} (x : It) {g : Nat} (hg : W.heap.size = g) : ∀ (j : Nat) (u : Value), (itC x)[j]? = some u → (W.alloc (.cells #[.string (strB x.key), .int .i64 x.seq, .int .i64 x.ver, .bool x.mark, .string (strB x.mt), .string (strB x.tag), .string (strB x.body)] 24)).cell? ((⟨g, 0, none⟩ : Addr).add j) = some u := by
  intro j u hj
  subst hg
  rw [Addr.add_lit, Nat.zero_add, cell_of_row _ _ _ _ _ _ (heap_alloc_new W _), ← hj]
  exact List.getElem?_toArray

theorem own_app {B : Nat} {w : World} {v : Value} {l : List It} {x : It} (h : w.ownsRow B 24 7 v (l.length + 1) (itsC l ++ itC x)) : Own B w v (l ++ [x]) := by
  unfold Own
  rw [itsC_append, itsC_one, List.length_append]
  exact h

set_option maxRecDepth 100000 in
set_option maxHeartbeats 4000000 in
theorem those_calls (v : Value) (l : List It) (g : Nat) (lb : Array Value) (p : It → Bool) (w : World) (hv : Its w v l) (hlen : l.length ≤ 1000)
    (hp : ∀ x W, Below w.heap.size w W → Calls Try.prog g (#[itV x] ++ lb) W fun e w' => e = .returned (.bool (p x)) ∧ Below W.heap.size W w')
    (eg : ∀ args w, (callFunc g args).run Try.prog w = .ok (.enter g args) w) :
    Calls Try.prog 27 #[v, .func (.func g) #[] lb] w fun e w' => ∃ v', e = .returned v' ∧ Own w.heap.size w' v' (l.filter p) ∧ Below w.heap.size w w' := by
  obtain ⟨A, c, rfl⟩ := hv.form
  obtain ⟨n, hn⟩ : ∃ n, n = l.length := ⟨_, rfl⟩
  rw [← hn] at hv hlen ⊢
  have HN := Lib.hid hn
  have HV := Lib.hid hv
  have HP := Lib.hid hp
  unfold itV at HP
  clear hn hv hp
  obtain ⟨i1, hi, hz0, hz1, hz2⟩ := info_parts info24
  go_enter Try.func27, Try.ntmps27
  go_wp2_with fail
  go_loopw [5, 10] (fun u5 u10 wr => ∃ i : Nat, i ≤ n ∧ u10 = .int .i64 i ∧ Own w.heap.size wr u5 ((l.take i).filter p) ∧ Below w.heap.size w wr) (fun _ u _ => n - (intOf u).toNat)
  case atStart => exact ⟨0, Nat.zero_le _, rfl, Own.nil _ _, Below.refl _ _⟩
  case round =>
    obtain ⟨i, hi', rfl, hown, hbr⟩ := hrel
    have HOWN := Lib.hid hown
    have HBR := Lib.hid hbr
    clear hown hbr
    by_cases hlt : i < n
    · obtain ⟨x, hx⟩ : ∃ x, l[i]? = some x := ⟨_, List.getElem?_eq_getElem (by have := HN.out; omega)⟩
      obtain ⟨b, off, rfl, hbl, hcell⟩ := HV.out.at_.2.2 (by omega)
      obtain ⟨c0, c1, c2, c3, c4, c5, c6⟩ := (hcell i x hx).below hbl HBR.out
      have hi1 : (0 : Int) ≤ (i : Int) := by omega
      have hi2 : (i : Int) < (n : Int) := by omega
      have HX := Lib.hid hx
      have HF := Lib.hid (filter_next p hx)
      clear hcell hx
      have hb1 := HBR.out.alloc HBR.out.size (.cells #[.string (strB x.key), .int .i64 x.seq, .int .i64 x.ver, .bool x.mark, .string (strB x.mt), .string (strB x.tag), .string (strB x.body)] 24)
      have HB1 := Lib.hid hb1
      clear hb1
      cases hpx : p x with
      | false =>
        have hf := HF.out
        rw [hpx, if_neg (by simp), List.append_nil] at hf
        have HF2 := Lib.hid hf
        clear hf HF
        go_wp2_with fail
        with_reducible refine (HP.out x _ HB1.out).mono ?_
        rintro e w1 ⟨rfl, hB1⟩
        rw [hpx]
        go_wp2_with fail
        refine ⟨⟨i + 1, by omega, by go_num, ?_, Below.trans HB1.out (hB1.mono HB1.out.size)⟩, by simp [intOf]; omega⟩
        rw [HF2.out]
        exact (HOWN.out.below (below_one _ _)).below hB1
      | true =>
        have hf := HF.out
        rw [hpx, if_pos rfl] at hf
        have HF2 := Lib.hid hf
        clear hf HF
        go_wp2_with fail
        with_reducible refine (HP.out x _ HB1.out).mono ?_
        rintro e w1 ⟨rfl, hB1⟩
        rw [hpx]
        have HB2 := Lib.hid (Below.trans HB1.out (hB1.mono HB1.out.size))
        have HO2 := Lib.hid ((HOWN.out.below (below_one _ _)).below hB1)
        clear c0 c1 c2 c3 c4 c5 c6
        obtain ⟨c0, c1, c2, c3, c4, c5, c6⟩ := (Box.below (x := x) (g := wr.heap.size) (heap_alloc_new wr _) hB1).at_
        have hle : ((l.take i).filter p).length ≤ 1000 := Nat.le_trans (List.length_filter_le _ _) (by rw [List.length_take]; omega)
        clear hB1 HB1 HBR HOWN
        go_wp2_with (at_builtin; refine wpList_append_own_at _ (by rfl) (.tmp 17) (.tmp 19) 22 (by rfl) w.heap.size 24 i1 _ 7 88 Try.underlying22 hi hz0 hz1 hz2 (by rfl) (by omega) _ ((l.take i).filter p).length (itsC ((l.take i).filter p)) (by rfl) (by exact World.ownsRow.alloc HO2.out _) ⟨w1.heap.size, 0, none⟩ 1 1 (itC x) (by rfl) (by rfl) (by exact news7 x rfl) (itC_one x) (Nat.le_trans (show ((l.take i).filter p).length + 1 ≤ 1000000 by omega) (by decide)) (by omega) (by have := HB2.out.size; simp; omega) ?_; intro v' w' hown' hgrow' hnil' hat')
        refine ⟨⟨i + 1, by omega, by go_num, ?_, (HB2.out.alloc HB2.out.size _).grown hgrow' (by have := HB2.out.size; simp; omega) HO2.out.ge⟩, by simp [intOf]; omega⟩
        rw [HF2.out]
        exact own_app hown'
    · obtain rfl : i = n := by omega
      go_wp2_with fail
      go_ret
      refine ⟨_, rfl, ?_, HBR.out⟩
      have h := HOWN.out
      rwa [HN.out, List.take_length] at h

end Go.Proofs.Ytgnhjcgegibpdaa
