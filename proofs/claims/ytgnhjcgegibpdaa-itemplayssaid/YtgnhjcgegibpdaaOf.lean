/- item.Of, item.Drop, and the document's: what each call does. No statement is proved here. -/
import Derived.Test.YtgnhjcgegibpdaaThose
namespace Go.Proofs.Ytgnhjcgegibpdaa
open Go.RowKit

theorem enters28 : ∀ args w, (callFunc 28 args).run Try.prog w = .ok (.enter 28 args) w := by intro args w; simp [go_sem, Try.func28]
theorem enters32 : ∀ args w, (callFunc 32 args).run Try.prog w = .ok (.enter 32 args) w := by intro args w; simp [go_sem, Try.func32]
theorem enters30 : ∀ args w, (callFunc 30 args).run Try.prog w = .ok (.enter 30 args) w := by intro args w; simp [go_sem, Try.func30]

set_option maxHeartbeats 2000000 in
theorem of_calls (v : Value) (l : List It) (k : List UInt8) (w : World) (hv : Its w v l) (hlen : l.length ≤ 1000) :
    Calls Try.prog 16 #[v, .string (strB k)] w fun e w' => ∃ v', e = .returned v' ∧ Own w.heap.size w' v' (ofL k l) ∧ Below w.heap.size w w' := by
  have hb := below_one w (.cells #[.string (strB k)] 9)
  have H := Lib.hid (those_calls v l 28 #[.pointer (some ⟨w.heap.size, 0, none⟩)] (fun x => decide (x.key = k)) _ (hv.below hb) hlen (fun x W hW => by
    refine ofFn_calls x k ⟨w.heap.size, 0, none⟩ W ?_ (by have := hW.size; simp at this ⊢; omega)
    rw [hW.cell (p := ⟨w.heap.size, 0, none⟩) (by simp), cell_of_row _ _ _ _ _ _ (heap_alloc_new w _)]
    rfl) enters28)
  obtain ⟨A, c, rfl⟩ := hv.form
  clear hv
  go_enter Try.func16, Try.ntmps16
  go_wp2_with fail
  with_reducible refine H.out.mono ?_
  rintro e w1 ⟨v', rfl, hO, hB⟩
  go_wp2_with fail
  go_ret
  exact ⟨_, rfl, hO.mono hb.size, below_trans' hb hB⟩

set_option maxHeartbeats 2000000 in
theorem drop_calls (v : Value) (l : List It) (k : List UInt8) (s : Int) (w : World) (hv : Its w v l) (hlen : l.length ≤ 1000) :
    Calls Try.prog 20 #[v, .string (strB k), .int .i64 s] w fun e w' => ∃ v', e = .returned v' ∧ Own w.heap.size w' v' (dropL k s l) ∧ Below w.heap.size w w' := by
  have hb := below_two w (.cells #[.string (strB k)] 9) (.cells #[.int .i64 s] 3)
  have H := Lib.hid (those_calls v l 32 #[.pointer (some ⟨w.heap.size, 0, none⟩), .pointer (some ⟨w.heap.size + 1, 0, none⟩)] (stays k s) _ (hv.below hb) hlen (fun x W hW => by
    refine dropFn_calls x k s ⟨w.heap.size, 0, none⟩ ⟨w.heap.size + 1, 0, none⟩ W ?_ (by have := hW.size; simp at this ⊢; omega) ?_ (by have := hW.size; simp at this ⊢; omega)
    · rw [hW.cell (p := ⟨w.heap.size, 0, none⟩) (by simp; omega), (below_one (w.alloc (.cells #[.string (strB k)] 9)) _).cell (p := ⟨w.heap.size, 0, none⟩) (by simp), cell_of_row _ _ _ _ _ _ (heap_alloc_new w _)]
      rfl
    · rw [hW.cell (p := ⟨w.heap.size + 1, 0, none⟩) (by simp)]
      have h := heap_alloc_new (w.alloc (.cells #[.string (strB k)] 9)) (.cells #[.int .i64 s] 3)
      rw [World.size_alloc] at h
      rw [cell_of_row _ _ _ _ _ _ h]
      rfl) enters32)
  obtain ⟨A, c, rfl⟩ := hv.form
  clear hv
  go_enter Try.func20, Try.ntmps20
  go_wp2_with fail
  with_reducible refine H.out.mono ?_
  rintro e w1 ⟨v', rfl, hO, hB⟩
  go_wp2_with fail
  go_ret
  exact ⟨_, rfl, hO.mono hb.size, below_trans' hb hB⟩


set_option maxRecDepth 100000 in
set_option maxHeartbeats 4000000 in
theorem rof_calls (v : Value) (l : List It) (k : List UInt8) (w : World) (hv : Its w v l) (hlen : l.length ≤ 1000) :
    Calls Try.prog 17 #[v, .string (strB k)] w fun e w' => ∃ v', e = .returned v' ∧ Own w.heap.size w' v' (ofL k l) ∧ Below w.heap.size w w' := by
  obtain ⟨A, c, rfl⟩ := hv.form
  obtain ⟨n, hn⟩ : ∃ n, n = l.length := ⟨_, rfl⟩
  rw [← hn] at hv hlen ⊢
  have HN := Lib.hid hn
  have HV := Lib.hid hv
  clear hn hv
  obtain ⟨i1, hi, hz0, hz1, hz2⟩ := info_parts info24
  have e2 := strB_toList k
  obtain ⟨p, hp⟩ : ∃ p : It → Bool, p = fun x => decide (x.key = k) := ⟨_, rfl⟩
  have HP := Lib.hid hp
  have hg : ofL k l = l.filter p := by rw [hp]; rfl
  rw [hg]
  clear hg hp
  go_enter Try.func17, Try.ntmps17
  go_wp2_with fail
  go_loopw [5, 6] (fun u5 u10 wr => ∃ i : Nat, i ≤ n ∧ u10 = .int .i64 i ∧ Own w.heap.size wr u5 ((l.take i).filter p) ∧ Below w.heap.size w wr) (fun _ u _ => n - (intOf u).toNat)
  case atStart => exact ⟨0, Nat.zero_le _, rfl, Own.nil _ _, Below.refl _ _⟩
  case round =>
    obtain ⟨i, hi', rfl, hown, hbr⟩ := hrel
    have HOWN := Lib.hid hown
    have HBR := Lib.hid hbr
    clear hown hbr
    by_cases hlt : i < n
    · obtain ⟨x, hx⟩ : ∃ x, l[i]? = some x := ⟨_, List.getElem?_eq_getElem (by have := HN.out; omega)⟩
      obtain ⟨b, off, rfl, hbl, hcell⟩ := HV.out.at_.2.2 (by omega)
      obtain ⟨c0, c1, c2, c3, c4, c5, c6⟩ := (hcell i x hx).below hbl HBR.out
      have hi1 : (0 : Int) ≤ (i : Int) := by omega
      have hi2 : (i : Int) < (n : Int) := by omega
      have HF := Lib.hid (filter_next p hx)
      have e1 := strB_toList x.key
      have hle : ((l.take i).filter p).length ≤ 1000 := Nat.le_trans (List.length_filter_le _ _) (by rw [List.length_take]; omega)
      clear hcell hx
      cases h : (x.key == k) with
      | true =>
        have hf := HF.out
        rw [show p x = true by rw [HP.out]; simpa using h, if_pos rfl] at hf
        have HF2 := Lib.hid hf
        clear hf HF
        go_wp2_with (at_builtin; refine wpList_append_own_at _ (by rfl) (.tmp 20) (.tmp 25) 22 (by rfl) w.heap.size 24 i1 _ 7 88 Try.underlying22 hi hz0 hz1 hz2 (by rfl) (by omega) _ ((l.take i).filter p).length (itsC ((l.take i).filter p)) (by rfl) (by exact World.ownsRow.alloc HOWN.out _) ⟨wr.heap.size, 0, none⟩ 1 1 (itC x) (by rfl) (by rfl) (by exact news7 x rfl) (itC_one x) (Nat.le_trans (show ((l.take i).filter p).length + 1 ≤ 1000000 by omega) (by decide)) (by omega) (by have := HBR.out.size; simp; omega) ?_; intro v' w' hown' hgrow' hnil' hat')
        refine ⟨⟨i + 1, by omega, by go_num, ?_, (HBR.out.alloc HBR.out.size _).grown hgrow' (by have := HBR.out.size; simp; omega) HOWN.out.ge⟩, by simp [intOf]; omega⟩
        rw [HF2.out]
        exact own_app hown'
      | false =>
        have hf := HF.out
        rw [show p x = false by rw [HP.out]; simpa using h, if_neg (by simp), List.append_nil] at hf
        have HF2 := Lib.hid hf
        clear hf HF
        go_wp2_with fail
        exact ⟨⟨i + 1, by omega, by go_num, by rw [HF2.out]; exact HOWN.out, HBR.out⟩, by simp [intOf]; omega⟩
    · obtain rfl : i = n := by omega
      go_wp2_with fail
      go_ret
      refine ⟨_, rfl, ?_, HBR.out⟩
      have h := HOWN.out
      rwa [HN.out, List.take_length] at h

set_option maxRecDepth 100000 in
set_option maxHeartbeats 4000000 in
theorem rdrop_calls (v : Value) (l : List It) (k : List UInt8) (s : Int) (w : World) (hv : Its w v l) (hlen : l.length ≤ 1000) :
    Calls Try.prog 21 #[v, .string (strB k), .int .i64 s] w fun e w' => ∃ v', e = .returned v' ∧ Own w.heap.size w' v' (dropL k s l) ∧ Below w.heap.size w w' := by
  obtain ⟨A, c, rfl⟩ := hv.form
  obtain ⟨n, hn⟩ : ∃ n, n = l.length := ⟨_, rfl⟩
  rw [← hn] at hv hlen ⊢
  have HN := Lib.hid hn
  have HV := Lib.hid hv
  clear hn hv
  obtain ⟨i1, hi, hz0, hz1, hz2⟩ := info_parts info24
  have e2 := strB_toList k
  obtain ⟨p, hp⟩ : ∃ p : It → Bool, p = stays k s := ⟨_, rfl⟩
  have HP := Lib.hid hp
  have hg : dropL k s l = l.filter p := by rw [hp]; rfl
  rw [hg]
  clear hg hp
  go_enter Try.func21, Try.ntmps21
  go_wp2_with fail
  go_loopw [7, 8] (fun u5 u10 wr => ∃ i : Nat, i ≤ n ∧ u10 = .int .i64 i ∧ Own w.heap.size wr u5 ((l.take i).filter p) ∧ Below w.heap.size w wr) (fun _ u _ => n - (intOf u).toNat)
  case atStart => exact ⟨0, Nat.zero_le _, rfl, Own.nil _ _, Below.refl _ _⟩
  case round =>
    obtain ⟨i, hi', rfl, hown, hbr⟩ := hrel
    have HOWN := Lib.hid hown
    have HBR := Lib.hid hbr
    clear hown hbr
    by_cases hlt : i < n
    · obtain ⟨x, hx⟩ : ∃ x, l[i]? = some x := ⟨_, List.getElem?_eq_getElem (by have := HN.out; omega)⟩
      obtain ⟨b, off, rfl, hbl, hcell⟩ := HV.out.at_.2.2 (by omega)
      obtain ⟨c0, c1, c2, c3, c4, c5, c6⟩ := (hcell i x hx).below hbl HBR.out
      have hi1 : (0 : Int) ≤ (i : Int) := by omega
      have hi2 : (i : Int) < (n : Int) := by omega
      have HF := Lib.hid (filter_next p hx)
      have e1 := strB_toList x.key
      have hle : ((l.take i).filter p).length ≤ 1000 := Nat.le_trans (List.length_filter_le _ _) (by rw [List.length_take]; omega)
      clear hcell hx
      cases h : (x.key == k) with
      | false =>
        have hf := HF.out
        rw [show p x = true by rw [HP.out]; unfold stays; rw [show decide (x.key ≠ k) = true by simpa using h, Bool.true_or], if_pos rfl] at hf
        have HF2 := Lib.hid hf
        clear hf HF
        go_wp2_with (at_builtin; refine wpList_append_own_at _ (by rfl) (.tmp 31) (.tmp 36) 22 (by rfl) w.heap.size 24 i1 _ 7 88 Try.underlying22 hi hz0 hz1 hz2 (by rfl) (by omega) _ ((l.take i).filter p).length (itsC ((l.take i).filter p)) (by rfl) (by exact World.ownsRow.alloc HOWN.out _) ⟨wr.heap.size, 0, none⟩ 1 1 (itC x) (by rfl) (by rfl) (by exact news7 x rfl) (itC_one x) (Nat.le_trans (show ((l.take i).filter p).length + 1 ≤ 1000000 by omega) (by decide)) (by omega) (by have := HBR.out.size; simp; omega) ?_; intro v' w' hown' hgrow' hnil' hat')
        refine ⟨⟨i + 1, by omega, by go_num, ?_, (HBR.out.alloc HBR.out.size _).grown hgrow' (by have := HBR.out.size; simp; omega) HOWN.out.ge⟩, by simp [intOf]; omega⟩
        rw [HF2.out]
        exact own_app hown'
      | true =>
        by_cases hs : x.seq = s
        · have hs' : (x.seq == s) = true := by simpa using hs
          have hf := HF.out
          rw [show p x = false by rw [HP.out]; unfold stays; rw [show decide (x.key ≠ k) = false by simpa using h, Bool.false_or]; simpa using hs, if_neg (by simp), List.append_nil] at hf
          have HF2 := Lib.hid hf
          clear hf HF
          go_wp2_with fail
          exact ⟨⟨i + 1, by omega, by go_num, by rw [HF2.out]; exact HOWN.out, HBR.out⟩, by simp [intOf]; omega⟩
        · have hs' : (x.seq == s) = false := by simpa using hs
          have hf := HF.out
          rw [show p x = true by rw [HP.out]; unfold stays; rw [show decide (x.key ≠ k) = false by simpa using h, Bool.false_or]; simpa using hs, if_pos rfl] at hf
          have HF2 := Lib.hid hf
          clear hf HF
          go_wp2_with (at_builtin; refine wpList_append_own_at _ (by rfl) (.tmp 31) (.tmp 36) 22 (by rfl) w.heap.size 24 i1 _ 7 88 Try.underlying22 hi hz0 hz1 hz2 (by rfl) (by omega) _ ((l.take i).filter p).length (itsC ((l.take i).filter p)) (by rfl) (by exact World.ownsRow.alloc HOWN.out _) ⟨wr.heap.size, 0, none⟩ 1 1 (itC x) (by rfl) (by rfl) (by exact news7 x rfl) (itC_one x) (Nat.le_trans (show ((l.take i).filter p).length + 1 ≤ 1000000 by omega) (by decide)) (by omega) (by have := HBR.out.size; simp; omega) ?_; intro v' w' hown' hgrow' hnil' hat')
          refine ⟨⟨i + 1, by omega, by go_num, ?_, (HBR.out.alloc HBR.out.size _).grown hgrow' (by have := HBR.out.size; simp; omega) HOWN.out.ge⟩, by simp [intOf]; omega⟩
          rw [HF2.out]
          exact own_app hown'
    · obtain rfl : i = n := by omega
      go_wp2_with fail
      go_ret
      refine ⟨_, rfl, ?_, HBR.out⟩
      have h := HOWN.out
      rwa [HN.out, List.take_length] at h

end Go.Proofs.Ytgnhjcgegibpdaa
