/- DigestTags: the walk. No statement is proved here. -/
import Derived.Test.YtgcinbkecgfmbaaDoorRow
namespace Go.Proofs.YtgcinbkecgfmbaaDoor
open Go.RowKit

theorem beq_ne {l m : List UInt8} (h : l ≠ m) : ((strB l).toList == (strB m).toList) = false := by
  rw [strB_toList, strB_toList]
  exact beq_false_of_ne h
theorem set_ne (l : List UInt8) (k : Nat) (c : UInt8) (hk : k < l.length) (h : c ≠ l.getD k 0) : l.set k c ≠ l := by
  intro e
  have := congrArg (fun x => x.getD k 0) e
  simp only [getD_set _ _ _ _ hk, if_true] at this
  exact h this
theorem join_two (l m : List UInt8) : strB (tagL (l ++ m)) ++ (⟨#[45, 50]⟩ : ByteArray) = strB (joinL [l, m]) := by
  have e : joinL [l, m] = tagL (l ++ m) ++ [45, 50] := by
    unfold joinL
    rw [show [l, m].flatten = l ++ m by simp, show [l, m].length = 2 from rfl, dec_one (by decide)]
    rfl
  rw [e, ← strB_append]
  rfl
theorem two_in (w : World) (l m : List UInt8) : StrsIn (w.alloc (.cells #[.string (strB l), .string (strB m)] 9)) (some ⟨w.heap.size, 0, none⟩) [l, m] := fun _ => ⟨w.heap.size, 0, rfl, by simp, fun j hj => by
  rw [cell_of_row _ _ _ _ _ _ (heap_alloc_new w _)]
  match j, hj with
  | 0, _ => rfl
  | 1, _ => rfl⟩

/-- The last part of the law: Joined of two, and the tag of both. -/
theorem last_two (l m : List UInt8) (hl : l.length ≤ 1000) (hm : m.length ≤ 1000) (w : World) :
    Calls Tryd.prog 11 #[.slice (some ⟨w.heap.size, 0, none⟩) 2 2] (w.alloc (.cells #[.string (strB l), .string (strB m)] 9)) fun e w' => e = .returned (.string (strB (joinL [l, m]))) ∧ Below w.heap.size w w' := by
  refine (joined_calls (some ⟨w.heap.size, 0, none⟩) 2 2 [l, m] _ (two_in w l m) rfl (by decide) (by simp; omega) (fun h => absurd h (by decide))).mono ?_
  rintro e w' ⟨rfl, hB⟩
  exact ⟨rfl, two_below ((Below.refl w.heap.size w).alloc (Nat.le_refl _) _) hB⟩

set_option maxRecDepth 100000 in
set_option maxHeartbeats 4000000 in
theorem tags_few (l m : List UInt8) (a : Nat) (w : World) (h1 : 1 ≤ l.length) (hl : l.length ≤ 1000) (hm : m.length ≤ 1000) (ha : a < 65536) :
    Calls Tryd.prog 4 #[.string (strB l), .string (strB m), .int .u16 (a : Nat)] w fun e w' => e = .returned (.bool true) ∧ Below w.heap.size w w' := by
  have hs := strB_size l
  have g1 : ¬ (1000 : Int) < (strB l).size := by omega
  have g2 : ¬ (1000 : Int) < (strB m).size := by rw [strB_size]; omega
  have g3 : (0 : Int) < l.length := by omega
  have hk : a % l.length < l.length := Nat.mod_lt _ (by omega)
  obtain ⟨x, hx⟩ : ∃ x, x = l.getD (a % l.length) 0 := ⟨_, rfl⟩
  obtain ⟨C, hC⟩ : ∃ C : UInt8, C = UInt8.ofNat (x.toNat + 1) := ⟨_, rfl⟩
  have hCi : ((x.toNat : Nat) + 1 : Int) % 256 = ((C.toNat : Nat) : Int) := by
    rw [hC, UInt8.toNat_ofNat']
    omega
  have hCn : C ≠ l.getD (a % l.length) 0 := by
    rw [← hx]
    intro e
    have := congrArg UInt8.toNat e
    rw [hC, UInt8.toNat_ofNat'] at this
    have := x.toNat_lt
    omega
  have hn1 := beq_ne (set_ne l (a % l.length) C hk hCn)
  have hn2 := beq_ne (fun e => hCn (tag_other l (a % l.length) C hk e).symm)
  have htl : (strB (tagL l)).size = 16 := by rw [strB_size, tagL_len]
  have hap := strB_append l m
  have hz : ¬ 9223372036854775807 < (strB l).size + (strB m).size := by rw [strB_size, strB_size]; omega
  have hz2 : ¬ 9223372036854775807 < (strB (tagL (l ++ m))).size + (⟨#[45, 50]⟩ : ByteArray).size := by rw [strB_size, tagL_len]; decide
  have hj := join_two l m
  have hL2 : (l.set (a % l.length) C).length = l.length := List.length_set
  clear hC hCn
  go_enter Tryd.func4, Tryd.ntmps4
  go_wp2_with fail
  (with_reducible refine (tag_calls l _ (by omega)).mono ?_)
  rintro e w1 ⟨rfl, hB⟩
  have B1 := Lib.hid hB
  clear hB
  go_wp2_with fail
  (with_reducible refine (tag_calls m _ (by omega)).mono ?_)
  rintro e w2 ⟨rfl, hB⟩
  have B2 := Lib.hid (two_below B1.out hB)
  clear hB B1
  go_wp2_with fail
  (with_reducible refine (tag_calls m _ (by omega)).mono ?_)
  rintro e w3 ⟨rfl, hB⟩
  have B3 := Lib.hid (two_below B2.out hB)
  clear hB B2
  go_wp2_with fail
  (with_reducible refine (tag_calls l _ (by omega)).mono ?_)
  rintro e w4 ⟨rfl, hB⟩
  have B4 := Lib.hid (two_below B3.out hB)
  clear hB B3
  have hcv := run_bytes_of_string (P := Tryd.prog) w4 9 30 5 (strB l) Tryd.underlying9 Tryd.underlying30 Tryd.underlying5
  generalize grownCap w4 (strB l).size 0 5 = cap at hcv
  have hR := RowB.new w4 l cap
  have c1 := hR.cell hk
  rw [← hx] at c1
  have c2 := hR.free hk
  have hR2 := RowB.keep (w' := ((w4.alloc (.cells (bytesRow (strB l) cap) 5 ((bytesRow (strB l) cap).size, (bytesRow (strB l) cap).size + 1))).setCell ⟨w4.heap.size, a % l.length, none⟩ (.int .u8 ((C.toNat : Nat) : Int))).drew) (hR.set hk C) rfl
  have hcv2 := hR2.back cap
  rw [List.length_set] at hcv2
  have HB0 : Hid (Below w.heap.size w ((w4.alloc (.cells (bytesRow (strB l) cap) 5 ((bytesRow (strB l) cap).size, (bytesRow (strB l) cap).size + 1))).setCell ⟨w4.heap.size, a % l.length, none⟩ (.int .u8 ((C.toNat : Nat) : Int))).drew) :=
    Lib.hid (two_below B4.out ((((Below.refl w4.heap.size w4).alloc (Nat.le_refl _) _).setCell (Nat.le_refl _) _).drew))
  clear hR hR2 B4 hx
  go_wp2_with fail
  clear hcv hcv2 c1 c2
  generalize ((w4.alloc (.cells (bytesRow (strB l) cap) 5 ((bytesRow (strB l) cap).size, (bytesRow (strB l) cap).size + 1))).setCell ⟨w4.heap.size, a % l.length, none⟩ (.int .u8 ((C.toNat : Nat) : Int))).drew = W0 at *
  (with_reducible refine (awake_true _).mono ?_)
  rintro e w5 ⟨rfl, hB⟩
  have B5 := Lib.hid (two_below HB0.out hB)
  clear hB HB0
  go_wp2_with fail
  (with_reducible refine (tag_calls (l.set (a % l.length) C) _ (by omega)).mono ?_)
  rintro e w6 ⟨rfl, hB⟩
  have B6 := Lib.hid (two_below B5.out hB)
  clear hB B5
  go_wp2_with fail
  (with_reducible refine (last_two l m hl hm _).mono ?_)
  rintro e w7 ⟨rfl, hB⟩
  have B7 := Lib.hid (two_below B6.out hB)
  clear hB B6
  go_wp2_with fail
  (with_reducible refine (tag_calls (l ++ m) _ (by simp; omega)).mono ?_)
  rintro e w8 ⟨rfl, hB⟩
  have B8 := Lib.hid (two_below B7.out hB)
  clear hB B7
  go_wp2_with fail
  go_ret
  exact ⟨by simp, B8.out⟩

set_option maxRecDepth 100000 in
set_option maxHeartbeats 4000000 in
theorem tags_none (l m : List UInt8) (a : Nat) (w : World) (hl0 : l.length = 0) (hm : m.length ≤ 1000) :
    Calls Tryd.prog 4 #[.string (strB l), .string (strB m), .int .u16 (a : Nat)] w fun e w' => e = .returned (.bool true) ∧ Below w.heap.size w w' := by
  have hs := strB_size l
  have g1 : ¬ (1000 : Int) < (strB l).size := by omega
  have g2 : ¬ (1000 : Int) < (strB m).size := by rw [strB_size]; omega
  have htl : (strB (tagL l)).size = 16 := by rw [strB_size, tagL_len]
  have hap := strB_append l m
  have hz : ¬ 9223372036854775807 < (strB l).size + (strB m).size := by rw [strB_size, strB_size]; omega
  have hz2 : ¬ 9223372036854775807 < (strB (tagL (l ++ m))).size + (⟨#[45, 50]⟩ : ByteArray).size := by rw [strB_size, tagL_len]; decide
  have hj := join_two l m
  rw [hl0] at hs
  go_enter Tryd.func4, Tryd.ntmps4
  go_wp2_with fail
  (with_reducible refine (tag_calls l _ (by omega)).mono ?_)
  rintro e w1 ⟨rfl, hB⟩
  have B1 := Lib.hid hB
  clear hB
  go_wp2_with fail
  (with_reducible refine (tag_calls m _ (by omega)).mono ?_)
  rintro e w2 ⟨rfl, hB⟩
  have B2 := Lib.hid (two_below B1.out hB)
  clear hB B1
  go_wp2_with fail
  (with_reducible refine (tag_calls m _ (by omega)).mono ?_)
  rintro e w3 ⟨rfl, hB⟩
  have B3 := Lib.hid (two_below B2.out hB)
  clear hB B2
  go_wp2_with fail
  (with_reducible refine (tag_calls l _ (by omega)).mono ?_)
  rintro e w4 ⟨rfl, hB⟩
  have B4 := Lib.hid (two_below B3.out hB)
  clear hB B3
  go_wp2_with fail
  (with_reducible refine (awake_true _).mono ?_)
  rintro e w5 ⟨rfl, hB⟩
  have B5 := Lib.hid (two_below B4.out hB)
  clear hB B4
  go_wp2_with fail
  (with_reducible refine (last_two l m (by omega) hm _).mono ?_)
  rintro e w7 ⟨rfl, hB⟩
  have B7 := Lib.hid (two_below B5.out hB)
  clear hB B5
  go_wp2_with fail
  (with_reducible refine (tag_calls (l ++ m) _ (by simp; omega)).mono ?_)
  rintro e w8 ⟨rfl, hB⟩
  have B8 := Lib.hid (two_below B7.out hB)
  clear hB B7
  go_wp2_with fail
  go_ret
  exact ⟨by simp, B8.out⟩

set_option maxRecDepth 100000 in
set_option maxHeartbeats 2000000 in
theorem tags_calls (s t : ByteArray) (a : Nat) (w : World) (ha : a < 65536) :
    Calls Tryd.prog 4 #[.string s, .string t, .int .u16 (a : Nat)] w fun e w' => e = .returned (.bool true) ∧ Below w.heap.size w w' := by
  by_cases hs : s.size ≤ 1000
  · by_cases ht : t.size ≤ 1000
    · by_cases h1 : 1 ≤ s.size
      · have h := tags_few s.data.toList t.data.toList a w (by rw [len_data]; exact h1) (by rw [len_data]; exact hs) (by rw [len_data]; exact ht) ha
        rw [strB_of, strB_of] at h
        exact h
      · have h := tags_none s.data.toList t.data.toList a w (by rw [len_data]; omega) (by rw [len_data]; exact ht)
        rw [strB_of, strB_of] at h
        exact h
    · have g1 : ¬ (1000 : Int) < s.size := by omega
      have g2 : (1000 : Int) < t.size := by omega
      go_enter Tryd.func4, Tryd.ntmps4
      go_wp2_with fail
      (with_reducible refine (awake_true _).mono ?_)
      rintro e w3 ⟨rfl, hB3⟩
      go_wp2_with fail
      go_ret
      exact ⟨rfl, hB3⟩
  · have g1 : (1000 : Int) < s.size := by omega
    go_enter Tryd.func4, Tryd.ntmps4
    go_wp2_with fail
    (with_reducible refine (awake_true _).mono ?_)
    rintro e w3 ⟨rfl, hB3⟩
    go_wp2_with fail
    go_ret
    exact ⟨rfl, hB3⟩
end Go.Proofs.YtgcinbkecgfmbaaDoor
