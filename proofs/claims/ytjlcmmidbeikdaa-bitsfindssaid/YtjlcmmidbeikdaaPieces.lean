/- The law's own look at pieces: what the call does. No statement is proved here. -/
import Derived.Test.YtjlcmmidbeikdaaBack
namespace Go.Proofs.Ytjlcmmidbeikdaa
open Go.RowKit Go.Sort

theorem drop_at {l : List (Int × Int)} {i : Nat} {x : Int × Int} (h : l[i]? = some x) : l.drop i = x :: l.drop (i + 1) := by
  obtain ⟨hi, hx⟩ := List.getElem?_eq_some_iff.1 h
  rw [List.drop_eq_getElem_cons hi, hx]
theorem sumL_nonneg {r : List (Int × Int)} (h : ∀ x ∈ r, 1 ≤ x.2) : 0 ≤ sumL r := by
  induction r with
  | nil => exact Int.le_refl _
  | cons y r ih =>
    have h1 := ih fun x hx => h x (List.mem_cons_of_mem _ hx)
    have h2 := h y List.mem_cons_self
    show 0 ≤ y.2 + sumL r
    omega
theorem taken_no (l : List UInt8) (p : Int) (w : World) (hl : l.length ≤ 300) (b : Bool) (h : tkI l p = b) :
    Calls Try.prog 12 #[.string (strB l), .int .i64 p] w fun e w' => e = .returned (.bool b) ∧ Below w.heap.size w w' := by
  have := taken_calls l p w hl
  rw [h] at this
  exact this

set_option maxRecDepth 100000 in
set_option maxHeartbeats 4000000 in
theorem pieces_calls (l : List UInt8) (r : List (Int × Int)) (A : Option Addr) (n c : Nat) (k : Int) (w : World) (hl : l.length ≤ 300) (hv : Sps w (.slice A n c) r) (hn : n ≤ 600)
    (ha : ∀ x ∈ r, 0 ≤ x.1 ∧ 1 ≤ x.2 ∧ x.1 + x.2 ≤ 600) (hk : sumL r = k) (hk2 : k ≤ 1000) (hg : Gap l 0 r) :
    Calls Try.prog 23 #[.string (strB l), .slice A n c, .int .i64 k] w fun e w' => e = .returned (.bool true) ∧ Below w.heap.size w w' := by
  have HV := Lib.hid hv
  have HRN := Lib.hid hv.at_.1
  have HA := Lib.hid ha
  have HK := Lib.hid hk
  have HG := Lib.hid hg
  have HSum : Hid (∀ i, 0 ≤ sumL (r.drop i)) := Lib.hid (fun i => sumL_nonneg fun x hx => (ha x (List.mem_of_mem_drop hx)).2.1)
  clear hv ha hg hk
  go_enter Try.func23, Try.ntmps23
  go_wp2_with fail
  go_loopw [2, 7, 8] (fun u2 u7 u8 wr => ∃ (i : Nat) (a kk : Int), i ≤ n ∧ u8 = .int .i64 (i : Nat) ∧ u7 = .int .i64 a ∧ u2 = .int .i64 kk ∧ 0 ≤ a ∧ a ≤ 600 ∧ kk ≤ 1000 ∧ Hid (sumL (r.drop i) = kk) ∧ Hid (Gap l a (r.drop i)) ∧ Hid (Below w.heap.size w wr)) (fun _ _ u _ => n - (intOf u).toNat)
  case atStart => exact ⟨0, 0, k, Nat.zero_le _, rfl, rfl, rfl, Int.le_refl _, by omega, hk2, HK, HG, Lib.hid (Below.refl _ _)⟩
  case round =>
    obtain ⟨i, a, kk, hi, rfl, rfl, rfl, ha0, ha1, hkk, HS, HGp, HB⟩ := hrel
    obtain ⟨w2, rfl⟩ : ∃ w2, w2 = wr := ⟨_, rfl⟩
    by_cases hlt : i < n
    · obtain ⟨x, hx⟩ : ∃ x, r[i]? = some x := ⟨_, List.getElem?_eq_getElem (by have := HRN.out; omega)⟩
      obtain ⟨b, off, rfl, hbl, hcell⟩ := HV.out.at_.2.2 (by omega)
      have HC0 : Hid (∀ W, Below w.heap.size w W → W.cell? ⟨b, off + i * 2, none⟩ = some (.int .i64 x.1)) := Lib.hid (fun W hW => (hW.cell (p := ⟨b, off + i * 2, none⟩) hbl).trans (hcell i x hx).1)
      have HC1 : Hid (∀ W, Below w.heap.size w W → W.cell? ⟨b, off + i * 2 + 1, none⟩ = some (.int .i64 x.2)) := Lib.hid (fun W hW => (hW.cell (p := ⟨b, off + i * 2 + 1, none⟩) hbl).trans (hcell i x hx).2)
      have hi2 : (i : Int) < (n : Int) := by omega
      obtain ⟨hx0, hx1, hx2⟩ := HA.out x (List.mem_of_getElem? hx)
      have hd := drop_at hx
      have HS1 : Hid (x.2 + sumL (r.drop (i + 1)) = kk) := Lib.hid (by have := HS.out; rw [hd] at this; exact this)
      have hrest := HSum.out (i + 1)
      have hG := HGp.out
      rw [hd] at hG
      obtain ⟨g1, _, g3, g4, g5⟩ := hG
      have HG3 := Lib.hid g3
      have HG4 := Lib.hid g4
      have HG5 := Lib.hid g5
      clear hcell hx hd g3 g4 g5 HS HGp
      go_wp2_with fail
      go_loopw [7] (fun u7 wr => ∃ a2 : Int, a ≤ a2 ∧ a2 ≤ x.1 ∧ u7 = .int .i64 a2 ∧ Hid (Below w.heap.size w wr)) (fun u _ => (x.1 - intOf u).toNat)
      case atStart => exact ⟨a, Int.le_refl _, g1, rfl, HB⟩
      case round =>
        obtain ⟨a2, h1, h2, rfl, HB2⟩ := hrel
        obtain ⟨w3, rfl⟩ : ∃ w3, w3 = wr := ⟨_, rfl⟩
        have q0 := HC0.out _ HB2.out
        by_cases hlt2 : a2 < x.1
        · have HT := Lib.hid (HG3.out a2 h1 hlt2)
          go_wp2_with fail
          (with_reducible refine (taken_no l a2 _ hl true HT.out).mono ?_)
          rintro e w4 ⟨rfl, hB⟩
          replace HB2 := Lib.hid (below_trans2 HB2.out hB)
          clear hB
          go_wp2_with fail
          exact ⟨⟨a2 + 1, by omega, by omega, by go_num, HB2⟩, by simp [intOf]; omega⟩
        · obtain rfl : a2 = x.1 := by omega
          have q1 := HC1.out _ HB2.out
          go_wp2_with fail
          clear q0 q1
          go_loopw [2, 7, 9] (fun u2 u7 u9 wr => ∃ m : Int, 0 ≤ m ∧ m ≤ x.2 ∧ u9 = .int .i64 m ∧ u7 = .int .i64 (x.1 + m) ∧ u2 = .int .i64 (kk - m) ∧ Hid (Below w.heap.size w wr)) (fun _ _ u _ => (x.2 - intOf u).toNat)
          case atStart => exact ⟨0, Int.le_refl _, by omega, rfl, by go_num, by go_num, HB2⟩
          case round =>
            obtain ⟨m, m1, m2, rfl, rfl, rfl, HB3⟩ := hrel
            obtain ⟨w5, rfl⟩ : ∃ w5, w5 = wr := ⟨_, rfl⟩
            have q1 := HC1.out _ HB3.out
            by_cases hlt3 : m < x.2
            · have HT := Lib.hid (HG4.out (x.1 + m) (by omega) (by omega))
              have hkm : 0 ≤ kk := by have := HS1.out; omega
              go_wp2_with fail
              (with_reducible refine (taken_no l (x.1 + m) _ hl false HT.out).mono ?_)
              rintro e w4 ⟨rfl, hB⟩
              replace HB3 := Lib.hid (below_trans2 HB3.out hB)
              clear hB
              go_wp2_with fail
              exact ⟨⟨m + 1, by omega, by omega, by go_num, by go_num, by go_num, HB3⟩, by simp [intOf]; omega⟩
            · obtain rfl : m = x.2 := by omega
              go_wp2_with fail
              exact ⟨⟨i + 1, x.1 + x.2, kk - x.2, by omega, by go_num, rfl, rfl, by omega, by omega, by omega, Lib.hid (by have := HS1.out; omega), HG5, HB3⟩, by simp [intOf]; omega⟩
    · obtain rfl : i = n := by omega
      have hz : kk = 0 := by
        have := HS.out
        rw [List.drop_of_length_le (by rw [HRN.out]; exact Nat.le_refl _)] at this
        exact this.symm
      subst hz
      go_wp2_with fail
      go_ret
      exact ⟨rfl, HB.out⟩

end Go.Proofs.Ytjlcmmidbeikdaa
