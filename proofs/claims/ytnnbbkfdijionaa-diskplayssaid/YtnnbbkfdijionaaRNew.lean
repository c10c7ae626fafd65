/- The document's own New. No statement is proved here. -/
import Derived.Test.YtnnbbkfdijionaaRPut
import Derived.Deep.RegionLaw
import Derived.Deep.AppendLies
namespace Go.Proofs.Ytnnbbkfdijionaa
open Go.RowKit
attribute [local go_sem ↓] Go.wp_at_zero Go.wp_at_succ

set_option maxHeartbeats 1000000 in
theorem rnew_bad_lo (n : Int) (h1 : n < 1) (w : World) :
    Calls Try.prog 11 #[.int .i64 n] w fun e w' => e = .returned (.tuple #[.agg #[.slice none 0 0, .slice none 0 0, .bool false, .int .i64 0], .int .i64 1]) ∧ Below w.heap.size w w' := by
  have hd1 : decide (n < 1) = true := by simpa using h1
  go_enter Try.func11, Try.ntmps11
  go_wp2
  exact bodyPost_ret (v := .tuple #[.agg #[.slice none 0 0, .slice none 0 0, .bool false, .int .i64 0], .int .i64 1]) (by simp [results, Try.results11, go_sem]) rfl ⟨rfl, (Below.refl _ _).alloc (Nat.le_refl _) _⟩

set_option maxHeartbeats 1000000 in
theorem rnew_bad_hi (n : Int) (h1 : 2000 < n) (w : World) :
    Calls Try.prog 11 #[.int .i64 n] w fun e w' => e = .returned (.tuple #[.agg #[.slice none 0 0, .slice none 0 0, .bool false, .int .i64 0], .int .i64 1]) ∧ Below w.heap.size w w' := by
  have hd1 : decide (n < 1) = false := by simp; omega
  have hd2 : decide (2000 < n) = true := by simpa using h1
  go_enter Try.func11, Try.ntmps11
  go_wp2
  exact bodyPost_ret (v := .tuple #[.agg #[.slice none 0 0, .slice none 0 0, .bool false, .int .i64 0], .int .i64 1]) (by simp [results, Try.results11, go_sem]) rfl ⟨rfl, (Below.refl _ _).alloc (Nat.le_refl _) _⟩

theorem kept_own {W w' : World} {base : Nat} {e : TypeId} {size n : Nat} {v : Value} {xs : List Value} (hg : W.grownBy w' v.ownBlock) (hown : W.ownsRow base e size v n xs) {k : Nat} (hk : k < base) (hk2 : k < W.heap.size) : w'.heap[k]? = W.heap[k]? :=
  hg.block k hk2 fun e => by have := own_ge hown k e.symm; omega

set_option maxRecDepth 100000 in
set_option maxHeartbeats 2000000 in
theorem rnew_calls (n : Nat) (h1 : 1 ≤ n) (h2 : n ≤ 2000) (w : World) :
    Calls Try.prog 11 #[.int .i64 n] w fun e w' => ∃ v, e = .returned (.tuple #[v, .int .i64 0]) ∧ IsDisk w' v (newD n) ∧ Below w.heap.size w w' := by
  have hd1 : decide ((n : Int) < 1) = false := by simp; omega
  have hd2 : decide ((2000 : Int) < n) = false := by simp; omega
  go_enter Try.func11, Try.ntmps11
  obtain ⟨P, hP⟩ : ∃ P : ByteArray, P = ⟨(List.replicate 256 (0 : UInt8)).toArray⟩ := ⟨_, rfl⟩
  obtain ⟨i0, hi, hz0, hz1, hz2⟩ := info_parts Try.info5
  have hmk : ∀ W : World, (Instr.makeSlice 54 (.int .i64 256) (.int .i64 256)).run Try.prog W = .ok (.slice (some ⟨W.heap.size, 0, none⟩) 256 256) (W.alloc (.cells (madeCells #[.int .u8 0] 256) 5)) := by
    intro W
    have := run_make (P := Try.prog) W 54 5 i0 (.int .u8 0) Try.underlying54 hi hz0 .i64 .i64 256 256 (by omega) (by omega) (by rw [hz2]; omega) (by omega)
    rw [this, hz1]
    rfl
  have hcv : ∀ W : World, (convert 54 9 (.slice (some ⟨W.heap.size, 0, none⟩) 256 256)).run Try.prog (W.alloc (.cells (madeCells #[.int .u8 0] 256) 5)) = .ok (.string P) (W.alloc (.cells (madeCells #[.int .u8 0] 256) 5)) := by
    intro W
    have h0 := run_convert_bytes_back (P := Try.prog) (W.alloc (.cells (madeCells #[.int .u8 0] 256) 5)) 54 9 5 ⟨W.heap.size, 0, none⟩ 256 (List.replicate 256 0) Try.underlying54 Try.underlying5 Try.underlying9 ?_
    · rw [hP]; rw [List.length_replicate] at h0; exact h0
    · intro j hj
      have hj' : j < 256 := by simpa using hj
      rw [Addr.add_lit, cell_of_row _ _ _ _ _ _ (heap_alloc_new W _), List.getElem_replicate]
      simp [madeCells, hj', Nat.mod_one]
  have hcv2 : ∀ W : World, (convert 54 9 (.slice (some ⟨W.heap.size, 0, none⟩) 256 256)).run Try.prog (W.alloc (.cells (madeCells #[.int .u8 0] 256) 5)).drew = .ok (.string P) (W.alloc (.cells (madeCells #[.int .u8 0] 256) 5)).drew := fun W => hcv W.drew
  have hPP : P = padB ⟨#[]⟩ := by rw [hP]; rfl
  have HP := Lib.hid hPP
  obtain ⟨i1, hj, hy0, hy1, hy2⟩ := info_parts Try.info9
  clear hP hPP hi hz0 hz1 hz2
  go_wp2
  go_loopw [5] (fun u wr => ∃ (i : Nat) (A : Option Addr) (c : Nat), i ≤ n ∧ u = .int .i64 i ∧ wr.ownsRow (w.heap.size + 2) 9 1 (.slice A i c) i (List.replicate i (.string P)) ∧
    wr.heap[w.heap.size + 1]? = some (.cells #[.slice A i c, .slice none 0 0, .bool false, .int .i64 (-1)] 28 (0, 0)) ∧ wr.heap[w.heap.size]? = some (.cells #[.slice none 0 0, .slice none 0 0, .bool false, .int .i64 0] 28 (0, 0)) ∧ Below w.heap.size w wr) (fun u _ => n - (intOf u).toNat)
  case atStart =>
    refine ⟨0, none, 0, Nat.zero_le _, rfl, World.ownsRow_nil _ _ _ _, ?_, ?_, ((Below.refl _ _).alloc (Nat.le_refl _) _).alloc (by simp) _⟩
    · have := heap_alloc_new (w.alloc (.cells #[.slice none 0 0, .slice none 0 0, .bool false, .int .i64 0] 28)) (.cells #[.slice none 0 0, .slice none 0 0, .bool false, .int .i64 (-1)] 28)
      simpa using this
    · exact box_alloc (heap_alloc_new w _) _
  case round =>
    obtain ⟨i, A, c, hin, rfl, hown, hg4, hg2, hB⟩ := hrel
    have hlt4 : w.heap.size + 1 < wr.heap.size := (Array.getElem?_eq_some_iff.1 hg4).1
    have HOWN := Lib.hid hown
    have HG4 := Lib.hid hg4
    have HG2 := Lib.hid hg2
    have HB := Lib.hid hB
    clear hown hg4 hg2 hB
    obtain ⟨⟨p0, p1, p2, p3⟩, f0, f1, f2, f3⟩ := box4 HG4.out
    have HNEWS : Hid (∀ (j : Nat) (u : Value), [Value.string P][j]? = some u → ((wr.alloc (.cells (madeCells #[.int .u8 0] 256) 5)).alloc (.cells #[.string P] 9)).drew.cell? ((⟨wr.heap.size + 1, 0, none⟩ : Addr).add j) = some u) := by
      intro j u hu
      obtain rfl : j = 0 := by
        have := (List.getElem?_eq_some_iff.1 hu).1
        simpa using this
      simp at hu
      subst hu
      rw [Addr.add_lit]
      simp
    have HOX : Hid (((wr.alloc (.cells (madeCells #[.int .u8 0] 256) 5)).alloc (.cells #[.string P] 9)).drew.ownsRow (w.heap.size + 2) 9 1 (.slice A i c) i (List.replicate i (.string P))) := (HOWN.out.alloc _).alloc _
    have HGX : Hid (((wr.alloc (.cells (madeCells #[.int .u8 0] 256) 5)).alloc (.cells #[.string P] 9)).drew.heap[w.heap.size + 1]? = some (.cells #[.slice A i c, .slice none 0 0, .bool false, .int .i64 (-1)] 28 (0, 0))) := box_alloc (box_alloc HG4.out _) _
    have HGY : Hid (((wr.alloc (.cells (madeCells #[.int .u8 0] 256) 5)).alloc (.cells #[.string P] 9)).drew.heap[w.heap.size]? = some (.cells #[.slice none 0 0, .slice none 0 0, .bool false, .int .i64 0] 28 (0, 0))) := box_alloc (box_alloc HG2.out _) _
    have HBX : Hid (Below w.heap.size w ((wr.alloc (.cells (madeCells #[.int .u8 0] 256) 5)).alloc (.cells #[.string P] 9)).drew) := ((HB.out.alloc (by omega) _).alloc (by simp; omega) _).drew
    by_cases hlt : i < n
    · have p0a : (wr.alloc (.cells (madeCells #[.int .u8 0] 256) 5)).cell? ⟨w.heap.size + 1, 0, none⟩ = some (.slice A i c) := (box4 (box_alloc HG4.out _)).1.1
      have p0b : ((wr.alloc (.cells (madeCells #[.int .u8 0] 256) 5)).alloc (.cells #[.string P] 9)).cell? ⟨w.heap.size + 1, 0, none⟩ = some (.slice A i c) := (box4 (box_alloc (box_alloc HG4.out _) _)).1.1
      go_wp2
      go_region_law (refine step_append_lies _ (by rfl) (.tmp 20) (.tmp 23) 25 (by rfl) (w.heap.size + 2) 9 i1 (.string ⟨#[]⟩) 1 16 Try.underlying25 hj hy0 hy1 hy2 (by rfl) (by omega) (.slice A i c) i (List.replicate i (.string P)) (by simp [Act.eval, Act.put]) (by exact (HOWN.out.alloc _).alloc _) ⟨wr.heap.size + 1, 0, none⟩ 1 1 [.string P] (by simp [Act.eval, Act.put]) (by rfl) (by exact HNEWS.out) (by simp [Value.oneCell']) (by omega) (Nat.le_trans (show i + 1 ≤ 1000000 by omega) (by decide)) (by omega) (by simp; omega) _ rfl ?_; intro g cap w' hown' hgrow' hat' hlt'; have q4 := (kept_own hgrow' HOX.out (k := w.heap.size + 1) (by omega) (by simp; omega)).trans HGX.out; have q2 := (kept_own hgrow' HOX.out (k := w.heap.size) (by omega) (by simp; omega)).trans HGY.out; obtain ⟨⟨r0, r1, r2, r3⟩, t0, t1, t2, t3⟩ := box4 q4; have HQ4 := Lib.hid q4; have HQ2 := Lib.hid q2; clear q4 q2)
      all_goals
        have x4 : (w'.setCell ⟨w.heap.size + 1, 0, none⟩ (.slice (some ⟨g, 0, none⟩) (i + 1) cap)).heap[w.heap.size + 1]? = some (.cells #[.slice (some ⟨g, 0, none⟩) (i + 1) cap, .slice none 0 0, .bool false, .int .i64 (-1)] 28 (0, 0)) := heap_setCell_same w' _ 0 _ 28 _ HQ4.out
        have x2 : (w'.setCell ⟨w.heap.size + 1, 0, none⟩ (.slice (some ⟨g, 0, none⟩) (i + 1) cap)).heap[w.heap.size]? = some (.cells #[.slice none 0 0, .slice none 0 0, .bool false, .int .i64 0] 28 (0, 0)) := (Below.heap_setCell _ _ _ _ (by simp)).trans HQ2.out
        have xo := ownsRow_setCell_below hown' (a := ⟨w.heap.size + 1, 0, none⟩) (by simp) (.slice (some ⟨g, 0, none⟩) (i + 1) cap)
        rw [show List.replicate i (Value.string P) ++ [Value.string P] = List.replicate (i + 1) (Value.string P) from (List.replicate_succ' ..).symm] at xo
        have xb := (HBX.out.grown hgrow' (by simp; omega) (fun k e => by have := own_ge HOX.out k e; omega)).setCell (p := ⟨w.heap.size + 1, 0, none⟩) (by simp) (.slice (some ⟨g, 0, none⟩) (i + 1) cap)
        have X4 := Lib.hid x4
        have X2 := Lib.hid x2
        have XO := Lib.hid xo
        have XB := Lib.hid xb
        clear x4 x2 xo xb hown' hgrow' hat' hlt' r0 r1 r2 r3 t0 t1 t2 t3 p0a p0b p0 p1 p2 p3 f0 f1 f2 f3 HBX HOX HGX HGY HQ4 HQ2 HNEWS
        generalize (w'.setCell ⟨w.heap.size + 1, 0, none⟩ (.slice (some ⟨g, 0, none⟩) (i + 1) cap)) = wn at *
        go_wp2
        go_roundw
        case rel => exact ⟨i + 1, _, cap, by omega, by go_num, XO.out, X4.out, X2.out, XB.out⟩
        case measure => simp [intOf]; omega
    · obtain rfl : i = n := by omega
      obtain ⟨⟨q0, q1, q2, q3⟩, e0, e1, e2, e3⟩ := box4 HG2.out
      clear HNEWS HOX HGX HGY HBX
      go_wp2
      refine bodyPost_ret (v := .tuple #[.agg #[.slice A i c, .slice none 0 0, .bool false, .int .i64 (-1)], .int .i64 0]) (by simp [results, Try.results11, go_sem, p0, p1, p2, p3, q0, q1, q2, q3, e0, e1, e2, e3]) rfl ⟨_, rfl, ⟨_, _, rfl, ?_, SL.nil _ _ _⟩, ?_⟩
      · have h := (SL.of_own HOWN.out).other HG2.out (by decide) (store4_other wr w.heap.size (.slice A i c) (.slice none 0 0) (.bool false) (.int .i64 (-1)))
        simpa [newD, HP.out] using h
      · exact below_store4 HB.out _ (Nat.le_refl _) _ _ _ _
end Go.Proofs.Ytnnbbkfdijionaa
