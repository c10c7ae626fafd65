/- Contracts and plain mathematics that the statement's proof wants: no statement is proved here, nothing is assumed. -/
import Derived.Deep.RegionLaw
import Derived.Deep.AppendLies
import Derived.Maps.AppendAt
import Derived.BigQuiet
import Derived.Lib.QuietBelow
import Derived.Deep.QuietTactic
import Derived.Test.YtnbbijpmkhdgpaaGreatMg01
import Derived.Test.YtnbbijpmkhdgpaaGreatMg02
import Derived.Test.YtnbbijpmkhdgpaaGreatMg03
import Derived.Test.YtnbbijpmkhdgpaaGreatMg05
import Derived.Test.YtnbbijpmkhdgpaaGreatMg07
import Derived.Test.YtnbbijpmkhdgpaaGreatMg08
/- DRNew -/
namespace Go.Proofs.YtnbbijpmkhdgpaaGreat.Dsk
open Go.RowKit
attribute [local go_sem ↓] Go.wp_at_zero Go.wp_at_succ

set_option maxRecDepth 100000 in
set_option maxHeartbeats 1000000 in
theorem rnew_bad_lo (n : Int) (h1 : n < 1) (w : World) :
    Calls Tryz.prog 33 #[.int .i64 n] w fun e w' => e = .returned (.tuple #[.agg #[.slice none 0 0, .slice none 0 0, .bool false, .int .i64 0], .int .i64 1]) ∧ Below w.heap.size w w' := by
  have hd1 : decide (n < 1) = true := by simpa using h1
  go_enter Tryz.func33, Tryz.ntmps33
  go_wp2
  exact bodyPost_ret (v := .tuple #[.agg #[.slice none 0 0, .slice none 0 0, .bool false, .int .i64 0], .int .i64 1]) (by simp [results, Tryz.results33, go_sem]) rfl ⟨rfl, (Below.refl _ _).alloc (Nat.le_refl _) _⟩

set_option maxRecDepth 100000 in
set_option maxHeartbeats 1000000 in
theorem rnew_bad_hi (n : Int) (h1 : 2000 < n) (w : World) :
    Calls Tryz.prog 33 #[.int .i64 n] w fun e w' => e = .returned (.tuple #[.agg #[.slice none 0 0, .slice none 0 0, .bool false, .int .i64 0], .int .i64 1]) ∧ Below w.heap.size w w' := by
  have hd1 : decide (n < 1) = false := by simp; omega
  have hd2 : decide (2000 < n) = true := by simpa using h1
  go_enter Tryz.func33, Tryz.ntmps33
  go_wp2
  exact bodyPost_ret (v := .tuple #[.agg #[.slice none 0 0, .slice none 0 0, .bool false, .int .i64 0], .int .i64 1]) (by simp [results, Tryz.results33, go_sem]) rfl ⟨rfl, (Below.refl _ _).alloc (Nat.le_refl _) _⟩

theorem kept_own {W w' : World} {base : Nat} {e : TypeId} {size n : Nat} {v : Value} {xs : List Value} (hg : W.grownBy w' v.ownBlock) (hown : W.ownsRow base e size v n xs) {k : Nat} (hk : k < base) (hk2 : k < W.heap.size) : w'.heap[k]? = W.heap[k]? :=
  hg.block k hk2 fun e => by have := own_ge hown k e.symm; omega

set_option maxRecDepth 100000 in
set_option maxHeartbeats 2000000 in
theorem rnew_calls (n : Nat) (h1 : 1 ≤ n) (h2 : n ≤ 2000) (w : World) :
    Calls Tryz.prog 33 #[.int .i64 n] w fun e w' => ∃ v, e = .returned (.tuple #[v, .int .i64 0]) ∧ IsDisk w' v (newD n) ∧ Below w.heap.size w w' := by
  have hd1 : decide ((n : Int) < 1) = false := by simp; omega
  have hd2 : decide ((2000 : Int) < n) = false := by simp; omega
  go_enter Tryz.func33, Tryz.ntmps33
  obtain ⟨P, hP⟩ : ∃ P : ByteArray, P = ⟨(List.replicate 256 (0 : UInt8)).toArray⟩ := ⟨_, rfl⟩
  obtain ⟨i0, hi, hz0, hz1, hz2⟩ := info_parts Tryz.info5
  have hmk : ∀ W : World, (Instr.makeSlice 76 (.int .i64 256) (.int .i64 256)).run Tryz.prog W = .ok (.slice (some ⟨W.heap.size, 0, none⟩) 256 256) (W.alloc (.cells (madeCells #[.int .u8 0] 256) 5)) := by
    intro W
    have := run_make (P := Tryz.prog) W 76 5 i0 (.int .u8 0) Tryz.underlying76 hi hz0 .i64 .i64 256 256 (by omega) (by omega) (by rw [hz2]; omega) (by omega)
    rw [this, hz1]
    rfl
  have hcv : ∀ W : World, (convert 76 9 (.slice (some ⟨W.heap.size, 0, none⟩) 256 256)).run Tryz.prog (W.alloc (.cells (madeCells #[.int .u8 0] 256) 5)) = .ok (.string P) (W.alloc (.cells (madeCells #[.int .u8 0] 256) 5)) := by
    intro W
    have h0 := run_convert_bytes_back (P := Tryz.prog) (W.alloc (.cells (madeCells #[.int .u8 0] 256) 5)) 76 9 5 ⟨W.heap.size, 0, none⟩ 256 (List.replicate 256 0) Tryz.underlying76 Tryz.underlying5 Tryz.underlying9 ?_
    · rw [hP]; rw [List.length_replicate] at h0; exact h0
    · intro j hj
      have hj' : j < 256 := by simpa using hj
      rw [Addr.add_lit, cell_of_row _ _ _ _ _ _ (heap_alloc_new W _), List.getElem_replicate]
      simp [madeCells, hj', Nat.mod_one]
  have hcv2 : ∀ W : World, (convert 76 9 (.slice (some ⟨W.heap.size, 0, none⟩) 256 256)).run Tryz.prog (W.alloc (.cells (madeCells #[.int .u8 0] 256) 5)).drew = .ok (.string P) (W.alloc (.cells (madeCells #[.int .u8 0] 256) 5)).drew := fun W => hcv W.drew
  have hPP : P = padB ⟨#[]⟩ := by rw [hP]; rfl
  have HP := Lib.hid hPP
  obtain ⟨i1, hj, hy0, hy1, hy2⟩ := info_parts Tryz.info9
  clear hP hPP hi hz0 hz1 hz2
  go_wp2
  go_loopw [5] (fun u wr => ∃ (i : Nat) (A : Option Addr) (c : Nat), i ≤ n ∧ u = .int .i64 i ∧ wr.ownsRow (w.heap.size + 2) 9 1 (.slice A i c) i (List.replicate i (.string P)) ∧
    wr.heap[w.heap.size + 1]? = some (.cells #[.slice A i c, .slice none 0 0, .bool false, .int .i64 (-1)] 28 (0, 0)) ∧ wr.heap[w.heap.size]? = some (.cells #[.slice none 0 0, .slice none 0 0, .bool false, .int .i64 0] 28 (0, 0)) ∧ Below w.heap.size w wr) (fun u _ => n - (intOf u).toNat)
  case atStart =>
    refine ⟨0, none, 0, Nat.zero_le _, rfl, World.ownsRow_nil _ _ _ _, ?_, ?_, ((Below.refl _ _).alloc (Nat.le_refl _) _).alloc (by simp) _⟩
    · have := heap_alloc_new (w.alloc (.cells #[.slice none 0 0, .slice none 0 0, .bool false, .int .i64 0] 28)) (.cells #[.slice none 0 0, .slice none 0 0, .bool false, .int .i64 (-1)] 28)
      simpa using this
    · exact box_alloc (heap_alloc_new w _) _
  case round =>
    obtain ⟨i, A, c, hin, rfl, hown, hg4, hg2, hB⟩ := hrel
    have hlt4 : w.heap.size + 1 < wr.heap.size := (Array.getElem?_eq_some_iff.1 hg4).1
    have HOWN := Lib.hid hown
    have HG4 := Lib.hid hg4
    have HG2 := Lib.hid hg2
    have HB := Lib.hid hB
    clear hown hg4 hg2 hB
    obtain ⟨⟨p0, p1, p2, p3⟩, f0, f1, f2, f3⟩ := box4 HG4.out
    have HNEWS : Hid (∀ (j : Nat) (u : Value), [Value.string P][j]? = some u → ((wr.alloc (.cells (madeCells #[.int .u8 0] 256) 5)).alloc (.cells #[.string P] 9)).drew.cell? ((⟨wr.heap.size + 1, 0, none⟩ : Addr).add j) = some u) := by
      intro j u hu
      obtain rfl : j = 0 := by
        have := (List.getElem?_eq_some_iff.1 hu).1
        simpa using this
      simp at hu
      subst hu
      rw [Addr.add_lit]
      simp
    have HOX : Hid (((wr.alloc (.cells (madeCells #[.int .u8 0] 256) 5)).alloc (.cells #[.string P] 9)).drew.ownsRow (w.heap.size + 2) 9 1 (.slice A i c) i (List.replicate i (.string P))) := (HOWN.out.alloc _).alloc _
    have HGX : Hid (((wr.alloc (.cells (madeCells #[.int .u8 0] 256) 5)).alloc (.cells #[.string P] 9)).drew.heap[w.heap.size + 1]? = some (.cells #[.slice A i c, .slice none 0 0, .bool false, .int .i64 (-1)] 28 (0, 0))) := box_alloc (box_alloc HG4.out _) _
    have HGY : Hid (((wr.alloc (.cells (madeCells #[.int .u8 0] 256) 5)).alloc (.cells #[.string P] 9)).drew.heap[w.heap.size]? = some (.cells #[.slice none 0 0, .slice none 0 0, .bool false, .int .i64 0] 28 (0, 0))) := box_alloc (box_alloc HG2.out _) _
    have HBX : Hid (Below w.heap.size w ((wr.alloc (.cells (madeCells #[.int .u8 0] 256) 5)).alloc (.cells #[.string P] 9)).drew) := ((HB.out.alloc (by omega) _).alloc (by simp; omega) _).drew
    by_cases hlt : i < n
    · have p0a : (wr.alloc (.cells (madeCells #[.int .u8 0] 256) 5)).cell? ⟨w.heap.size + 1, 0, none⟩ = some (.slice A i c) := (box4 (box_alloc HG4.out _)).1.1
      have p0b : ((wr.alloc (.cells (madeCells #[.int .u8 0] 256) 5)).alloc (.cells #[.string P] 9)).cell? ⟨w.heap.size + 1, 0, none⟩ = some (.slice A i c) := (box4 (box_alloc (box_alloc HG4.out _) _)).1.1
      go_wp2
      go_region_law (refine step_append_lies _ (by rfl) (.tmp 20) (.tmp 23) 25 (by rfl) (w.heap.size + 2) 9 i1 (.string ⟨#[]⟩) 1 16 Tryz.underlying25 hj hy0 hy1 hy2 (by rfl) (by omega) (.slice A i c) i (List.replicate i (.string P)) (by simp [Act.eval, Act.put]) (by exact (HOWN.out.alloc _).alloc _) ⟨wr.heap.size + 1, 0, none⟩ 1 1 [.string P] (by simp [Act.eval, Act.put]) (by rfl) (by exact HNEWS.out) (by simp [Value.oneCell']) (by omega) (Nat.le_trans (show i + 1 ≤ 1000000 by omega) (by decide)) (by omega) (by simp; omega) _ rfl ?_; intro g cap w' hown' hgrow' hat' hlt'; have q4 := (kept_own hgrow' HOX.out (k := w.heap.size + 1) (by omega) (by simp; omega)).trans HGX.out; have q2 := (kept_own hgrow' HOX.out (k := w.heap.size) (by omega) (by simp; omega)).trans HGY.out; obtain ⟨⟨r0, r1, r2, r3⟩, t0, t1, t2, t3⟩ := box4 q4; have HQ4 := Lib.hid q4; have HQ2 := Lib.hid q2; clear q4 q2)
      all_goals
        have x4 : (w'.setCell ⟨w.heap.size + 1, 0, none⟩ (.slice (some ⟨g, 0, none⟩) (i + 1) cap)).heap[w.heap.size + 1]? = some (.cells #[.slice (some ⟨g, 0, none⟩) (i + 1) cap, .slice none 0 0, .bool false, .int .i64 (-1)] 28 (0, 0)) := heap_setCell_same w' _ 0 _ 28 _ HQ4.out
        have x2 : (w'.setCell ⟨w.heap.size + 1, 0, none⟩ (.slice (some ⟨g, 0, none⟩) (i + 1) cap)).heap[w.heap.size]? = some (.cells #[.slice none 0 0, .slice none 0 0, .bool false, .int .i64 0] 28 (0, 0)) := (Below.heap_setCell _ _ _ _ (by simp)).trans HQ2.out
        have xo := ownsRow_setCell_below hown' (a := ⟨w.heap.size + 1, 0, none⟩) (by simp) (.slice (some ⟨g, 0, none⟩) (i + 1) cap)
        rw [show List.replicate i (Value.string P) ++ [Value.string P] = List.replicate (i + 1) (Value.string P) from (List.replicate_succ' ..).symm] at xo
        have xb := (HBX.out.grown hgrow' (by simp; omega) (fun k e => by have := own_ge HOX.out k e; omega)).setCell (p := ⟨w.heap.size + 1, 0, none⟩) (by simp) (.slice (some ⟨g, 0, none⟩) (i + 1) cap)
        have X4 := Lib.hid x4
        have X2 := Lib.hid x2
        have XO := Lib.hid xo
        have XB := Lib.hid xb
        clear x4 x2 xo xb hown' hgrow' hat' hlt' r0 r1 r2 r3 t0 t1 t2 t3 p0a p0b p0 p1 p2 p3 f0 f1 f2 f3 HBX HOX HGX HGY HQ4 HQ2 HNEWS
        generalize (w'.setCell ⟨w.heap.size + 1, 0, none⟩ (.slice (some ⟨g, 0, none⟩) (i + 1) cap)) = wn at *
        go_wp2
        go_roundw
        case rel => exact ⟨i + 1, _, cap, by omega, by go_num, XO.out, X4.out, X2.out, XB.out⟩
        case measure => simp [intOf]; omega
    · obtain rfl : i = n := by omega
      obtain ⟨⟨q0, q1, q2, q3⟩, e0, e1, e2, e3⟩ := box4 HG2.out
      clear HNEWS HOX HGX HGY HBX
      go_wp2
      refine bodyPost_ret (v := .tuple #[.agg #[.slice A i c, .slice none 0 0, .bool false, .int .i64 (-1)], .int .i64 0]) (by simp [results, Tryz.results33, go_sem, p0, p1, p2, p3, q0, q1, q2, q3, e0, e1, e2, e3]) rfl ⟨_, rfl, ⟨_, _, rfl, ?_, SL.nil _ _ _⟩, ?_⟩
      · have h := (SL.of_own HOWN.out).other HG2.out (by decide) (store4_other wr w.heap.size (.slice A i c) (.slice none 0 0) (.bool false) (.int .i64 (-1)))
        simpa [newD, HP.out] using h
      · exact below_store4 HB.out _ (Nat.le_refl _) _ _ _ _
end Go.Proofs.YtnbbijpmkhdgpaaGreat.Dsk

/- DRSettle -/
namespace Go.Proofs.YtnbbijpmkhdgpaaGreat.Dsk
open Go.RowKit
attribute [local go_sem ↓] Go.wp_at_zero Go.wp_at_succ

/-- What holds at each round's head: the new row, the disk's box as it came. -/
structure RSet (w : World) (v v0 vw : Value) (dead : Bool) (left : Int) (ss : List ByteArray) (wr : World) : Prop where
  own : wr.ownsRow (w.heap.size + 2) 9 1 v ss.length (ss.map Value.string)
  box : wr.heap[w.heap.size]? = some (.cells #[v0, vw, .bool dead, .int .i64 left] 28 (0, 0))
  res : wr.heap[w.heap.size + 1]? = some (.cells #[.slice none 0 0, .slice none 0 0, .bool false, .int .i64 0] 28 (0, 0))
  below : Below w.heap.size w wr

theorem RSet.drew {w : World} {v v0 vw : Value} {dead : Bool} {left : Int} {ss : List ByteArray} {wr : World} (h : RSet w v v0 vw dead left ss wr) : RSet w v v0 vw dead left ss wr.drew :=
  ⟨h.own, h.box, h.res, h.below.drew⟩

theorem RSet.set {w : World} {g n cc : Nat} {v0 vw : Value} {dead : Bool} {left : Int} {ss : List ByteArray} {wr : World} (h : RSet w (.slice (some ⟨g, 0, none⟩) n cc) v0 vw dead left ss wr) (j : Nat) (hj : j < ss.length) (u : ByteArray) :
    RSet w (.slice (some ⟨g, 0, none⟩) n cc) v0 vw dead left (ss.set j u) (wr.setCell ⟨g, j, none⟩ (.string u)) := by
  obtain ⟨hl, hor⟩ := h.own
  rcases hor with ⟨hv, _⟩ | ⟨g', cap, cur, hv, hbg, hg, hnc, hcm, hcs, ht⟩
  · cases hv
  · injection hv with e1 e2 e3
    injection e1 with e1
    injection e1 with e1
    subst e1
    subst e3
    refine ⟨⟨by simp, .inr ⟨g, cc, cur.setIfInBounds j (.string u), ?_, hbg, heap_setCell_at hg, by simpa using hnc, hcm, by simpa using hcs, ?_⟩⟩, ?_, ?_, ?_⟩
    · rw [e2]; simp
    · simp only [List.length_set, Nat.mul_one, Array.toList_setIfInBounds, List.take_set]
      rw [Nat.mul_one] at ht
      rw [ht, List.map_set]
    · rw [Below.heap_setCell _ _ _ _ (by simp; omega)]; exact h.box
    · rw [Below.heap_setCell _ _ _ _ (by simp; omega)]; exact h.res
    · exact h.below.setCell (p := ⟨g, j, none⟩) (by simp; omega) _

theorem RSet.at_ {w : World} {g n cc : Nat} {v0 vw : Value} {dead : Bool} {left : Int} {ss : List ByteArray} {wr : World} (h : RSet w (.slice (some ⟨g, 0, none⟩) n cc) v0 vw dead left ss wr) (j : Nat) (hj : j < ss.length) :
    (∃ u, wr.cell? ⟨g, j, none⟩ = some (.string u)) ∧ wr.frozen? ⟨g, j, none⟩ = false ∧ w.heap.size + 1 < g := by
  obtain ⟨hl, hor⟩ := h.own
  rcases hor with ⟨hv, _⟩ | ⟨g', cap, cur, hv, hbg, hg, hnc, hcm, hcs, ht⟩
  · cases hv
  · injection hv with e1 e2 e3
    injection e1 with e1
    injection e1 with e1
    subst e1
    refine ⟨⟨ss[j], ?_⟩, ?_, by omega⟩
    · have := h.own.cells (g := g) rfl j (.string ss[j]) (by simp [hj])
      rw [Addr.add_lit, Nat.zero_add] at this
      exact this
    · simp [World.frozen?, hg]

theorem info9s : (Tryz.prog.info? 9).map (fun i => (i.zero, i.size, i.bytes)) = some (some (.string ⟨#[]⟩), 1, 16) := by kernel_rfl

set_option maxRecDepth 100000 in
set_option maxHeartbeats 2000000 in
theorem rsettle_some (b off : Nat) (sure : List ByteArray) (c : Nat) (A' : Option Addr) (c' : Nat) (wet : List Wt) (dead : Bool) (left : Int) (stay : Nat) (w : World) (hst64 : stay < 18446744073709551616) (hn : sure.length ≤ 1000000) (hm : wet.length ≤ 1000000)
    (hin : ∀ o ∈ wet, 0 ≤ o.1 ∧ o.1 < sure.length)
    (h1 : SL w 9 1 (.slice (some ⟨b, off, none⟩) sure.length c) sure.length (sure.map Value.string)) (h2 : SL w 72 2 (.slice A' wet.length c') wet.length (wetCells wet)) :
    Calls Tryz.prog 57 #[.agg #[.slice (some ⟨b, off, none⟩) sure.length c, .slice A' wet.length c', .bool dead, .int .i64 left], .int .u64 stay] w fun e w' =>
      ∃ v, e = .returned (.agg #[v, .slice none 0 0, .bool dead, .int .i64 left]) ∧ SL w' 9 1 v sure.length ((settleF stay wet sure).map Value.string) ∧ Below w.heap.size w w' := by
  obtain ⟨n, hnl⟩ : ∃ n, n = sure.length := ⟨_, rfl⟩
  obtain ⟨m, hml⟩ : ∃ m, m = wet.length := ⟨_, rfl⟩
  obtain ⟨i0, hi, hz0, hz1, hz2⟩ := info_parts info9s
  rw [← hnl] at h1 hn ⊢
  rw [← hml] at h2 hm ⊢
  have H64 := Lib.hid hst64
  have HN := Lib.hid hnl
  have HM := Lib.hid hml
  have H1 := Lib.hid h1
  have H2 := Lib.hid h2
  have HIN := Lib.hid hin
  clear hnl hml h1 h2 hst64 hin
  have hb0 : Below w.heap.size w (((w.alloc (.cells #[.slice (some ⟨b, off, none⟩) n c, .slice A' m c', .bool dead, .int .i64 left] 28)).alloc (.cells #[.slice none 0 0, .slice none 0 0, .bool false, .int .i64 0] 28)).alloc (.cells #[] 9)) := (((Below.refl _ _).alloc (Nat.le_refl _) _).alloc (by simp) _).alloc (by simp; omega) _
  obtain ⟨X, hX, hXs, hG1, hG2, hO, hbX⟩ : ∃ X, ((w.alloc (.cells #[.slice (some ⟨b, off, none⟩) n c, .slice A' m c', .bool dead, .int .i64 left] 28)).alloc (.cells #[.slice none 0 0, .slice none 0 0, .bool false, .int .i64 0] 28)).alloc (.cells #[] 9) = X ∧ X.heap.size = w.heap.size + 3 ∧ X.heap[w.heap.size]? = some (.cells #[.slice (some ⟨b, off, none⟩) n c, .slice A' m c', .bool dead, .int .i64 left] 28 (0, 0)) ∧ X.heap[w.heap.size + 1]? = some (.cells #[.slice none 0 0, .slice none 0 0, .bool false, .int .i64 0] 28 (0, 0)) ∧ X.ownsRow (w.heap.size + 2) 9 1 (.slice (some ⟨w.heap.size + 2, 0, none⟩) 0 0) 0 [] ∧ Below w.heap.size w X := by
    refine ⟨_, rfl, by simp, box_alloc (box_alloc (heap_alloc_new w _) _) _, ?_, ⟨rfl, .inr ⟨w.heap.size + 2, 0, #[], rfl, Nat.le_refl _, ?_, Nat.le_refl _, by decide, rfl, rfl⟩⟩, hb0⟩
    · exact box_alloc (by have := heap_alloc_new (w.alloc (.cells #[.slice (some ⟨b, off, none⟩) n c, .slice A' m c', .bool dead, .int .i64 left] 28)) (.cells #[.slice none 0 0, .slice none 0 0, .bool false, .int .i64 0] 28); simpa using this) _
    · have := heap_alloc_new ((w.alloc (.cells #[.slice (some ⟨b, off, none⟩) n c, .slice A' m c', .bool dead, .int .i64 left] 28)).alloc (.cells #[.slice none 0 0, .slice none 0 0, .bool false, .int .i64 0] 28)) (.cells #[] 9)
      simpa using this
  have hsrc : ∀ (j : Nat) (u : Value), (sure.map Value.string)[j]? = some u → X.cell? ((⟨b, off, none⟩ : Addr).add j) = some u := by
    intro j u hj
    obtain ⟨A3, c3, e3, _, hr⟩ := H1.out
    cases e3
    have hpos : 0 < n := by
      have h1 := (List.getElem?_eq_some_iff.1 hj).1
      have h2 := HN.out
      rw [List.length_map] at h1
      omega
    obtain ⟨b2, off2, e2, hbl, hc⟩ := hr.at_ hpos
    cases e2
    rw [Addr.add_lit]
    exact (hbX.cell (p := ⟨b, off + j, none⟩) hbl).trans (hc j u hj)
  have HX := Lib.hid hX
  have HG1 := Lib.hid hG1
  have HG2 := Lib.hid hG2
  have HO := Lib.hid hO
  have HBX := Lib.hid hbX
  have HSRC := Lib.hid hsrc
  have HXS := Lib.hid hXs
  clear hb0 hX hG1 hG2 hO hbX hsrc hXs
  go_enter Tryz.func57, Tryz.ntmps57
  go_wp2_with (at_builtin; rw [HX.out]; refine wpList_append_own_at _ (by rfl) (.tmp 7) (.tmp 9) 25 (by rfl) (w.heap.size + 2) 9 i0 (.string ⟨#[]⟩) 1 16 Tryz.underlying25 hi hz0 hz1 hz2 (by rfl) (by omega) (.slice (some ⟨w.heap.size + 2, 0, none⟩) 0 0) 0 [] (by rfl) (by exact HO.out) ⟨b, off, none⟩ n c (sure.map Value.string) (by rfl) (by rw [HN.out]; simp) (by exact HSRC.out) (by simp [Value.oneCell']) (Nat.le_trans (show 0 + n ≤ 1000000 by omega) (by decide)) (by omega) (by rw [HXS.out]; omega) ?_; intro v1 w1 hown1 hgrow1 hnil1 hat1)
  rw [Nat.zero_add, List.nil_append] at hown1
  obtain ⟨A2, cc2, ev, _⟩ := SL.of_own hown1
  subst ev
  have hrel0 : RSet w (.slice A2 n cc2) (.slice (some ⟨b, off, none⟩) n c) (.slice A' m c') dead left (settleK stay wet sure 0) w1 := by
    refine ⟨?_, box_grown HG1.out hgrow1 ?_, box_grown HG2.out hgrow1 ?_, HBX.out.grown hgrow1 (by rw [HXS.out]; omega) ?_⟩
    · show w1.ownsRow (w.heap.size + 2) 9 1 _ sure.length (sure.map Value.string)
      rw [← HN.out]
      exact hown1
    · simp [Value.ownBlock]
    · simp [Value.ownBlock]
    · intro k e
      simp [Value.ownBlock] at e
      omega
  have HR0 := Lib.hid hrel0
  clear hown1 hgrow1 hnil1 hat1 hrel0 HX HG1 HG2 HO HBX HSRC HXS
  obtain ⟨⟨p0, p1, p2, p3⟩, _⟩ := box4 HR0.out.box
  go_loopw [6] (fun u wr => ∃ k : Nat, k ≤ m ∧ u = .int .i64 k ∧ RSet w (.slice A2 n cc2) (.slice (some ⟨b, off, none⟩) n c) (.slice A' m c') dead left (settleK stay wet sure k) wr) (fun u _ => m - (intOf u).toNat)
  case atStart => exact ⟨0, Nat.zero_le _, rfl, HR0.out⟩
  case round =>
    obtain ⟨k, hk, rfl, hrel⟩ := hrel
    clear HR0 p0 p1 p2 p3
    obtain ⟨⟨p0, p1, p2, p3⟩, f0, f1, f2, f3⟩ := box4 hrel.box
    by_cases hlt : k < m
    · obtain ⟨o, ho⟩ : ∃ o, wet[k]? = some o := ⟨_, List.getElem?_eq_getElem (by have := HM.out; omega)⟩
      obtain ⟨A3, c3, e3, _, hr2⟩ := H2.out
      cases e3
      obtain ⟨bw, ow, rfl, hbl, hcell⟩ := hr2.at_ (by omega)
      have hw := wetCells_at wet k o ho
      have hst : settleK stay wet sure (k + 1) = setStep stay k o (settleK stay wet sure k) := by
        show (match wet[k]? with | some o => setStep stay k o (settleK stay wet sure k) | none => settleK stay wet sure k) = _
        rw [ho]
      have hlen : (settleK stay wet sure k).length = n := by rw [settleK_length, HN.out]
      have hino := HIN.out o (List.mem_of_getElem? ho)
      rw [← HN.out] at hino
      obtain ⟨oa, od⟩ := o
      dsimp only at hino
      obtain ⟨j, rfl⟩ := Int.eq_ofNat_of_zero_le hino.1
      have hj : j < n := by omega
      have hc0 : wr.cell? ⟨bw, ow + k * 2, none⟩ = some (.int .i64 j) := (hrel.below.cell (p := ⟨bw, ow + k * 2, none⟩) hbl).trans (hcell _ _ hw.1)
      have hc1 : wr.cell? ⟨bw, ow + k * 2 + 1, none⟩ = some (.string od) := (hrel.below.cell (p := ⟨bw, ow + k * 2 + 1, none⟩) hbl).trans (hcell _ _ hw.2)
      have HS := Lib.hid hst
      have HL := Lib.hid hlen
      have hk1 : k + 1 ≤ m := hlt
      have hk0 : (0 : Int) ≤ (k : Int) := by omega
      have hk2 : (k : Int) < (m : Int) := by omega
      have hj0 : (0 : Int) ≤ (j : Int) := by omega
      have hj2 : (j : Int) < (n : Int) := by omega
      clear hcell hw ho hst hlen hr2 hino
      have hbt := bit_test stay (k % 64) H64.out
      by_cases hb : stay.testBit (k % 64) = true
      · rw [if_pos hb] at hbt
        obtain ⟨g, cap, hv, _, hgl⟩ := hrel.own.form (by rw [HL.out]; omega)
        injection hv with e1 e2 e3
        subst e1
        obtain ⟨⟨u, s0⟩, s1, s2⟩ := hrel.at_ j (by rw [HL.out]; exact hj)
        have hne1 : g ≠ w.heap.size := by omega
        have hs' : settleK stay wet sure (k + 1) = (settleK stay wet sure k).set j od := by
          rw [HS.out]; unfold setStep; rw [if_pos]
          · rfl
          · exact ⟨hb, by simp, by rw [HL.out]; simpa using hj⟩
        have HS' := Lib.hid hs'
        have HREL := Lib.hid hrel
        clear hb hs' e2 e3 hrel
        go_wp2_with fail
        go_region_with (fail)
        all_goals
          go_wp2_with fail
          exact ⟨⟨k + 1, hk1, by go_num, by rw [HS'.out]; exact HREL.out.drew.set j (by rw [HL.out]; exact hj) od⟩, by simp [intOf]; omega⟩
      · rw [if_neg hb] at hbt
        have hs' : settleK stay wet sure (k + 1) = settleK stay wet sure k := by
          rw [HS.out]; unfold setStep; rw [if_neg]; exact fun h => hb h.1
        have HS' := Lib.hid hs'
        have HREL := Lib.hid hrel
        clear hb hs' hrel
        go_wp2_with fail
        exact ⟨⟨k + 1, hk1, by go_num, by rw [HS'.out]; exact HREL.out⟩, by simp [intOf]; omega⟩
    · have hkm : k = m := by omega
      have hfin : settleF stay wet sure = settleK stay wet sure k := by rw [hkm, HM.out]; rfl
      have HF := Lib.hid hfin
      have hlen : (settleK stay wet sure k).length = n := by rw [settleK_length, HN.out]
      have HL := Lib.hid hlen
      obtain ⟨⟨hq0, hq1, hq2, hq3⟩, hg0, hg1, hg2, hg3⟩ := box4 hrel.res
      clear hkm hfin hlen
      go_wp2_with fail
      refine bodyPost_ret (v := .agg #[.slice A2 n cc2, .slice none 0 0, .bool dead, .int .i64 left]) (by simp [results, Tryz.results57, go_sem, hq0, hq1, hq2, hq3, hg0, hg1, hg2, hg3]) rfl ⟨_, rfl, ?_, ?_⟩
      · have h0' := SL.of_own hrel.own
        rw [HL.out, ← HF.out] at h0'
        have h1' := h0'.other (w' := (wr.setCell ⟨w.heap.size, 0, none⟩ (.slice A2 n cc2)).setCell ⟨w.heap.size, 1, none⟩ (.slice none 0 0)) hrel.box (by decide) (fun b hb => by rw [Below.heap_setCell _ _ _ _ hb, Below.heap_setCell _ _ _ _ hb])
        exact h1'.other (by rw [Below.heap_setCell _ _ _ _ (by simp), Below.heap_setCell _ _ _ _ (by simp)]; exact hrel.res) (by decide) (store4_other _ _ _ _ _ _)
      · exact below_store4 ((hrel.below.setCell (p := ⟨w.heap.size, 0, none⟩) (Nat.le_refl _) _).setCell (p := ⟨w.heap.size, 1, none⟩) (Nat.le_refl _) _) _ (by omega) _ _ _ _

end Go.Proofs.YtnbbijpmkhdgpaaGreat.Dsk

/- DRFlush -/
namespace Go.Proofs.YtnbbijpmkhdgpaaGreat.Dsk
open Go.RowKit

set_option maxRecDepth 100000 in
set_option maxHeartbeats 1000000 in
theorem rsettle_nil (c : Nat) (A' : Option Addr) (c' : Nat) (dead : Bool) (left : Int) (stay : Nat) (w : World) :
    Calls Tryz.prog 57 #[.agg #[.slice none 0 c, .slice A' 0 c', .bool dead, .int .i64 left], .int .u64 stay] w fun e w' =>
      ∃ g, e = .returned (.agg #[.slice g 0 0, .slice none 0 0, .bool dead, .int .i64 left]) ∧ Below w.heap.size w w' := by
  go_enter Tryz.func57, Tryz.ntmps57
  go_wp2_with fail
  refine wp_loop_rounds 1 ?_
  rw [rounds_succ]
  go_wp2_with fail
  exact bodyPost_ret (v := .agg #[.slice (some ⟨w.heap.size + 1 + 1, 0, none⟩) 0 0, .slice none 0 0, .bool dead, .int .i64 left]) (by simp [results, Tryz.results57, go_sem]) rfl ⟨_, rfl, (((Below.refl _ _).alloc (Nat.le_refl _) _).alloc (by simp) _).alloc (by simp; omega) _⟩

set_option maxRecDepth 100000 in
set_option maxHeartbeats 1000000 in
theorem rsettle_zero (a : Addr) (c : Nat) (A' : Option Addr) (c' : Nat) (dead : Bool) (left : Int) (stay : Nat) (w : World) :
    Calls Tryz.prog 57 #[.agg #[.slice (some a) 0 c, .slice A' 0 c', .bool dead, .int .i64 left], .int .u64 stay] w fun e w' =>
      ∃ g, e = .returned (.agg #[.slice g 0 0, .slice none 0 0, .bool dead, .int .i64 left]) ∧ Below w.heap.size w w' := by
  go_enter Tryz.func57, Tryz.ntmps57
  go_wp2_with fail
  refine wp_loop_rounds 1 ?_
  rw [rounds_succ]
  go_wp2_with fail
  exact bodyPost_ret (v := .agg #[.slice (some ⟨w.heap.size + 1 + 1, 0, none⟩) 0 0, .slice none 0 0, .bool dead, .int .i64 left]) (by simp [results, Tryz.results57, go_sem]) rfl ⟨_, rfl, (((Below.refl _ _).alloc (Nat.le_refl _) _).alloc (by simp) _).alloc (by simp; omega) _⟩

/-- ref.settle. -/
theorem rsettle_calls (v : Value) (d : DK) (stay : Nat) (w : World) (hv : IsDisk w v d) (hst : stay < 18446744073709551616) (hn : d.sure.length ≤ 1000000) (hm : d.wet.length ≤ 1000000) (hin : WetIn d) :
    Calls Tryz.prog 57 #[v, .int .u64 stay] w fun e w' => ∃ v', e = .returned v' ∧ IsDisk w' v' { d with sure := settleF stay d.wet d.sure, wet := [] } ∧ Below w.heap.size w w' := by
  obtain ⟨sure, wet, dead, left⟩ := d
  obtain ⟨_, _, rfl, h3, h4⟩ := hv
  obtain ⟨A, c, rfl, hc, hr⟩ := id h3
  obtain ⟨A', c', rfl, hc', hr'⟩ := id h4
  unfold WetIn at hin
  dsimp only at *
  cases A with
  | none =>
    have h0 : sure.length = 0 := by
      rcases Nat.eq_zero_or_pos sure.length with h | h
      · exact h
      · obtain ⟨b, off, e, _⟩ := hr.at_ h
        cases e
    have e0 : sure = [] := List.eq_nil_of_length_eq_zero h0
    subst e0
    have e1 : wet = [] := by
      cases wet with
      | nil => rfl
      | cons o l => have := hin o (by simp); simp at this; omega
    subst e1
    refine (rsettle_nil c A' c' dead left stay w).mono ?_
    rintro e w' ⟨g, rfl, hb⟩
    exact ⟨_, rfl, ⟨_, _, rfl, ⟨g, 0, rfl, Nat.le_refl _, Reads.none_⟩, SL.nil _ _ _⟩, hb⟩
  | some a =>
    rcases Nat.eq_zero_or_pos sure.length with h0 | h0
    · have e0 : sure = [] := List.eq_nil_of_length_eq_zero h0
      subst e0
      have e1 : wet = [] := by
        cases wet with
        | nil => rfl
        | cons o l => have := hin o (by simp); simp at this; omega
      subst e1
      refine (rsettle_zero a c A' c' dead left stay w).mono ?_
      rintro e w' ⟨g, rfl, hb⟩
      exact ⟨_, rfl, ⟨_, _, rfl, ⟨g, 0, rfl, Nat.le_refl _, Reads.none_⟩, SL.nil _ _ _⟩, hb⟩
    obtain ⟨b, off, ea, _⟩ := hr.at_ h0
    injection ea with ea
    subst ea
    refine (rsettle_some b off sure c A' c' wet dead left stay w hst hn hm hin h3 h4).mono ?_
    rintro e w' ⟨v', rfl, hs, hb⟩
    refine ⟨_, rfl, ⟨_, _, rfl, ?_, SL.nil _ _ _⟩, hb⟩
    have e1 : (settleF stay wet sure).length = sure.length := settleK_length _ _ _ _
    dsimp only
    rw [e1]
    exact hs

theorem rsettle_all (v : Value) (d : DK) (w : World) (hv : IsDisk w v d) (hd : d.ok) (hin : WetIn d) :
    Calls Tryz.prog 57 #[v, .int .u64 18446744073709551615] w fun e w' => ∃ v', e = .returned v' ∧ IsDisk w' v' { d with sure := settleF allBits d.wet d.sure, wet := [] } ∧ Below w.heap.size w w' :=
  rsettle_calls v d allBits w hv (by decide) (by have := hd.sure; omega) (by have := hd.wet; omega) hin

set_option maxRecDepth 100000 in
set_option maxHeartbeats 1000000 in
theorem rstart_calls (v : Value) (d : DK) (stay : Nat) (w : World) (hv : IsDisk w v d) (hd : d.ok) (hin : WetIn d) (hst : stay < 18446744073709551616) :
    Calls Tryz.prog 23 #[v, .int .u64 stay] w fun e w' => ∃ v', e = .returned v' ∧ IsDisk w' v' ⟨settleF stay d.wet d.sure, [], false, -1⟩ ∧ Below w.heap.size w w' := by
  obtain ⟨A, n, c, A', m, c', rfl⟩ := hv.parts
  obtain ⟨sure, wet, dead, left⟩ := d
  dsimp only at hv ⊢
  have HV := Lib.hid hv
  have HD := Lib.hid hd
  have HIN := Lib.hid hin
  have HS := Lib.hid hst
  clear hv hd hst hin
  go_enter Tryz.func23, Tryz.ntmps23
  go_wp2_with fail
  have hb0 : Below w.heap.size w ((w.alloc (.cells #[.slice A n c, .slice A' m c', .bool dead, .int .i64 left] 28)).alloc (.cells #[.slice none 0 0, .slice none 0 0, .bool false, .int .i64 0] 28)) := ((Below.refl _ _).alloc (Nat.le_refl _) _).alloc (by simp) _
  have hcl := rsettle_calls _ _ stay _ (HV.out.below hb0) HS.out (by have := HD.out.sure; omega) (by have := HD.out.wet; omega) HIN.out
  with_reducible refine hcl.mono ?_
  clear hcl
  rintro e w1 ⟨v1, rfl, hv1, hb1⟩
  obtain ⟨A1, n1, c1, A1', m1, c1', rfl⟩ := hv1.parts
  dsimp only at hv1 ⊢
  have hg1 := box_kept w.heap.size (box_alloc (heap_alloc_new w _) _) hb1
  have hg2 : w1.heap[w.heap.size + 1]? = some (.cells #[.slice none 0 0, .slice none 0 0, .bool false, .int .i64 0] 28 (0, 0)) := box_kept (w.heap.size + 1) (by have := heap_alloc_new (w.alloc (.cells #[.slice A n c, .slice A' m c', .bool dead, .int .i64 left] 28)) (.cells #[.slice none 0 0, .slice none 0 0, .bool false, .int .i64 0] 28); simpa using this) hb1
  have hbw := below_trans' hb0 hb1
  obtain ⟨w2, e2, hG2, hK2, hB2⟩ := box_store4 hg1 (.slice A1 n1 c1) (.slice A1' m1 c1') (.bool dead) (.int .i64 left)
  have HV2 := Lib.hid (hv1.other hg1 (by decide) (by decide) hK2)
  have HB := Lib.hid (hB2 _ _ hbw (Nat.le_refl _))
  have hr2 : w2.heap[w.heap.size + 1]? = _ := (hK2 _ (by omega)).trans hg2
  obtain ⟨⟨hp0, hp1, hp2, hp3⟩, hf0, hf1, hf2, hf3⟩ := box4 hg1
  have HG2 := Lib.hid hG2
  have HR2 := Lib.hid hr2
  have E2 := Lib.hid e2
  clear hb0 hb1 hv1 hg1 hg2 hbw e2 hG2 hK2 hB2 hr2
  go_upto_region 2 with (fail)
  rw [E2.out]
  clear hp0 hp1 hp2 hp3 hf0 hf1 hf2 hf3 E2
  obtain ⟨⟨hp0, hp1, hp2, hp3⟩, hf0, hf1, hf2, hf3⟩ := box4 HG2.out
  obtain ⟨⟨hq0, hq1, hq2, hq3⟩, hr0, hr1, hr2, hr3⟩ := box4 HR2.out
  go_wp2_with fail
  refine bodyPost_ret (v := .agg #[.slice A1 n1 c1, .slice A1' m1 c1', .bool false, .int .i64 (-1)]) (by simp [results, Tryz.results23, go_sem, hq0, hq1, hq2, hq3, hr0, hr1, hr2, hr3]) rfl ⟨_, rfl, ?_, ?_⟩
  · have h1 : IsDisk w2 (.agg #[.slice A1 n1 c1, .slice A1' m1 c1', .bool false, .int .i64 (-1)]) ⟨settleF stay wet sure, [], false, -1⟩ := HV2.out.redo false (-1)
    have h2 := h1.other (w' := (w2.setCell ⟨w.heap.size, 2, none⟩ (.bool false)).setCell ⟨w.heap.size, 3, none⟩ (.int .i64 (-1))) HG2.out (by decide) (by decide) (fun b hb => by rw [Below.heap_setCell _ _ _ _ hb, Below.heap_setCell _ _ _ _ hb])
    exact h2.other (by rw [Below.heap_setCell _ _ _ _ (by simp), Below.heap_setCell _ _ _ _ (by simp)]; exact HR2.out) (by decide) (by decide) (store4_other _ _ _ _ _ _)
  · exact below_store4 ((HB.out.setCell (p := ⟨w.heap.size, 2, none⟩) (Nat.le_refl _) _).setCell (p := ⟨w.heap.size, 3, none⟩) (Nat.le_refl _) _) _ (by omega) _ _ _ _

set_option maxRecDepth 100000 in
set_option maxHeartbeats 1000000 in
theorem rflush_calls (v : Value) (d : DK) (w : World) (hv : IsDisk w v d) (hd : d.ok) (hin : WetIn d) :
    Calls Tryz.prog 35 #[v] w fun e w' => ∃ v', e = .returned (.tuple #[v', .int .i64 (if deedB d = true then 0 else 12)]) ∧ IsDisk w' v' (if deedB d = true then { deedD d with sure := settleF allBits d.wet d.sure, wet := [] } else deedD d) ∧ Below w.heap.size w w' := by
  obtain ⟨A, n, c, A', m, c', rfl⟩ := hv.parts
  have hwt : (deedD d).wet = d.wet := by unfold deedD; split <;> (try split) <;> rfl
  have hsr : (deedD d).sure = d.sure := by unfold deedD; split <;> (try split) <;> rfl
  have hdo := deedD_ok hd
  have hdi : WetIn (deedD d) := by unfold WetIn; rw [hwt, hsr]; exact hin
  obtain ⟨d1, hd1⟩ : ∃ d1, d1 = deedD d := ⟨_, rfl⟩
  obtain ⟨b1, hb1⟩ : ∃ b1, b1 = deedB d := ⟨_, rfl⟩
  have hde : ∀ W : World, Below w.heap.size w W → Calls Tryz.prog 50 #[.agg #[.slice A n c, .slice A' m c', .bool d.dead, .int .i64 d.left]] W fun e w' => ∃ v', e = .returned (.tuple #[v', .bool b1]) ∧ IsDisk w' v' d1 ∧ Below W.heap.size W w' := fun W hb => by
    rw [hd1, hb1]; exact rdeed_calls _ d W (hv.below hb) hd.lo hd.hi
  rw [← hd1] at hwt hsr hdo hdi ⊢
  rw [← hb1, ← hwt, ← hsr]
  clear hd1 hb1 hwt hsr hv hd hin
  obtain ⟨sure, wet, dead, left⟩ := d
  dsimp only at hde
  have HDE := Lib.hid hde
  have HDO := Lib.hid hdo
  have HDI := Lib.hid hdi
  clear hde hdo hdi
  go_enter Tryz.func35, Tryz.ntmps35
  go_wp2_with fail
  have hb0 : Below w.heap.size w ((w.alloc (.cells #[.slice A n c, .slice A' m c', .bool dead, .int .i64 left] 28)).alloc (.cells #[.slice none 0 0, .slice none 0 0, .bool false, .int .i64 0] 28)) := ((Below.refl _ _).alloc (Nat.le_refl _) _).alloc (by simp) _
  with_reducible refine (HDE.out _ hb0).mono ?_
  clear HDE
  rintro e w1 ⟨v1, rfl, hv1, hb1⟩
  obtain ⟨A1, n1, c1, A1', m1, c1', rfl⟩ := hv1.parts
  obtain ⟨sure1, wet1, dead1, left1⟩ := d1
  dsimp only at hv1 ⊢
  have hg1 := box_kept w.heap.size (box_alloc (heap_alloc_new w _) _) hb1
  have hg2 : w1.heap[w.heap.size + 1]? = some (.cells #[.slice none 0 0, .slice none 0 0, .bool false, .int .i64 0] 28 (0, 0)) := box_kept (w.heap.size + 1) (by have := heap_alloc_new (w.alloc (.cells #[.slice A n c, .slice A' m c', .bool dead, .int .i64 left] 28)) (.cells #[.slice none 0 0, .slice none 0 0, .bool false, .int .i64 0] 28); simpa using this) hb1
  have hbw := below_trans' hb0 hb1
  obtain ⟨w2, e2, hG2, hK2, hB2⟩ := box_store4 hg1 (.slice A1 n1 c1) (.slice A1' m1 c1') (.bool dead1) (.int .i64 left1)
  have HV2 := Lib.hid (hv1.other hg1 (by decide) (by decide) hK2)
  have HB := Lib.hid (hB2 _ _ hbw (Nat.le_refl _))
  have hr2 : w2.heap[w.heap.size + 1]? = _ := (hK2 _ (by omega)).trans hg2
  obtain ⟨⟨hp0, hp1, hp2, hp3⟩, hf0, hf1, hf2, hf3⟩ := box4 hg1
  have HG2 := Lib.hid hG2
  have HR2 := Lib.hid hr2
  have E2 := Lib.hid e2
  clear hb0 hb1 hv1 hg1 hg2 hbw e2 hG2 hK2 hB2 hr2
  go_upto_region 2 with (fail)
  rw [E2.out]
  clear hp0 hp1 hp2 hp3 hf0 hf1 hf2 hf3 E2
  obtain ⟨⟨hp0, hp1, hp2, hp3⟩, hf0, hf1, hf2, hf3⟩ := box4 HG2.out
  obtain ⟨⟨hq0, hq1, hq2, hq3⟩, hr0, hr1, hr2, hr3⟩ := box4 HR2.out
  cases b1 with
  | false =>
    go_wp2_with fail
    refine bodyPost_ret (v := .tuple #[.agg #[.slice A1 n1 c1, .slice A1' m1 c1', .bool dead1, .int .i64 left1], .int .i64 12]) (by simp [results, Tryz.results35, go_sem, hq0, hq1, hq2, hq3, hr0, hr1, hr2, hr3]) rfl ⟨_, rfl, ?_, ?_⟩
    · exact HV2.out.other HR2.out (by decide) (by decide) (store4_other _ _ _ _ _ _)
    · exact below_store4 HB.out _ (by omega) _ _ _ _
  | true =>
    go_wp2_with fail
    with_reducible refine (rsettle_all _ _ _ HV2.out HDO.out HDI.out).mono ?_
    rintro e w3 ⟨v3, rfl, hv3, hb3⟩
    obtain ⟨A3, n3, c3, A3', m3, c3', rfl⟩ := hv3.parts
    dsimp only at hv3 ⊢
    have hg3 := box_kept _ HR2.out hb3
    have HV3 := Lib.hid hv3
    have HB3 := Lib.hid (below_trans' HB.out (hb3.mono (by have := HB.out.size; omega)))
    have HG3 := Lib.hid hg3
    clear hq0 hq1 hq2 hq3 hr0 hr1 hr2 hr3 hp0 hp1 hp2 hp3 hf0 hf1 hf2 hf3
    obtain ⟨⟨hq0, hq1, hq2, hq3⟩, hr0, hr1, hr2, hr3⟩ := box4 hg3
    clear hv3 hb3 hg3
    go_wp2_with fail
    refine bodyPost_ret (v := .tuple #[.agg #[.slice A3 n3 c3, .slice A3' m3 c3', .bool dead1, .int .i64 left1], .int .i64 0]) (by simp [results, Tryz.results35, go_sem, hq0, hq1, hq2, hq3, hr0, hr1, hr2, hr3]) rfl ⟨_, rfl, ?_, ?_⟩
    · exact HV3.out.other HG3.out (by decide) (by decide) (store4_other _ _ _ _ _ _)
    · exact below_store4 HB3.out _ (by omega) _ _ _ _
end Go.Proofs.YtnbbijpmkhdgpaaGreat.Dsk

/- DRSame -/
namespace Go.Proofs.YtnbbijpmkhdgpaaGreat.Dsk
open Go.RowKit
attribute [local go_sem ↓] Go.wp_at_zero Go.wp_at_succ

theorem two_new (w : World) (a b : Obj) : ∃ X g1 g2, (w.alloc a).alloc b = X ∧ w.heap.size = g1 ∧ w.heap.size + 1 = g2 ∧ X.heap[g1]? = some a ∧ X.heap[g2]? = some b ∧ Below w.heap.size w X := by
  refine ⟨_, _, _, rfl, rfl, rfl, box_alloc (heap_alloc_new w a) b, ?_, ((Below.refl _ _).alloc (Nat.le_refl _) _).alloc (by simp) _⟩
  have := heap_alloc_new (w.alloc a) b
  simpa using this

set_option maxRecDepth 100000 in
set_option maxHeartbeats 2000000 in
theorem rsame_calls (v u : Value) (d : DK) (w : World) (hv : IsDisk w v d) (hu : IsDisk w u d) (hs : d.sure.length ≤ 1000000) (hw : d.wet.length ≤ 1000000) :
    Calls Tryz.prog 25 #[v, u] w fun e w' => e = .returned (.bool true) ∧ Below w.heap.size w w' := by
  obtain ⟨sure, wet, dead, left⟩ := d
  obtain ⟨_, _, rfl, ⟨A, c, rfl, _, hr⟩, ⟨B, e, rfl, _, hq⟩⟩ := hv
  obtain ⟨_, _, rfl, ⟨A', c', rfl, _, hr'⟩, ⟨B', e', rfl, _, hq'⟩⟩ := hu
  dsimp only at *
  obtain ⟨n, hn⟩ : ∃ n, n = sure.length := ⟨_, rfl⟩
  obtain ⟨m, hm⟩ : ∃ m, m = wet.length := ⟨_, rfl⟩
  rw [← hn] at hr hr' hs ⊢
  rw [← hm] at hq hq' hw ⊢
  have HN := Lib.hid hn
  have HM := Lib.hid hm
  have HR := Lib.hid hr
  have HR' := Lib.hid hr'
  have HQ := Lib.hid hq
  have HQ' := Lib.hid hq'
  clear hn hm hr hr' hq hq'
  go_enter Tryz.func25, Tryz.ntmps25
  go_upto_region 1 with (fail)
  obtain ⟨X, g2, g3, eX, e1, e2, hG, hG', hb⟩ := two_new w (.cells #[.slice A n c, .slice B m e, .bool dead, .int .i64 left] 28) (.cells #[.slice A' n c', .slice B' m e', .bool dead, .int .i64 left] 28)
  rw [eX, e2, e1]
  have HG := Lib.hid hG
  have HG' := Lib.hid hG'
  have HB := Lib.hid hb
  clear eX e1 e2 hb
  obtain ⟨⟨p0, p1, p2, p3⟩, _⟩ := box4 hG
  obtain ⟨⟨q0, q1, q2, q3⟩, _⟩ := box4 hG'
  clear hG hG'
  go_wp2_with fail
  go_loopw [5] (fun u wr => ∃ i : Nat, i ≤ n ∧ u = .int .i64 i ∧ Below X.heap.size X wr) (fun u _ => n - (intOf u).toNat)
  case atStart => exact ⟨0, Nat.zero_le _, rfl, Below.refl _ _⟩
  case round =>
    obtain ⟨i, hi, rfl, hbr⟩ := hrel
    have HBR := Lib.hid hbr
    clear hbr p0 p1 p2 p3 q0 q1 q2 q3
    obtain ⟨⟨p0, p1, p2, p3⟩, _⟩ := box4 (box_kept _ HG.out HBR.out)
    obtain ⟨⟨q0, q1, q2, q3⟩, _⟩ := box4 (box_kept _ HG'.out HBR.out)
    by_cases hlt : i < n
    · obtain ⟨b, off, rfl, hbl, hc⟩ := HR.out.at_ (by omega)
      obtain ⟨b', off', rfl, hbl', hc'⟩ := HR'.out.at_ (by omega)
      obtain ⟨S, hS⟩ : ∃ S, (sure.map Value.string)[i]? = some (.string S) := ⟨sure[i]'(by have := HN.out; omega), by simp [List.getElem?_eq_getElem (show i < sure.length by have := HN.out; omega)]⟩
      have hx := ((below_trans' HB.out HBR.out).cell (p := ⟨b, off + i, none⟩) hbl).trans (hc i _ hS)
      have hy := ((below_trans' HB.out HBR.out).cell (p := ⟨b', off' + i, none⟩) hbl').trans (hc' i _ hS)
      have hi1 : (0 : Int) ≤ (i : Int) := by omega
      have hi2 : (i : Int) < (n : Int) := by omega
      clear hc hc' hS
      go_wp2_with fail
      go_quiet (fail)
      go_wp2_with fail
      exact ⟨⟨i + 1, by omega, by go_num, HBR.out.trans ⟨rfl, rfl, rfl, Nat.le_refl _, fun _ _ => rfl⟩⟩, by simp [intOf]; omega⟩
    · have hnl : decide ((i : Int) < (n : Int)) = false := by simp; omega
      go_wp2_with fail
      go_loopw [6] (fun u wr => ∃ i : Nat, i ≤ m ∧ u = .int .i64 i ∧ Below X.heap.size X wr) (fun u _ => m - (intOf u).toNat)
      case atStart => exact ⟨0, Nat.zero_le _, rfl, HBR.out⟩
      case round =>
        clear HBR p0 p1 p2 p3 q0 q1 q2 q3
        obtain ⟨k, hk, rfl, hbr⟩ := hrel
        have HBR := Lib.hid hbr
        clear hbr
        obtain ⟨⟨p0, p1, p2, p3⟩, _⟩ := box4 (box_kept _ HG.out HBR.out)
        obtain ⟨⟨q0, q1, q2, q3⟩, _⟩ := box4 (box_kept _ HG'.out HBR.out)
        by_cases hlt2 : k < m
        · obtain ⟨b, off, rfl, hbl, hc⟩ := HQ.out.at_ (by omega)
          obtain ⟨b', off', rfl, hbl', hc'⟩ := HQ'.out.at_ (by omega)
          obtain ⟨o, ho⟩ : ∃ o, wet[k]? = some o := ⟨_, List.getElem?_eq_getElem (by have := HM.out; omega)⟩
          obtain ⟨hw0, hw1⟩ := wetCells_at wet k o ho
          have hbb := below_trans' HB.out HBR.out
          have hx0 := (hbb.cell (p := ⟨b, off + k * 2, none⟩) hbl).trans (hc _ _ hw0)
          have hx1 := (hbb.cell (p := ⟨b, off + k * 2 + 1, none⟩) hbl).trans (hc _ _ hw1)
          have hy0 := (hbb.cell (p := ⟨b', off' + k * 2, none⟩) hbl').trans (hc' _ _ hw0)
          have hy1 := (hbb.cell (p := ⟨b', off' + k * 2 + 1, none⟩) hbl').trans (hc' _ _ hw1)
          have hi1 : (0 : Int) ≤ (k : Int) := by omega
          have hi2 : (k : Int) < (m : Int) := by omega
          obtain ⟨oa, od⟩ := o
          dsimp only at hx0 hx1 hy0 hy1
          clear hc hc' ho hw0 hw1 hbb
          go_wp2_with fail
          go_quiet (fail)
          go_wp2_with fail
          exact ⟨⟨k + 1, by omega, by go_num, HBR.out.trans ⟨rfl, rfl, rfl, Nat.le_refl _, fun _ _ => rfl⟩⟩, by simp [intOf]; omega⟩
        · have hnl2 : decide ((k : Int) < (m : Int)) = false := by simp; omega
          go_wp2_with fail
          go_ret
          exact ⟨rfl, below_trans' HB.out HBR.out⟩

end Go.Proofs.YtnbbijpmkhdgpaaGreat.Dsk

/- DRDoes -/
namespace Go.Proofs.YtnbbijpmkhdgpaaGreat.Dsk
open Go.RowKit

theorem rwr_calls (v : Value) (d : DK) (at_ : Int) (data : ByteArray) (w : World) (hv : IsDisk w v d) (hd : d.ok) (hr : Rising d.wet) :
    Calls Tryz.prog 21 #[v, .int .i64 at_, .string data] w fun e w' => ∃ v', e = .returned (.tuple #[v', .int .i64 (wrE d at_ data)]) ∧ IsDisk w' v' (wrD d at_ data) ∧ Below w.heap.size w w' := by
  by_cases hok : wrOk d at_ data
  · unfold wrE wrD
    rw [if_pos hok, if_pos hok]
    cases hb : deedB d with
    | true =>
      have := rwrite_done v d at_ data w hv hd hok.1 hok.2.1 hok.2.2 hb hr
      unfold writeD
      rw [hb, if_pos rfl, if_pos rfl]
      exact this
    | false =>
      have := rwrite_down v d at_ data w hv hd hok.1 hok.2.1 hok.2.2 hb
      unfold writeD
      rw [hb, if_neg (by simp), if_neg (by simp)]
      exact this
  · have := rwrite_arg v d at_ data w hv hok
    unfold wrE wrD
    rw [if_neg hok, if_neg hok]
    exact this

theorem rrd_calls (v : Value) (d : DK) (at_ : Int) (w : World) (hv : IsDisk w v d) (hd : d.ok) (hr : Rising d.wet) :
    Calls Tryz.prog 68 #[v, .int .i64 at_] w fun e w' => e = .returned (.tuple #[.string (rdS d at_), .int .i64 (rdE d at_)]) ∧ Below w.heap.size w w' := by
  by_cases hok : rdOk d at_
  · cases hde : d.dead with
    | false =>
      have := rread_walk v d at_ w hv hd.wet hok.1 hok.2 hde
      obtain ⟨j, rfl⟩ := Int.eq_ofNat_of_zero_le hok.1
      rw [find_read hr.uniq] at this
      unfold rdS rdE
      rw [if_pos ⟨hok, hde⟩, if_pos hok, if_pos hde]
      exact this
    | true =>
      have := rread_down v d at_ w hv hok.1 hok.2 hde
      unfold rdS rdE
      rw [if_neg (by rw [hde]; simp), if_pos hok, if_neg (by rw [hde]; simp)]
      exact this
  · have := rread_arg v d at_ w hv hok
    unfold rdS rdE
    rw [if_neg (fun h => hok h.1), if_neg hok]
    exact this

theorem rfl_calls (v : Value) (d : DK) (w : World) (hv : IsDisk w v d) (hd : d.ok) (hin : WetIn d) :
    Calls Tryz.prog 35 #[v] w fun e w' => ∃ v', e = .returned (.tuple #[v', .int .i64 (flE d)]) ∧ IsDisk w' v' (flD d) ∧ Below w.heap.size w w' :=
  rflush_calls v d w hv hd hin

theorem zero_disk (w : World) : IsDisk w (.agg #[.slice none 0 0, .slice none 0 0, .bool false, .int .i64 0]) zeroD :=
  ⟨_, _, rfl, SL.nil _ _ _, SL.nil _ _ _⟩

/-- New, and the document's own. -/
theorem new_both (n : Int) : ∃ (N : Nat) (D : DK) (E : Int), N ≤ 2000 ∧ Pl N 0 D ∧
    (∀ W : World, Calls Tryz.prog 29 #[.int .i64 n] W fun e w' => ∃ v, e = .returned (.tuple #[v, .int .i64 E]) ∧ IsDisk w' v D ∧ Below W.heap.size W w') ∧
    (∀ W : World, Calls Tryz.prog 33 #[.int .i64 n] W fun e w' => ∃ v, e = .returned (.tuple #[v, .int .i64 E]) ∧ IsDisk w' v D ∧ Below W.heap.size W w') := by
  have hz : Pl 0 0 zeroD := ⟨⟨rfl, Nat.le_refl _, by simp [zeroD], by simp [zeroD]⟩, rising_nil, wetIn_nil rfl⟩
  by_cases h1 : n < 1
  · refine ⟨0, zeroD, 1, by omega, hz, fun W => (new_bad_lo n h1 W).mono ?_, fun W => (rnew_bad_lo n h1 W).mono ?_⟩
    all_goals
      rintro e w' ⟨rfl, hb⟩
      exact ⟨_, rfl, zero_disk _, hb⟩
  · by_cases h2 : 2000 < n
    · refine ⟨0, zeroD, 1, by omega, hz, fun W => (new_bad_hi n h2 W).mono ?_, fun W => (rnew_bad_hi n h2 W).mono ?_⟩
      all_goals
        rintro e w' ⟨rfl, hb⟩
        exact ⟨_, rfl, zero_disk _, hb⟩
    · obtain ⟨k, rfl⟩ := Int.eq_ofNat_of_zero_le (show 0 ≤ n by omega)
      exact ⟨k, newD k, 0, by omega, ⟨newD_good k, rising_nil, wetIn_nil rfl⟩, fun W => new_calls k (by omega) (by omega) W, fun W => rnew_calls k (by omega) (by omega) W⟩

end Go.Proofs.YtnbbijpmkhdgpaaGreat.Dsk

/- EMem -/
namespace Go.Proofs.YtnbbijpmkhdgpaaGreat.Ent
open Go.RowKit Go.Sort
open Wire (TK TP But twoL fourL)
open Crc (sealB Only)

def enV (x : En) : Value := .agg #[.int .i64 x.seq, .int .i64 x.index, .bool x.last, .int .i64 x.no, .string (strB x.data)]
def enC (x : En) : Array Value := #[.int .i64 x.seq, .int .i64 x.index, .bool x.last, .int .i64 x.no, .string (strB x.data)]

structure At5 (w : World) (b : Nat) (x : En) : Prop where
  c0 : w.cell? ⟨b, 0, none⟩ = some (.int .i64 x.seq)
  c1 : w.cell? ⟨b, 1, none⟩ = some (.int .i64 x.index)
  c2 : w.cell? ⟨b, 2, none⟩ = some (.bool x.last)
  c3 : w.cell? ⟨b, 3, none⟩ = some (.int .i64 x.no)
  c4 : w.cell? ⟨b, 4, none⟩ = some (.string (strB x.data))

/-- A box that holds an entry. -/
def EBox (w : World) (g : Nat) (x : En) : Prop := w.heap[g]? = some (.cells (enC x) 55 (0, 0))
section
variable {w w' : World} {g : Nat} {x : En}
theorem EBox.at_ (h : EBox w g x) : At5 w g x := by
  refine ⟨?_, ?_, ?_, ?_, ?_⟩ <;> (rw [cell_of_row w g _ _ _ _ h]; rfl)
theorem EBox.lt (h : EBox w g x) : g < w.heap.size := (Array.getElem?_eq_some_iff.1 h).1
theorem EBox.keep (h : EBox w g x) (e : w'.heap[g]? = w.heap[g]?) : EBox w' g x := e.trans h
theorem EBox.below (h : EBox w g x) (hb : Below w.heap.size w w') : EBox w' g x := (hb.block g h.lt).trans h
theorem EBox.belowB {B : Nat} (h : EBox w g x) (hb : Below B w w') (hg : g < B) : EBox w' g x := (hb.block g hg).trans h
theorem EBox.but {b : Nat} (h : EBox w g x) (hb : But b w w') (hg : g ≠ b) : EBox w' g x := h.keep (hb.block g h.lt hg)
theorem EBox.only {b : Nat} (h : EBox w g x) (hb : Only b w w') (hg : g ≠ b) : EBox w' g x := h.keep (hb.block g hg)
theorem EBox.new (w : World) (x : En) : EBox (w.alloc (.cells (enC x) 55)) w.heap.size x := heap_alloc_new w _
theorem EBox.free (h : EBox w g x) (i : Nat) : w.frozen? ⟨g, i, none⟩ = false := by unfold EBox at h; simp [World.frozen?, h]
theorem EBox.setSeq (h : EBox w g x) (n : Int) : EBox (w.setCell ⟨g, 0, none⟩ (.int .i64 n)) g { x with seq := n } := heap_setCell_same w g 0 _ 55 _ h
theorem EBox.setIndex (h : EBox w g x) (n : Int) : EBox (w.setCell ⟨g, 1, none⟩ (.int .i64 n)) g { x with index := n } := heap_setCell_same w g 1 _ 55 _ h
theorem EBox.setLast (h : EBox w g x) (b : Bool) : EBox (w.setCell ⟨g, 2, none⟩ (.bool b)) g { x with last := b } := heap_setCell_same w g 2 _ 55 _ h
theorem EBox.setNo (h : EBox w g x) (n : Int) : EBox (w.setCell ⟨g, 3, none⟩ (.int .i64 n)) g { x with no := n } := heap_setCell_same w g 3 _ 55 _ h
theorem EBox.setData (h : EBox w g x) (l : List UInt8) : EBox (w.setCell ⟨g, 4, none⟩ (.string (strB l))) g { x with data := l } := heap_setCell_same w g 4 _ 55 _ h
end

/-- The world behind the store of a whole entry, under a name of its own. -/
theorem store5 {w : World} {g : Nat} {x0 : En} (h : EBox w g x0) (x : En) :
    ∃ w2, ((((w.setCell ⟨g, 0, none⟩ (.int .i64 x.seq)).setCell ⟨g, 1, none⟩ (.int .i64 x.index)).setCell ⟨g, 2, none⟩ (.bool x.last)).setCell ⟨g, 3, none⟩ (.int .i64 x.no)).setCell ⟨g, 4, none⟩ (.string (strB x.data)) = w2 ∧ EBox w2 g x ∧ Only g w w2 := by
  refine ⟨_, rfl, ?_, (((((Only.refl g w).setCell _ rfl _).setCell _ rfl _).setCell _ rfl _).setCell _ rfl _).setCell _ rfl _⟩
  exact ((((h.setSeq x.seq).setIndex x.index).setLast x.last).setNo x.no).setData x.data
theorem Only.after {g : Nat} {u v w : World} (h : Below u.heap.size u v) (k : Only g v w) (hg : u.heap.size ≤ g) : Below u.heap.size u w := h.trans (k.below hg)

/-- A page, and a box that holds one. -/
def lfV (no : Int) (d : List UInt8) : Value := .agg #[.int .i64 no, .string (strB d)]
def LBox (w : World) (g : Nat) (no : Int) (d : List UInt8) : Prop := w.heap[g]? = some (.cells #[.int .i64 no, .string (strB d)] 52 (0, 0))
section
variable {w w' : World} {g : Nat} {no : Int} {d : List UInt8}
theorem LBox.c0 (h : LBox w g no d) : w.cell? ⟨g, 0, none⟩ = some (.int .i64 no) := by rw [cell_of_row w g _ _ _ _ h]; rfl
theorem LBox.c1 (h : LBox w g no d) : w.cell? ⟨g, 1, none⟩ = some (.string (strB d)) := by rw [cell_of_row w g _ _ _ _ h]; rfl
theorem LBox.lt (h : LBox w g no d) : g < w.heap.size := (Array.getElem?_eq_some_iff.1 h).1
theorem LBox.below (h : LBox w g no d) (hb : Below w.heap.size w w') : LBox w' g no d := (hb.block g h.lt).trans h
theorem LBox.new (w : World) (no : Int) (d : List UInt8) : LBox (w.alloc (.cells #[.int .i64 no, .string (strB d)] 52)) w.heap.size no d := heap_alloc_new w _
theorem LBox.free (h : LBox w g no d) (i : Nat) : w.frozen? ⟨g, i, none⟩ = false := by unfold LBox at h; simp [World.frozen?, h]
theorem LBox.setData (h : LBox w g no d) (l : List UInt8) : LBox (w.setCell ⟨g, 1, none⟩ (.string (strB l))) g no l := heap_setCell_same w g 1 _ 52 _ h
end

/-- A contract that lays blocks, in a world of the class. -/
theorem rg {f : FuncId} {args : Array Value} {v : Value} (h : ∀ W, Calls Tryz.prog f args W fun e w' => e = .returned v ∧ Below W.heap.size W w') (Y : World) :
    ∀ d os, Calls Tryz.prog f args (grow (redrawn Y d) os) fun e w'' => e = .returned v ∧ ∃ p : Regrown, w'' = grow (redrawn Y p.d) p.os :=
  fun _ _ => Calls.regrown_of (h _)
theorem rg0 {f : FuncId} {args : Array Value} {v : Value} (h : ∀ W, Calls Tryz.prog f args W fun e w' => e = .returned v ∧ w' = W) (Y : World) :
    ∀ d os, Calls Tryz.prog f args (grow (redrawn Y d) os) fun e w'' => e = .returned v ∧ ∃ p : Regrown, w'' = grow (redrawn Y p.d) p.os :=
  fun d os => (h _).mono fun _ _ ⟨he, hw⟩ => ⟨he, ⟨d, os⟩, hw⟩

theorem repeat_zer (n : Nat) : Lib.repeatL [0] n = zer n := by
  induction n with
  | zero => rfl
  | succ n ih => unfold Lib.repeatL; rw [ih]; rfl

theorem rep_calls (n : Nat) (w : World) (hn : n ≤ 1000) :
    Calls Tryz.prog 67 #[.string ⟨#[0]⟩, .int .i64 (n : Nat)] w fun e w' => e = .returned (.string (strB (zer n))) ∧ Below w.heap.size w w' := by
  have h := Tryz.strings_Repeat ⟨#[0]⟩ n w (by omega) (by show 1 * n ≤ _; omega)
  rw [show (⟨#[0]⟩ : ByteArray).data.toList = [0] from rfl, repeat_zer] at h
  exact h

set_option maxRecDepth 100000 in
set_option maxHeartbeats 1000000 in
theorem noughts_calls (n : Nat) (w : World) (hn : n ≤ 1000) :
    Calls Tryz.prog 81 #[.int .i64 (n : Nat)] w fun e w' => e = .returned (.string (strB (zer n))) ∧ Below w.heap.size w w' := by
  go_enter Tryz.func81, Tryz.ntmps81
  go_wp2_with fail
  (with_reducible refine (rep_calls n _ hn).mono ?_)
  rintro e w1 ⟨rfl, hB⟩
  go_wp2_with fail
  go_ret
  exact ⟨rfl, hB⟩

set_option maxRecDepth 100000 in
set_option maxHeartbeats 1000000 in
theorem dataBytes_calls (b : Bool) (w : World) : Calls Tryz.prog 126 #[.bool b] w fun e w' => e = .returned (.int .i64 (dataN b : Nat)) ∧ w' = w := by
  cases b
  all_goals
    go_enter Tryz.func126, Tryz.ntmps126
    go_wp2_with fail
    go_ret
    exact ⟨rfl, rfl⟩

set_option maxRecDepth 100000 in
set_option maxHeartbeats 1000000 in
theorem kind_calls (b : Bool) (w : World) : Calls Tryz.prog 114 #[.bool b] w fun e w' => e = .returned (.string (strB (kindL b))) ∧ w' = w := by
  cases b
  all_goals
    go_enter Tryz.func114, Tryz.ntmps114
    go_wp2_with fail
    go_ret
    exact ⟨rfl, rfl⟩

set_option maxRecDepth 100000 in
set_option maxHeartbeats 1000000 in
theorem first_calls (l : List UInt8) (n : Nat) (w : World) (hn : n ≤ 1000) : Calls Tryz.prog 84 #[.string (strB l), .int .i64 (n : Nat)] w fun e w' => e = .returned (.string (strB (l.take n))) ∧ w' = w := by
  have hs := strB_size l
  by_cases h : n ≤ l.length
  · have h1 : (n : Int) ≤ ((strB l).size : Int) := by omega
    have h2 : n ≤ (strB l).size := by omega
    clear hs
    go_enter Tryz.func84, Tryz.ntmps84
    go_wp2_with fail
    go_ret
    exact ⟨ret_str (by rw [strB_extract, List.drop_zero, show (min (n : Int) ((strB l).size : Int)).toNat = n by omega]), rfl⟩
  · have h1 : ¬ (n : Int) ≤ ((strB l).size : Int) := by omega
    have h3 : ((strB l).size : Int) ≤ (n : Int) := by omega
    clear hs
    go_enter Tryz.func84, Tryz.ntmps84
    go_wp2_with fail
    go_ret
    exact ⟨ret_str (by rw [strB_extract, List.drop_zero, List.take_of_length_le (by rw [strB_size]; omega), List.take_of_length_le (by omega)]), rfl⟩

end Go.Proofs.YtnbbijpmkhdgpaaGreat.Ent
