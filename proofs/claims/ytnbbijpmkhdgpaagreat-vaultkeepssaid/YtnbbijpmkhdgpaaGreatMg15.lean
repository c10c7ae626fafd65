/- Contracts and plain mathematics that the statement's proof wants: no statement is proved here, nothing is assumed. -/
import Derived.Laws.CopyOwn
import Derived.Deep.RegionLaw
import Derived.Deep.RegionHeld3
import Derived.Deep.DrawnRows
import Derived.Test.YtnbbijpmkhdgpaaGreatMg07
import Derived.Test.YtnbbijpmkhdgpaaGreatMg14
/- DRep -/
namespace Go.Proofs.YtnbbijpmkhdgpaaGreat.Dsk
open Go.RowKit
attribute [local go_sem ↓] Go.wp_at_zero Go.wp_at_succ

theorem Tryz.info9 : (Tryz.prog.info? 9).map (fun i => (i.zero, i.size, i.bytes)) = some (some (.string ⟨#[]⟩), 1, 16) := by kernel_rfl
theorem Tryz.size9 : (Tryz.prog.info? 9).map (·.size) = some 1 := by kernel_rfl

theorem rep_src (b : Nat) (s : ByteArray) (Z : List Value) (w : World) (hb : b < w.heap.size) (hc : w.cell? ⟨b, 0, none⟩ = some (.string s)) :
    0 < [Value.string s].length → some (⟨w.heap.size, 0, none⟩ : Addr) = some ⟨w.heap.size, 0, none⟩ ∧ ∃ ad, some (⟨b, 0, none⟩ : Addr) = some ad ∧ ∀ j v, [Value.string s][j]? = some v → (w.alloc (.cells Z.toArray 9)).cell? (ad.add j) = some v := by
  intro _
  refine ⟨rfl, ⟨b, 0, none⟩, rfl, ?_⟩
  intro j v hj
  match j, hj with
  | 0, hj =>
    simp at hj
    subst hj
    exact (World.cell?_alloc_lt w _ ⟨b, 0, none⟩ hb).trans hc

theorem rep_src2 (s : ByteArray) (k _n m : Nat) (L : List Value) (g : Nat) (w : World) (hg : w.heap[g]? = some (.cells L.toArray 9 (0, 0))) (hL : L.take k = List.replicate k (.string s)) (cs : List Value) (hcs : cs = List.replicate m (.string s)) (hm : m ≤ k) :
    0 < cs.length → some (⟨g, k, none⟩ : Addr) = some ⟨g, k, none⟩ ∧ ∃ ad, some (⟨g, 0, none⟩ : Addr) = some ad ∧ ∀ j v, cs[j]? = some v → w.cell? (ad.add j) = some v := by
  intro _
  refine ⟨rfl, ⟨g, 0, none⟩, rfl, ?_⟩
  intro j v hj
  subst hcs
  rw [List.getElem?_replicate] at hj
  split at hj
  · rename_i hjm
    rw [Addr.add_lit, cell_of_row w g _ _ _ _ hg]
    have h := congrArg (fun l => l[j]?) hL
    simp only [List.getElem?_take, List.getElem?_replicate] at h
    rw [if_pos (by omega), if_pos (by omega)] at h
    simpa [h] using hj
  · cases hj

theorem rep_take (s : ByteArray) (k m : Nat) (L cs : List Value) (hL : L.take k = List.replicate k (.string s)) (hcs : cs = List.replicate m (.string s)) (hk : k ≤ L.length) : (splice L k cs).take (k + m) = List.replicate (k + m) (.string s) := by
  subst hcs
  have h1 : (L.take k ++ List.replicate m (Value.string s)).length = k + m := by simp; omega
  unfold splice
  rw [← List.append_assoc, List.take_append_of_le_length (by omega), List.take_of_length_le (by omega), hL, List.replicate_append_replicate]

theorem rep_cells (s : ByteArray) (k : Nat) (L : List Value) (hL : L.take k = List.replicate k (.string s)) :
    ∀ (j : Nat) (u : Value), (List.replicate k (Value.string s))[j]? = some u → L.toArray[0 + j]? = some u := by
  intro j u hj
  rw [Nat.zero_add]
  rw [← hL, List.getElem?_take] at hj
  split at hj
  · simpa using hj
  · cases hj

set_option maxRecDepth 100000 in
set_option maxHeartbeats 4000000 in
theorem repeat_calls (b : Nat) (s : ByteArray) (n : Nat) (h1 : 1 ≤ n) (h2 : n ≤ 2000) (w : World) (hb : b < w.heap.size) (hc : w.cell? ⟨b, 0, none⟩ = some (.string s)) :
    Calls Tryz.prog 61 #[.slice (some ⟨b, 0, none⟩) 1 1, .int .i64 n] w fun e w' => ∃ v', e = .returned v' ∧ SL w' 9 1 v' n (List.replicate n (.string s)) ∧ Below w.heap.size w w' := by
  obtain ⟨i0, hi, hz0, hz1, hz2⟩ := info_parts Tryz.info9
  obtain ⟨Z, hZ⟩ : ∃ Z : List Value, Z.toArray = madeCells (Value.cells (.string ⟨#[]⟩)) n := ⟨_, Array.toArray_toList⟩
  have hZl : Z.length = n := by
    have := congrArg Array.size hZ
    simpa [size_madeCells] using this
  have hmk : ∀ W : World, (Instr.makeSlice 25 (.int .i64 n) (.int .i64 n)).run Tryz.prog W = .ok (.slice (some ⟨W.heap.size, 0, none⟩) n n) (W.alloc (.cells Z.toArray 9)) := by
    intro W
    have := run_make (P := Tryz.prog) W 25 9 i0 (.string ⟨#[]⟩) Tryz.underlying25 hi hz0 .i64 .i64 n n (by omega) (by omega) (by rw [hz2]; omega) (by omega)
    rw [this, hZ, hz1]
    simp
  have hmul := Tryz.bits_Mul 1 n (by omega) (by omega) w
  rw [Nat.one_mul, Nat.div_eq_of_lt (by omega), Nat.mod_eq_of_lt (by omega)] at hmul
  have HM := Lib.hid (hmul.mono (fun e w' (h : e = _ ∧ w' = w) => (⟨h.1, h.2.symm⟩ : e = _ ∧ w = w')))
  have HZ := Lib.hid hZl
  have hn0 : (n : Int) ≤ 2000 := by omega
  have hn1 : (0 : Int) < n := by omega
  clear hmul hZl hi hz0 hz1 hz2 hZ
  have hd1 : decide ((n : Int) < 0) = false := by simp
  have hd2 : decide ((9223372036854775807 : Int) < n) = false := by simp; omega
  have hg0 : (w.alloc (.cells Z.toArray 9)).heap[w.heap.size]? = some (.cells Z.toArray 9 (0, 0)) := heap_alloc_new w _
  have hl0 : [Value.string s].length = Nat.min 1 n := by show 1 = min 1 n; omega
  have hf0 : 0 + [Value.string s].length ≤ Z.length := by rw [HZ.out]; simpa using h1
  have ho0 : ∀ v ∈ [Value.string s], v.oneCell' = true := by simp [Value.oneCell']
  have HG0 := Lib.hid hg0
  have HC := Lib.hid hc
  have HL0 := Lib.hid hl0
  have HF0 := Lib.hid hf0
  have HO0 := Lib.hid ho0
  clear hg0 hc hl0 hf0 ho0
  go_enter Tryz.func61, Tryz.ntmps61
  go_wp2_with (first | (go_at_call 93; refine HM.out.mono ?_; rintro e w' ⟨rfl, rfl⟩) | (refine wpList_copy_splice (o := ⟨some 33, _, _, _, _, _⟩) rfl (.tmp 31) (.tmp 32) 25 25 rfl 9 Tryz.underlying25 Tryz.size9 _ _ n n 1 1 (by rfl) (by rfl) w.heap.size 0 Z 9 (by exact HG0.out) [.string s] (by exact HL0.out) (by exact rep_src b s Z w hb HC.out) (by exact HF0.out) (by exact HO0.out) w.heap.size w (by exact (Below.refl _ _).alloc (Nat.le_refl _) _) (by exact Nat.le_refl _) ?_; intro w2 hg2 hb2))

  clear HM HG0 HC HL0 HO0 hmk
  go_loopw [8] (fun u wr => ∃ (k : Nat) (L : List Value), 1 ≤ k ∧ k ≤ n ∧ u = .int .i64 k ∧ Hid (wr.heap[w.heap.size]? = some (.cells L.toArray 9 (0, 0)) ∧ L.length = n ∧ L.take k = List.replicate k (.string s)) ∧ Below w.heap.size w wr) (fun u _ => n - (intOf u).toNat)
  case atStart => exact ⟨1, _, Nat.le_refl _, h1, rfl, ⟨hg2.out, by rw [length_splice _ _ _ HF0.out]; exact HZ.out, by simp [splice]⟩, hb2⟩
  case round =>
    obtain ⟨k, L, hk1, hk2, rfl, HL, hb3⟩ := hrel
    by_cases hlt : k < n
    · obtain ⟨m, hm⟩ : ∃ m : Nat, m = min k (n - k) := ⟨_, rfl⟩
      have hm1 : 1 ≤ m := by omega
      have hm3 : m ≤ k := by omega
      have hm2 : k + m ≤ n := by omega
      have hi1 : (0 : Int) ≤ (k : Int) := by omega
      have hi2 : (k : Int) ≤ (n : Int) := by omega
      have hne : ¬ n = k := by omega
      have hcs : (List.replicate m (Value.string s)).length = Nat.min k (n - k) := by rw [List.length_replicate]; exact hm
      obtain ⟨cs, hcsd⟩ : ∃ cs, cs = List.replicate m (Value.string s) := ⟨_, rfl⟩
      have hcl : cs.length = m := by rw [hcsd, List.length_replicate]
      rw [← hcsd] at hcs
      have HM := Lib.hid hm
      have HCS := Lib.hid hcs
      have HCD := Lib.hid hcsd
      have HCL := Lib.hid hcl
      clear hm hcs hcsd hcl
      go_wp2_with fail
      go_region_held3 (fun _ => True) (trivial) ((refine step_copy_splice rfl (.tmp 41) (.tmp 44) 25 25 rfl 9 Tryz.underlying25 Tryz.size9 _ _ (n - k) (n - k) k n (by rfl) (by rfl) w.heap.size k L 9 (by exact HL.out.1) cs (by exact HCS.out) (by exact rep_src2 s k n m L w.heap.size _ HL.out.1 HL.out.2.2 cs HCD.out (by omega)) (by rw [HL.out.2.1, HCL.out]; exact hm2) (by rw [HCD.out]; simp [Value.oneCell']) w.heap.size w (by exact hb3.drew) (Nat.le_refl _) ?_; intro w4 hg4 hb4))
      have hcl := HCL.out
      go_wp2_with fail
      have hwr : IntKind.i64.wrap ((k : Int) + (cs.length : Int)) = ((k + m : Nat) : Int) := by rw [hcl, IntWalk.i64_in _ (by omega)]; omega
      rw [hwr]
      refine ⟨⟨k + m, splice L k cs, by omega, hm2, rfl, ⟨hg4.out, ?_, ?_⟩, hb4⟩, by simp only [intOf]; omega⟩
      · rw [length_splice _ _ _ (by rw [hcl, HL.out.2.1]; exact hm2)]; exact HL.out.2.1
      · exact rep_take s k m L cs HL.out.2.2 HCD.out (by rw [HL.out.2.1]; omega)
    · go_wp2_with fail
      go_ret
      have : k = n := by omega
      subst this
      exact ⟨_, rfl, ⟨_, _, rfl, Nat.le_refl _, by simp, fun _ => ⟨w.heap.size, 0, _, _, rfl, HL.out.1, rep_cells s k L HL.out.2.2⟩⟩, hb3⟩
end Go.Proofs.YtnbbijpmkhdgpaaGreat.Dsk
