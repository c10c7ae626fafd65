/- The law's own records: what the calls do with them. No statement is proved here. -/
import Derived.Test.YtkfjbhikibidiaaRParse
import Derived.Test.YtkfjbhikibidiaaRSame
namespace Go.Proofs.Ytkfjbhikibidiaa
open Go.RowKit

def someR : Rec := ⟨⟨[97, 47, 98], 4, 4, false, [109], [48, 49, 50, 51, 52, 53, 54, 55, 56, 57, 97, 98, 99, 100, 101, 102], []⟩, 300, [(9, 2)]⟩
def markR : Rec := ⟨⟨[97], 1, 0, true, [], [], []⟩, 0, []⟩
def shortR : Rec := ⟨⟨[97, 47, 98], 4, 4, false, [109], [48, 49, 50, 51, 52, 53, 54, 55, 56, 57, 97, 98, 99, 100, 101, 102], []⟩, 300, [(9, 1)]⟩

theorem some_right : rightR someR = true := by decide
theorem mark_right : rightR markR = true := by decide
theorem short_right : rightR shortR = false := by decide
theorem x_none : isRec [120] = false := by decide

set_option maxRecDepth 100000 in
set_option maxHeartbeats 4000000 in
theorem some_calls (w : World) : Calls Try.prog 14 #[] w fun e w' => ∃ A c, e = .returned (recV someR (.slice A 1 c)) ∧ Sps w' (.slice A 1 c) someR.spans ∧ Below w.heap.size w w' := by
  go_enter Try.func14, Try.ntmps14
  go_wp2_with fail
  obtain ⟨W, hW, hX, hs, hB⟩ : ∃ W, W = (w.alloc (.cells #[.string ⟨#[97, 47, 98]⟩, .int .i64 4, .int .i64 4, .bool false, .string ⟨#[109]⟩, .string ⟨#[48, 49, 50, 51, 52, 53, 54, 55, 56, 57, 97, 98, 99, 100, 101, 102]⟩, .string ⟨#[]⟩, .int .i64 300, .slice (some ⟨w.heap.size + 1, 0, none⟩) 1 1] 26)).alloc (.cells #[.int .i64 9, .int .i64 2] 41) ∧
      RBox W w.heap.size someR (.slice (some ⟨w.heap.size + 1, 0, none⟩) 1 1) ∧ Sps W (.slice (some ⟨w.heap.size + 1, 0, none⟩) 1 1) someR.spans ∧ Below w.heap.size w W := by
    refine ⟨_, rfl, (RBox.new w someR (.slice (some ⟨w.heap.size + 1, 0, none⟩) 1 1)).below (below_one _ _), ?_, below_trans' (below_one _ _) (below_one _ _)⟩
    have hs := Sps.new (w.alloc (.cells (recC someR (.slice (some ⟨w.heap.size + 1, 0, none⟩) 1 1)) 26)) 9 2
    rw [show (w.alloc (.cells (recC someR (.slice (some ⟨w.heap.size + 1, 0, none⟩) 1 1)) 26)).heap.size = w.heap.size + 1 by simp] at hs
    exact hs
  rw [← hW]
  obtain ⟨c0, c1, c2, c3, c4, c5, c6, c7, c8⟩ := hX.at_
  exact bodyPost_ret (v := recV someR (.slice (some ⟨w.heap.size + 1, 0, none⟩) 1 1)) (by simp [results, Try.results14, go_sem, recV, c0, c1, c2, c3, c4, c5, c6, c7, c8]) rfl ⟨_, _, rfl, hs, hB⟩

theorem right_len {r : Rec} (h : rightR r = true) : 10 ≤ (printL r).length ∧ (printL r).length ≤ 200 := by
  obtain ⟨h1, h2, h3, _, _, _, _, _, _, _, h4, _⟩ := right_is h
  have e1 := Wire.textL_len r.it.mt
  have e2 := Wire.textL_len r.it.tag
  have e3 := Wire.textL_len r.it.key
  rw [print_len]
  simp only [bodyL, kindL, restL, List.length_append, Wire.fourL_len, Wire.twoL_len, flagL_len, runsL_len, List.length_cons, List.length_nil]
  omega

/-- There and back. -/
theorem back_calls (r : Rec) (hr : rightR r = true) (w : World) :
    Calls Try.prog 9 #[.string (strB (printL r))] w fun e w' => ∃ A n c, e = .returned (.tuple #[recV r (.slice A n c), .bool true]) ∧ Sps w' (.slice A n c) r.spans ∧ Below w.heap.size w w' := by
  have h := parse_calls (printL r) w (by have := (right_len hr).2; omega)
  obtain ⟨e1, e2⟩ := parse_print hr
  unfold parseV at h
  rw [e1, if_pos rfl, e2] at h
  exact h

/-- No record. -/
theorem none_calls (l : List UInt8) (hl : l.length ≤ 100000) (h0 : isRec l = false) (w : World) :
    Calls Try.prog 9 #[.string (strB l)] w fun e w' => ∃ A n c, e = .returned (.tuple #[recV zeroR (.slice A n c), .bool false]) ∧ Below w.heap.size w w' := by
  refine (parse_calls l w hl).mono ?_
  rintro e w' ⟨A, n, c, rfl, hs, hB⟩
  have e2 : parseV l = zeroR := by unfold parseV; rw [h0]; rfl
  rw [e2, h0]
  exact ⟨A, n, c, rfl, hB⟩

end Go.Proofs.Ytkfjbhikibidiaa
