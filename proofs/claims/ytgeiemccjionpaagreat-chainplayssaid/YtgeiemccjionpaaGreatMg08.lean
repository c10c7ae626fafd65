/- Contracts and plain mathematics that the statement's proof wants: no statement is proved here, nothing is assumed. -/
import Derived.Laws.IdiomStrings
import Derived.BigQuiet
import Derived.Test.YtgeiemccjionpaaGreatMg01
/- WRTape -/
namespace Go.Proofs.YtgeiemccjionpaaGreat.Wire
open Go.RowKit

theorem info5 : (Tryz.prog.info? 5).map (fun i => (i.zero, i.size, i.bytes)) = some (some (.int .u8 0), 1, 1) := by kernel_rfl

/-- Noughts. -/
def zeros (k : Nat) : List UInt8 := List.replicate k 0

theorem make_zeros (k : Nat) (hk : k ≤ 100000) (W : World) : (Instr.makeSlice 70 (.int .i64 (k : Nat)) (.int .i64 (k : Nat))).run Tryz.prog W = .ok (.slice (some ⟨W.heap.size, 0, none⟩) k k) (W.alloc (.cells (madeCells (Value.cells (.int .u8 0)) k) 5)) := by
  obtain ⟨i0, hi, hz0, hz1, hz2⟩ := info_parts info5
  have := run_make (P := Tryz.prog) W 70 5 i0 (.int .u8 0) Tryz.underlying70 hi hz0 .i64 .i64 (k : Nat) (k : Nat) (by omega) (by omega) (by rw [hz2]; omega) (by omega)
  rw [this, hz1]
  simp

theorem conv_zeros (k : Nat) (W : World) : (convert 70 9 (.slice (some ⟨W.heap.size, 0, none⟩) k k)).run Tryz.prog (W.alloc (.cells (madeCells #[.int .u8 0] k) 5)) = .ok (.string (strB (zeros k))) (W.alloc (.cells (madeCells #[.int .u8 0] k) 5)) := by
  have h0 := run_convert_bytes_back (P := Tryz.prog) (W.alloc (.cells (madeCells #[.int .u8 0] k) 5)) 70 9 5 ⟨W.heap.size, 0, none⟩ k (List.replicate k 0) Tryz.underlying70 Tryz.underlying5 Tryz.underlying9 ?_
  · simpa [strB, zeros] using h0
  · intro j hj
    have hj' : j < k := by simpa using hj
    rw [Addr.add_lit, cell_of_row _ _ _ _ _ _ (heap_alloc_new W _)]
    simp [madeCells, hj', Nat.mod_one]

section
variable (b : Nat) (w : World)
end

theorem TP.drewN {ty : TypeId} {w : World} {b : Nat} {t : TK} (h : TP ty w b t) (n : Nat) : TP ty (w.drewN n) b t := h
theorem But.drewN {b : Nat} {u v : World} (h : But b u v) (n : Nat) : But b u (v.drewN n) := ⟨h.os, h.tape, h.output, h.size, h.block⟩

theorem ret_i {x y : Int} (h : y = x) : Ending.returned (.int .i64 x) = .returned (.int .i64 y) := by rw [h]

end Go.Proofs.YtgeiemccjionpaaGreat.Wire
