/- sync.Once and what it stands on, in the run of one goroutine: contracts. No statement is proved here. -/
import Derived.Test.YtibgimlfhpjeeaaCFour
import Derived.Tactics
import Derived.Tactics2
import Derived.Defers
import Derived.Laws.Pointers
import Derived.Laws.LoneSync
import Derived.RegionTactic
import Derived.RegionCalls
import Derived.ChangeAlike
namespace Go.Proofs.Ytibgimlfhpjeeaa.Crc
open Go.RowKit

theorem disable (w : World) : (callFunc 61 #[]).run Try.prog w = .ok (.value (.tuple #[])) w := run_call_mark0 Try.func61 (by kernel_rfl) (by kernel_rfl) (by kernel_rfl) .disable (by kernel_rfl) w
theorem enable (w : World) : (callFunc 63 #[]).run Try.prog w = .ok (.value (.tuple #[])) w := run_call_mark0 Try.func63 (by kernel_rfl) (by kernel_rfl) (by kernel_rfl) .enable (by kernel_rfl) w
theorem acquire (a : Addr) (w : World) : (callFunc 64 #[.pointer (some a)]).run Try.prog w = .ok (.value (.tuple #[])) w := run_call_marked Try.func64 (by kernel_rfl) (by kernel_rfl) (by kernel_rfl) .acquire (by kernel_rfl) a w
theorem releaseMerge (a : Addr) (w : World) : (callFunc 66 #[.pointer (some a)]).run Try.prog w = .ok (.value (.tuple #[])) w := run_call_marked Try.func66 (by kernel_rfl) (by kernel_rfl) (by kernel_rfl) .releaseMerge (by kernel_rfl) a w

set_option maxRecDepth 100000 in
theorem store_deferred (a : Addr) (x : Value) (u : FrameMode) (w : World) (hc : w.cell? a = some x) (hz : w.frozen? a = false) :
    CallsD Try.prog 56 #[.pointer (some a), .bool true] u w fun e u' w' => u' = u ∧ (e = .returned (.tuple #[]) ∧ w' = w.drew.setCell a (.int .u32 1)) := by
  have hc' : w.drew.cell? a = some x := by go_simp
  have hz' : w.drew.frozen? a = false := by go_simp
  have hst := run_call_store (P := Try.prog) Try.func59 (by kernel_rfl) (by kernel_rfl) (by kernel_rfl) (by kernel_rfl) (k := .u32) (y := 1) hc' hz'
  go_enter_d Try.func56, Try.ntmps56
  go_wp2
  go_region_calls
  all_goals (go_end0; exact ⟨rfl, rfl⟩)

set_option maxRecDepth 100000 in
theorem unlock_deferred (a : Addr) (u : FrameMode) (w : World) (hc : w.cell? a = some (.int .i32 1)) (hz : w.frozen? a = false) :
    CallsD Try.prog 55 #[.pointer (some a)] u w fun e u' w' => u' = u ∧ (e = .returned (.tuple #[]) ∧ w' = w.setCell a (.int .i32 0)) := by
  have hd := disable
  have he := enable
  have hr := releaseMerge
  have hadd := run_call_add (P := Try.prog) Try.func67 (by kernel_rfl) (by kernel_rfl) (by kernel_rfl) .i32 (by kernel_rfl) (y := -1) (s := 0) hc hz (by simp [go_sem]; rfl)
  have hcv := run_convert_to_unsafe (P := Try.prog) (src := 104) (dst := 91) Try.underlying104 Try.underlying91 (by kernel_rfl) hc
  go_enter_d Try.func55, Try.ntmps55
  go_wp2
  go_end0
  go_wp2
  go_end0
  exact ⟨rfl, rfl⟩

set_option maxRecDepth 100000 in
theorem lock_free (a : Addr) (w : World) (hc : w.cell? a = some (.int .i32 0)) (hz : w.frozen? a = false) :
    Calls Try.prog 54 #[.pointer (some a)] w fun e w' => e = .returned (.tuple #[]) ∧ w' = w.setCell a (.int .i32 1) := by
  have hd := disable
  have he := enable
  have ha := acquire
  have hcas := run_call_cas_hit (P := Try.prog) Try.func62 (by kernel_rfl) (by kernel_rfl) (by kernel_rfl) .i32 (by kernel_rfl) (y := 1) hc hz
  have hc' : (w.setCell a (.int .i32 1)).cell? a = some (.int .i32 1) := World.cell?_setCell_same w a _ hc
  have hcv := run_convert_to_unsafe (P := Try.prog) (src := 104) (dst := 91) Try.underlying104 Try.underlying91 (by kernel_rfl) hc'
  go_enter Try.func54, Try.ntmps54
  go_wp2
  first | go_end0 | (simp only [Exit.inBlock, Exit.then]; refine bodyPost_ret (results_none rfl _ _ _) rfl ?_) | refine bodyPost_ret (results_none rfl _ _ _) rfl ?_
  go_wp2
  go_end0
  exact ⟨rfl, rfl⟩

/-- Nothing but block b has turned. -/
structure Only (b : Nat) (w w' : World) : Prop where
  os : w'.os = w.os
  tape : w'.tape = w.tape
  output : w'.output = w.output
  size : w'.heap.size = w.heap.size
  block : ∀ k, k ≠ b → w'.heap[k]? = w.heap[k]?

theorem Only.refl (b : Nat) (w : World) : Only b w w := ⟨rfl, rfl, rfl, rfl, fun _ _ => rfl⟩
theorem Only.trans {b : Nat} {u v w : World} (h : Only b u v) (k : Only b v w) : Only b u w :=
  ⟨k.os.trans h.os, k.tape.trans h.tape, k.output.trans h.output, k.size.trans h.size, fun i hi => (k.block i hi).trans (h.block i hi)⟩
theorem Only.drew {b : Nat} {u v : World} (h : Only b u v) : Only b u v.drew := ⟨h.os, h.tape, h.output, h.size, h.block⟩
theorem Only.setCell {b : Nat} {u v : World} (h : Only b u v) (a : Addr) (ha : a.block = b) (x : Value) : Only b u (v.setCell a x) :=
  h.trans ⟨rfl, rfl, rfl, by simp [World.setCell], fun k hk => Below.heap_setCell _ _ _ _ (by omega)⟩
theorem Only.below {b B : Nat} {w w' : World} (h : Only b w w') (hB : B ≤ b) : Below B w w' := ⟨h.os, h.tape, h.output, by rw [h.size]; exact Nat.le_refl _, fun k hk => h.block k (by omega)⟩
theorem Only.cell {b : Nat} {w w' : World} (h : Only b w w') {p : Addr} (hp : p.block ≠ b) : w'.cell? p = w.cell? p := World.cell?_of_block (w := w) (h.block p.block hp)
theorem Only.frozen {b : Nat} {w w' : World} (h : Only b w w') {p : Addr} (hp : p.block ≠ b) : w'.frozen? p = w.frozen? p := World.frozen?_of_block (w := w) (h.block p.block hp)

/-- The table in block b: its once's word, its lock's word, and its first k rows. -/
def TabK (w : World) (b : Nat) (d m : Int) (k : Nat) : Prop :=
  ∃ cur : Array Value, w.heap[b]? = some (.cells cur 88 (0, 0)) ∧ cur.size = 19 ∧ cur[0]? = some (.int .u32 d) ∧ cur[1]? = some (.int .i32 m) ∧ ∀ j, j < k → cur[3 + j]? = some (.int .u32 (dnK 4 j : Nat))

section
variable {w : World} {b : Nat} {d m : Int} {k : Nat}
theorem TabK.done (h : TabK w b d m k) : w.cell? ⟨b, 0, none⟩ = some (.int .u32 d) := by
  obtain ⟨cur, hb, _, h0, _⟩ := h
  rw [cell_of_row w b _ _ _ _ hb]; exact h0
theorem TabK.lock (h : TabK w b d m k) : w.cell? ⟨b, 1, none⟩ = some (.int .i32 m) := by
  obtain ⟨cur, hb, _, _, h0, _⟩ := h
  rw [cell_of_row w b _ _ _ _ hb]; exact h0
theorem TabK.row (h : TabK w b d m k) (j : Nat) (hj : j < k) : w.cell? ⟨b, 3 + j, none⟩ = some (.int .u32 (dnK 4 j : Nat)) := by
  obtain ⟨cur, hb, _, _, _, h0⟩ := h
  rw [cell_of_row w b _ _ _ _ hb]; exact h0 j hj
theorem TabK.some_ (h : TabK w b d m k) (i : Nat) (hi : i < 19) : ∃ v, w.cell? ⟨b, i, none⟩ = some v := by
  obtain ⟨cur, hb, hs, _⟩ := h
  rw [cell_of_row w b _ _ _ _ hb]; exact ⟨cur[i], by simp⟩
theorem TabK.free (h : TabK w b d m k) (i : Nat) : w.frozen? ⟨b, i, none⟩ = false := by
  obtain ⟨cur, hb, _⟩ := h
  simp [World.frozen?, hb]
theorem TabK.lt (h : TabK w b d m k) : b < w.heap.size := by
  obtain ⟨cur, hb, _⟩ := h
  exact (Array.getElem?_eq_some_iff.1 hb).1
theorem TabK.keep {w' : World} (h : TabK w b d m k) (e : w'.heap[b]? = w.heap[b]?) : TabK w' b d m k := by
  obtain ⟨cur, hb, r⟩ := h
  exact ⟨cur, e.trans hb, r⟩
theorem TabK.drew (h : TabK w b d m k) : TabK w.drew b d m k := h.keep rfl
theorem set_get {cur : Array Value} {i j : Nat} {x : Value} (hi : i < cur.size) : (cur.setIfInBounds i x)[j]? = if i = j then some x else cur[j]? := by
  rw [Array.getElem?_setIfInBounds]
  by_cases h : i = j
  · subst h; simp [hi]
  · simp [h]
theorem TabK.setRow (h : TabK w b d m k) (hk : k < 16) : TabK (w.setCell ⟨b, 3 + k, none⟩ (.int .u32 (dnK 4 k : Nat))) b d m (k + 1) := by
  obtain ⟨cur, hb, hs, h0, h1, hr⟩ := h
  refine ⟨_, heap_setCell_same w b _ cur 88 _ hb, by simpa using hs, ?_, ?_, fun j hj => ?_⟩
  · rw [set_get (by omega), if_neg (by omega)]; exact h0
  · rw [set_get (by omega), if_neg (by omega)]; exact h1
  · rw [set_get (by omega)]
    by_cases e : k = j
    · subst e; rw [if_pos rfl]
    · rw [if_neg (by omega)]; exact hr j (by omega)
theorem TabK.setDone (h : TabK w b d m k) (d' : Int) : TabK (w.setCell ⟨b, 0, none⟩ (.int .u32 d')) b d' m k := by
  obtain ⟨cur, hb, hs, h0, h1, hr⟩ := h
  refine ⟨_, heap_setCell_same w b _ cur 88 _ hb, by simpa using hs, ?_, ?_, fun j hj => ?_⟩
  · rw [set_get (by omega), if_pos rfl]
  · rw [set_get (by omega), if_neg (by omega)]; exact h1
  · rw [set_get (by omega), if_neg (by omega)]; exact hr j hj
theorem TabK.setLock (h : TabK w b d m k) (m' : Int) : TabK (w.setCell ⟨b, 1, none⟩ (.int .i32 m')) b d m' k := by
  obtain ⟨cur, hb, hs, h0, h1, hr⟩ := h
  refine ⟨_, heap_setCell_same w b _ cur 88 _ hb, by simpa using hs, ?_, ?_, fun j hj => ?_⟩
  · rw [set_get (by omega), if_neg (by omega)]; exact h0
  · rw [set_get (by omega), if_pos rfl]
  · rw [set_get (by omega), if_neg (by omega)]; exact hr j hj
end
end Go.Proofs.Ytibgimlfhpjeeaa.Crc
