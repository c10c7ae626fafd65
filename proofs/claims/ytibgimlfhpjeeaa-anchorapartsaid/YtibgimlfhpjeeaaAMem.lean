/- Shapes in memory; what the calls on them do: Right, Log, Place, Size, Print, the document's too. No statement is proved here. -/
import Derived.Test.YtibgimlfhpjeeaaAPlain
import Derived.Test.YtibgimlfhpjeeaaShelf
import Derived.Test.YtibgimlfhpjeeaaCRSeal
import Derived.Test.YtibgimlfhpjeeaaWRWr
import Derived.Test.YtibgimlfhpjeeaaWRTape
import Derived.Test.YtibgimlfhpjeeaaNStr
import Derived.Lib.QuietBelow
import Derived.BigQuiet
import Derived.BigRegion
import Derived.Deep.QuietTactic
namespace Go.Proofs.Ytibgimlfhpjeeaa
open Go.RowKit Go.Sort
open Wire (TK TP But twoL)
open Crc (sealB Only)

def shV (x : Sh) : Value := .agg #[.int .i64 x.pages, .int .i64 x.journal]

/-- A box that holds a shape. -/
def SBox (w : World) (g : Nat) (x : Sh) : Prop := w.heap[g]? = some (.cells #[.int .i64 x.pages, .int .i64 x.journal] 23 (0, 0))
section
variable {w w' : World} {g : Nat} {x : Sh}
theorem SBox.c0 (h : SBox w g x) : w.cell? ⟨g, 0, none⟩ = some (.int .i64 x.pages) := by rw [cell_of_row w g _ _ _ _ h]; rfl
theorem SBox.c1 (h : SBox w g x) : w.cell? ⟨g, 1, none⟩ = some (.int .i64 x.journal) := by rw [cell_of_row w g _ _ _ _ h]; rfl
theorem SBox.lt (h : SBox w g x) : g < w.heap.size := (Array.getElem?_eq_some_iff.1 h).1
theorem SBox.keep (h : SBox w g x) (e : w'.heap[g]? = w.heap[g]?) : SBox w' g x := e.trans h
theorem SBox.below (h : SBox w g x) (hb : Below w.heap.size w w') : SBox w' g x := (hb.block g h.lt).trans h
theorem SBox.but {b : Nat} (h : SBox w g x) (hb : But b w w') (hg : g ≠ b) : SBox w' g x := h.keep (hb.block g h.lt hg)
theorem SBox.only {b : Nat} (h : SBox w g x) (hb : Only b w w') (hg : g ≠ b) : SBox w' g x := h.keep (hb.block g hg)
theorem SBox.new (w : World) (x : Sh) : SBox (w.alloc (.cells #[.int .i64 x.pages, .int .i64 x.journal] 23)) w.heap.size x := heap_alloc_new w _
theorem SBox.free (h : SBox w g x) (i : Nat) : w.frozen? ⟨g, i, none⟩ = false := by unfold SBox at h; simp [World.frozen?, h]
theorem SBox.setPages (h : SBox w g x) (n : Int) : SBox (w.setCell ⟨g, 0, none⟩ (.int .i64 n)) g { x with pages := n } := heap_setCell_same w g 0 _ 23 _ h
theorem SBox.setJournal (h : SBox w g x) (n : Int) : SBox (w.setCell ⟨g, 1, none⟩ (.int .i64 n)) g { x with journal := n } := heap_setCell_same w g 1 _ 23 _ h
end

/-- The world behind the store of a whole shape, under a name of its own. -/
theorem store2 {w : World} {g : Nat} {x0 : Sh} (h : SBox w g x0) (x : Sh) :
    ∃ w2, (w.setCell ⟨g, 0, none⟩ (.int .i64 x.pages)).setCell ⟨g, 1, none⟩ (.int .i64 x.journal) = w2 ∧ SBox w2 g x ∧ Only g w w2 := by
  refine ⟨_, rfl, ?_, ((Only.refl g w).setCell _ rfl _).setCell _ rfl _⟩
  exact (h.setPages x.pages).setJournal x.journal
theorem Only.after {g : Nat} {u v w : World} (h : Below u.heap.size u v) (k : Only g v w) (hg : u.heap.size ≤ g) : Below u.heap.size u w := h.trans (k.below hg)

/-- A contract that lays blocks, in a world of the class. -/
theorem rg {f : FuncId} {args : Array Value} {v : Value} (h : ∀ W, Calls Try.prog f args W fun e w' => e = .returned v ∧ Below W.heap.size W w') (Y : World) :
    ∀ d os, Calls Try.prog f args (grow (redrawn Y d) os) fun e w'' => e = .returned v ∧ ∃ p : Regrown, w'' = grow (redrawn Y p.d) p.os :=
  fun _ _ => Calls.regrown_of (h _)
theorem rg0 {f : FuncId} {args : Array Value} {v : Value} (h : ∀ W, Calls Try.prog f args W fun e w' => e = .returned v ∧ w' = W) (Y : World) :
    ∀ d os, Calls Try.prog f args (grow (redrawn Y d) os) fun e w'' => e = .returned v ∧ ∃ p : Regrown, w'' = grow (redrawn Y p.d) p.os :=
  fun d os => (h _).mono fun _ _ ⟨he, hw⟩ => ⟨he, ⟨d, os⟩, hw⟩

theorem repeat_zer (n : Nat) : Lib.repeatL [0] n = zer n := by
  induction n with
  | zero => rfl
  | succ n ih => unfold Lib.repeatL; rw [ih]; rfl

theorem rep_calls (n : Nat) (w : World) (hn : n ≤ 1000) :
    Calls Try.prog 23 #[.string ⟨#[0]⟩, .int .i64 (n : Nat)] w fun e w' => e = .returned (.string (strB (zer n))) ∧ Below w.heap.size w w' := by
  have h := Try.strings_Repeat ⟨#[0]⟩ n w (by omega) (by show 1 * n ≤ _; omega)
  rw [show (⟨#[0]⟩ : ByteArray).data.toList = [0] from rfl, repeat_zer] at h
  exact h

set_option maxRecDepth 100000 in
set_option maxHeartbeats 8000000 in
theorem right_calls (x : Sh) (w : World) :
    Calls Try.prog 7 #[shV x] w fun e w' => e = .returned (.bool (rightS x)) ∧ Below w.heap.size w w' := by
  unfold shV
  by_cases h0 : 16 ≤ x.pages
  rotate_left
  · have E : Hid (false = rightS x) := Lib.hid (by unfold rightS; simp [*])
    go_enter Try.func7, Try.ntmps7
    go_wp2_with fail
    go_ret
    exact ⟨ret_bool E.out, below_one _ _⟩
  by_cases h1 : x.pages ≤ 512
  rotate_left
  · have E : Hid (false = rightS x) := Lib.hid (by unfold rightS; simp [*])
    go_enter Try.func7, Try.ntmps7
    go_wp2_with fail
    go_ret
    exact ⟨ret_bool E.out, below_one _ _⟩
  by_cases h2 : 8 ≤ x.journal
  rotate_left
  · have E : Hid (false = rightS x) := Lib.hid (by unfold rightS; simp [*])
    go_enter Try.func7, Try.ntmps7
    go_wp2_with fail
    go_ret
    exact ⟨ret_bool E.out, below_one _ _⟩
  by_cases h3 : x.journal ≤ 256
  rotate_left
  · have E : Hid (false = rightS x) := Lib.hid (by unfold rightS; simp [*])
    go_enter Try.func7, Try.ntmps7
    go_wp2_with fail
    go_ret
    exact ⟨ret_bool E.out, below_one _ _⟩
  · have E : Hid (true = rightS x) := Lib.hid (by unfold rightS; simp [*])
    go_enter Try.func7, Try.ntmps7
    go_wp2_with fail
    go_ret
    exact ⟨ret_bool E.out, below_one _ _⟩

set_option maxRecDepth 100000 in
set_option maxHeartbeats 8000000 in
theorem rright_calls (x : Sh) (w : World) :
    Calls Try.prog 10 #[shV x] w fun e w' => e = .returned (.bool (rightS x)) ∧ Below w.heap.size w w' := by
  unfold shV
  by_cases h0 : 16 ≤ x.pages
  rotate_left
  · have E : Hid (false = rightS x) := Lib.hid (by unfold rightS; simp [*])
    go_enter Try.func10, Try.ntmps10
    go_wp2_with fail
    go_ret
    exact ⟨ret_bool E.out, below_one _ _⟩
  by_cases h1 : x.pages ≤ 512
  rotate_left
  · have E : Hid (false = rightS x) := Lib.hid (by unfold rightS; simp [*])
    go_enter Try.func10, Try.ntmps10
    go_wp2_with fail
    go_ret
    exact ⟨ret_bool E.out, below_one _ _⟩
  by_cases h2 : 8 ≤ x.journal
  rotate_left
  · have E : Hid (false = rightS x) := Lib.hid (by unfold rightS; simp [*])
    go_enter Try.func10, Try.ntmps10
    go_wp2_with fail
    go_ret
    exact ⟨ret_bool E.out, below_one _ _⟩
  by_cases h3 : x.journal ≤ 256
  rotate_left
  · have E : Hid (false = rightS x) := Lib.hid (by unfold rightS; simp [*])
    go_enter Try.func10, Try.ntmps10
    go_wp2_with fail
    go_ret
    exact ⟨ret_bool E.out, below_one _ _⟩
  · have E : Hid (true = rightS x) := Lib.hid (by unfold rightS; simp [*])
    go_enter Try.func10, Try.ntmps10
    go_wp2_with fail
    go_ret
    exact ⟨ret_bool E.out, below_one _ _⟩

/-- Sectors' numbers, cut to what an int holds. -/
def logN (n : Int) : Int := wrap64 (1 + n)
def placeN (x : Sh) (n : Int) : Int := wrap64 (logN x.journal + n)

set_option maxHeartbeats 8000000 in
theorem log_calls (n : Int) (w : World) : Calls Try.prog 15 #[.int .i64 n] w fun e w' => e = .returned (.int .i64 (logN n)) ∧ w' = w := by
  go_enter Try.func15, Try.ntmps15
  go_wp2_with fail
  go_ret
  exact ⟨rfl, rfl⟩
set_option maxHeartbeats 8000000 in
theorem rlog_calls (n : Int) (w : World) : Calls Try.prog 16 #[.int .i64 n] w fun e w' => e = .returned (.int .i64 (logN n)) ∧ w' = w := by
  go_enter Try.func16, Try.ntmps16
  go_wp2_with fail
  go_ret
  exact ⟨rfl, rfl⟩
set_option maxHeartbeats 8000000 in
theorem place_calls (x : Sh) (n : Int) (w : World) : Calls Try.prog 17 #[shV x, .int .i64 n] w fun e w' => e = .returned (.int .i64 (placeN x n)) ∧ Below w.heap.size w w' := by
  unfold shV
  go_enter Try.func17, Try.ntmps17
  go_wp2_with fail
  (with_reducible refine (log_calls _ _).mono ?_)
  rintro e w1 ⟨rfl, rfl⟩
  go_wp2_with fail
  go_ret
  exact ⟨rfl, below_one _ _⟩
set_option maxHeartbeats 8000000 in
theorem rplace_calls (x : Sh) (n : Int) (w : World) : Calls Try.prog 18 #[shV x, .int .i64 n] w fun e w' => e = .returned (.int .i64 (placeN x n)) ∧ Below w.heap.size w w' := by
  unfold shV
  go_enter Try.func18, Try.ntmps18
  go_wp2_with fail
  go_ret
  exact ⟨rfl, below_one _ _⟩
set_option maxHeartbeats 8000000 in
theorem size_calls (x : Sh) (w : World) : Calls Try.prog 13 #[shV x] w fun e w' => e = .returned (.int .i64 (placeN x x.pages)) ∧ Below w.heap.size w w' := by
  have CP := Lib.hid (fun W => place_calls x x.pages W)
  unfold shV at CP
  unfold shV
  go_enter Try.func13, Try.ntmps13
  go_wp2_with fail
  (with_reducible refine (CP.out _).mono ?_)
  rintro e w1 ⟨rfl, hB⟩
  go_wp2_with fail
  go_ret
  exact ⟨rfl, below_trans' (below_one _ _) hB⟩
set_option maxHeartbeats 8000000 in
theorem rsize_calls (x : Sh) (w : World) : Calls Try.prog 14 #[shV x] w fun e w' => e = .returned (.int .i64 (placeN x x.pages)) ∧ Below w.heap.size w w' := by
  unfold shV
  go_enter Try.func14, Try.ntmps14
  go_wp2_with fail
  go_ret
  exact ⟨rfl, below_one _ _⟩

theorem str_head (x : Sh) : (⟨#[65, 82, 67, 72, 73, 86, 69, 49]⟩ : ByteArray) ++ strB (twoL x.pages) ++ strB (twoL x.journal) = strB (headL x) := by
  rw [show (⟨#[65, 82, 67, 72, 73, 86, 69, 49]⟩ : ByteArray) = strB archK from rfl]
  simp only [strB_append, headL, restL, List.append_assoc]

set_option maxRecDepth 100000 in
set_option maxHeartbeats 8000000 in
theorem print_calls (x : Sh) (w : World) :
    Calls Try.prog 11 #[shV x] w fun e w' => e = .returned (.string (strB (printL x))) ∧ Below w.heap.size w w' := by
  obtain ⟨Y, hY, hbY, hBY⟩ : ∃ Y, Y = w.alloc (.cells #[.int .i64 x.pages, .int .i64 x.journal] 23) ∧ SBox Y w.heap.size x ∧ Below w.heap.size w Y := ⟨_, rfl, SBox.new _ _, below_one _ _⟩
  have k0 := fun d os => cell_regrown hbY.c0 d os
  have k1 := fun d os => cell_regrown hbY.c1 d os
  have C4 := Lib.hid (rg (Wire.two_calls x.pages) Y)
  have C5 := Lib.hid (rg (Wire.two_calls x.journal) Y)
  have HY := Lib.hid hY
  have HB := Lib.hid hBY
  have HH := Lib.hid (str_head x)
  have g4 : (strB (twoL x.pages)).size ≤ 4 := by rw [strB_size, Wire.twoL_len]; omega
  have g5 : (strB (twoL x.journal)).size ≤ 4 := by rw [strB_size, Wire.twoL_len]; omega
  have hsz : (strB (headL x)).size = 12 := by rw [strB_size, headL_len]
  have hz : (strB (zer 240)).size = 240 := by rw [strB_size, zer_len]
  have CR : Hid (∀ W, Calls Try.prog 23 #[.string ⟨#[0]⟩, .int .i64 240] W fun e w' => e = .returned (.string (strB (zer 240))) ∧ Below W.heap.size W w') := Lib.hid (fun W => rep_calls 240 W (by omega))
  have hf : strB (headL x) ++ strB (zer 240) = strB (fillL x) := by rw [strB_append]; rfl
  have HS := Lib.hid (Crc.seal_calls (strB (headL x) ++ strB (zer 240)))
  rw [hf, strB_data, ← hf] at HS
  have HF : Hid ((strB (headL x) ++ strB (zer 240)).size ≤ 9223372036854775000) := Lib.hid (by rw [hf, strB_size, fillL_len]; omega)
  clear hY hbY hBY hf
  unfold shV
  go_enter Try.func11, Try.ntmps11
  go_wp2_with fail
  rw [← HY.out]
  refine wp_region_quiet_below (by kernel_rfl) (by kernel_rfl) ?_
  (try simp only [List.append_eq, List.cons_append, List.nil_append])
  repeat (first | go_big_quiet_step (first | (with_reducible exact C4.out _ _) | (with_reducible exact C5.out _ _)))
  refine wpQuiet_nil ?_
  intro _ hw'
  obtain ⟨⟨dq, osq⟩, hw''⟩ := hw'
  subst hw''
  dsimp only
  rw [HH.out]
  have HB2 := Lib.hid (Below.trans HB.out ((below_regrown Y dq osq).mono HB.out.size))
  generalize grow (redrawn Y dq) osq = W1 at *
  clear k0 k1 g4 g5
  go_wp2_with fail
  (with_reducible refine (CR.out _).mono ?_)
  rintro e w2 ⟨rfl, hB2⟩
  go_wp2_with fail
  (with_reducible refine (HS.out _ HF.out).mono ?_)
  rintro e w3 ⟨rfl, hB3⟩
  go_wp2_with fail
  go_ret
  exact ⟨rfl, below_trans' (below_trans' HB2.out hB2) hB3⟩

set_option maxRecDepth 100000 in
set_option maxHeartbeats 8000000 in
theorem rprint_calls (x : Sh) (w : World) :
    Calls Try.prog 12 #[shV x] w fun e w' => e = .returned (.string (strB (printL x))) ∧ Below w.heap.size w w' := by
  obtain ⟨Y, hY, hbY, hBY⟩ : ∃ Y, Y = w.alloc (.cells #[.int .i64 x.pages, .int .i64 x.journal] 23) ∧ SBox Y w.heap.size x ∧ Below w.heap.size w Y := ⟨_, rfl, SBox.new _ _, below_one _ _⟩
  have k0 := fun d os => cell_regrown hbY.c0 d os
  have k1 := fun d os => cell_regrown hbY.c1 d os
  have C4 := Lib.hid (rg (Wire.rtwo_calls x.pages) Y)
  have C5 := Lib.hid (rg (Wire.rtwo_calls x.journal) Y)
  have HY := Lib.hid hY
  have HB := Lib.hid hBY
  have HH := Lib.hid (str_head x)
  have g4 : (strB (twoL x.pages)).size ≤ 4 := by rw [strB_size, Wire.twoL_len]; omega
  have g5 : (strB (twoL x.journal)).size ≤ 4 := by rw [strB_size, Wire.twoL_len]; omega
  have hsz : (strB (headL x)).size = 12 := by rw [strB_size, headL_len]
  have hz : (strB (zer 240)).size = 240 := by rw [strB_size, zer_len]
  have hmk : ∀ W : World, (Instr.makeSlice 35 (.int .i64 240) (.int .i64 240)).run Try.prog W = .ok (.slice (some ⟨W.heap.size, 0, none⟩) 240 240) (W.alloc (.cells (madeCells #[.int .u8 0] 240) 5)) := Wire.make_zeros 240 (by omega)
  have hc : ∀ W : World, (convert 35 9 (.slice (some ⟨W.heap.size, 0, none⟩) 240 240)).run Try.prog (W.alloc (.cells (madeCells #[.int .u8 0] 240) 5)) = .ok (.string (strB (zer 240))) (W.alloc (.cells (madeCells #[.int .u8 0] 240) 5)) := Wire.conv_zeros 240
  have hf : strB (headL x) ++ strB (zer 240) = strB (fillL x) := by rw [strB_append]; rfl
  have HS := Lib.hid (Crc.ref_seal (strB (headL x) ++ strB (zer 240)))
  rw [hf, strB_data, ← hf] at HS
  have HF : Hid ((strB (headL x) ++ strB (zer 240)).size ≤ 9223372036854775000) := Lib.hid (by rw [hf, strB_size, fillL_len]; omega)
  clear hY hbY hBY hf
  unfold shV
  go_enter Try.func12, Try.ntmps12
  go_wp2_with fail
  rw [← HY.out]
  refine wp_region_quiet_below (by kernel_rfl) (by kernel_rfl) ?_
  (try simp only [List.append_eq, List.cons_append, List.nil_append])
  repeat (first | go_big_quiet_step (first | (with_reducible exact C4.out _ _) | (with_reducible exact C5.out _ _)))
  refine wpQuiet_nil ?_
  intro _ hw'
  obtain ⟨⟨dq, osq⟩, hw''⟩ := hw'
  subst hw''
  dsimp only
  rw [HH.out]
  have HB2 := Lib.hid (Below.trans HB.out ((below_regrown Y dq osq).mono HB.out.size))
  generalize grow (redrawn Y dq) osq = W1 at *
  clear k0 k1 g4 g5
  go_wp2_with fail
  (with_reducible refine (HS.out _ HF.out).mono ?_)
  rintro e w3 ⟨rfl, hB3⟩
  go_wp2_with fail
  go_ret
  exact ⟨rfl, below_trans' (below_trans' HB2.out (below_one _ _)) hB3⟩

end Go.Proofs.Ytibgimlfhpjeeaa
