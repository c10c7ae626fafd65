/- Contracts and plain mathematics that the statement's proof wants: no statement is proved here, nothing is assumed. -/
import Derived.Laws.IdiomStrings
import Derived.BigQuiet
import Derived.Test.YtnbbijpmkhdgpaaGreatMg00
/- WRTape -/
namespace Go.Proofs.YtnbbijpmkhdgpaaGreat.Wire
open Go.RowKit

theorem info5 : (Tryz.prog.info? 5).map (fun i => (i.zero, i.size, i.bytes)) = some (some (.int .u8 0), 1, 1) := by kernel_rfl

/-- Noughts. -/
def zeros (k : Nat) : List UInt8 := List.replicate k 0

theorem make_zeros (k : Nat) (hk : k ≤ 100000) (W : World) : (Instr.makeSlice 76 (.int .i64 (k : Nat)) (.int .i64 (k : Nat))).run Tryz.prog W = .ok (.slice (some ⟨W.heap.size, 0, none⟩) k k) (W.alloc (.cells (madeCells (Value.cells (.int .u8 0)) k) 5)) := by
  obtain ⟨i0, hi, hz0, hz1, hz2⟩ := info_parts info5
  have := run_make (P := Tryz.prog) W 76 5 i0 (.int .u8 0) Tryz.underlying76 hi hz0 .i64 .i64 (k : Nat) (k : Nat) (by omega) (by omega) (by rw [hz2]; omega) (by omega)
  rw [this, hz1]
  simp

theorem conv_zeros (k : Nat) (W : World) : (convert 76 9 (.slice (some ⟨W.heap.size, 0, none⟩) k k)).run Tryz.prog (W.alloc (.cells (madeCells #[.int .u8 0] k) 5)) = .ok (.string (strB (zeros k))) (W.alloc (.cells (madeCells #[.int .u8 0] k) 5)) := by
  have h0 := run_convert_bytes_back (P := Tryz.prog) (W.alloc (.cells (madeCells #[.int .u8 0] k) 5)) 76 9 5 ⟨W.heap.size, 0, none⟩ k (List.replicate k 0) Tryz.underlying76 Tryz.underlying5 Tryz.underlying9 ?_
  · simpa [strB, zeros] using h0
  · intro j hj
    have hj' : j < k := by simpa using hj
    rw [Addr.add_lit, cell_of_row _ _ _ _ _ _ (heap_alloc_new W _)]
    simp [madeCells, hj', Nat.mod_one]

set_option maxRecDepth 100000 in
set_option maxHeartbeats 1000000 in
theorem rtake_bad (b k : Nat) (l : List UInt8) (w : World) (ht : TP 139 w b ⟨l, true⟩) (hk : k ≤ 100000) :
    Calls Tryz.prog 122 #[.pointer (some ⟨b, 0, none⟩), .int .i64 (k : Nat)] w fun e w' => e = .returned (.string (strB (zeros k))) ∧ TP 139 w' b ⟨l, true⟩ ∧ But b w w' := by
  have c1 := ht.bad
  have f1 := ht.free 1
  have hmk := make_zeros k hk
  have hcv := conv_zeros k (w.setCell ⟨b, 1, none⟩ (.bool true))
  rw [show (w.setCell ⟨b, 1, none⟩ (.bool true)).heap.size = w.heap.size by simp] at hcv
  have HT := Lib.hid (fun o => (ht.setBad true).alloc o)
  clear ht
  go_enter Tryz.func122, Tryz.ntmps122
  go_wp2_with fail
  go_ret
  exact ⟨rfl, HT.out _, ((But.refl _ _).setCell _ _).alloc _⟩

set_option maxRecDepth 100000 in
set_option maxHeartbeats 1000000 in
theorem rtake_short (b k : Nat) (l : List UInt8) (w : World) (ht : TP 139 w b ⟨l, false⟩) (hl : l.length < k) (hk : k ≤ 100000) :
    Calls Tryz.prog 122 #[.pointer (some ⟨b, 0, none⟩), .int .i64 (k : Nat)] w fun e w' => e = .returned (.string (strB (zeros k))) ∧ TP 139 w' b ⟨l, true⟩ ∧ But b w w' := by
  have c0 := ht.rest
  have c1 := ht.bad
  have f1 := ht.free 1
  have g : ((strB l).size : Int) < k := by rw [strB_size]; omega
  have hmk := make_zeros k hk
  have hcv := conv_zeros k (w.setCell ⟨b, 1, none⟩ (.bool true))
  rw [show (w.setCell ⟨b, 1, none⟩ (.bool true)).heap.size = w.heap.size by simp] at hcv
  have HT := Lib.hid (fun o => (ht.setBad true).alloc o)
  clear ht hl
  go_enter Tryz.func122, Tryz.ntmps122
  go_wp2_with fail
  go_ret
  exact ⟨rfl, HT.out _, ((But.refl _ _).setCell _ _).alloc _⟩

set_option maxRecDepth 100000 in
set_option maxHeartbeats 1000000 in
theorem rtake_good (b k : Nat) (l : List UInt8) (w : World) (ht : TP 139 w b ⟨l, false⟩) (hk : k ≤ l.length) :
    Calls Tryz.prog 122 #[.pointer (some ⟨b, 0, none⟩), .int .i64 (k : Nat)] w fun e w' => e = .returned (.string (strB (l.take k))) ∧ TP 139 w' b ⟨l.drop k, false⟩ ∧ But b w w' := by
  have c0 := ht.rest
  have c1 := ht.bad
  have f0 := ht.free 0
  have g : ¬ ((strB l).size : Int) < k := by rw [strB_size]; omega
  have g2 : k ≤ (strB l).size := by rw [strB_size]; omega
  have E1 := Lib.hid (take_ext l k)
  have E2 := Lib.hid (drop_ext l k)
  have HT := Lib.hid (ht.setRest (l.drop k))
  clear ht hk
  go_enter Tryz.func122, Tryz.ntmps122
  go_wp2_with fail
  go_ret
  exact ⟨ret_str E1.out, by rw [E2.out]; exact HT.out, (But.refl _ _).setCell _ _⟩

theorem rtake_no (b k : Nat) (t : TK) (w : World) (ht : TP 139 w b t) (hg : good k t = false) (hk : k ≤ 100000) :
    Calls Tryz.prog 122 #[.pointer (some ⟨b, 0, none⟩), .int .i64 (k : Nat)] w fun e w' => e = .returned (.string (strB (zeros k))) ∧ TP 139 w' b ⟨t.rest, true⟩ ∧ But b w w' := by
  obtain ⟨l, bad⟩ := t
  cases bad with
  | true => exact rtake_bad b k l w ht hk
  | false => exact rtake_short b k l w ht (by simpa [good] using hg) hk

section
variable (b : Nat) (w : World)
theorem rtake2_no (t : TK) (ht : TP 139 w b t) (hg : good 2 t = false) :
    Calls Tryz.prog 122 #[.pointer (some ⟨b, 0, none⟩), .int .i64 2] w fun e w' => e = .returned (.string ⟨#[0, 0]⟩) ∧ TP 139 w' b ⟨t.rest, true⟩ ∧ But b w w' := rtake_no b 2 t w ht hg (by omega)
theorem rtake4_no (t : TK) (ht : TP 139 w b t) (hg : good 4 t = false) :
    Calls Tryz.prog 122 #[.pointer (some ⟨b, 0, none⟩), .int .i64 4] w fun e w' => e = .returned (.string ⟨#[0, 0, 0, 0]⟩) ∧ TP 139 w' b ⟨t.rest, true⟩ ∧ But b w w' := rtake_no b 4 t w ht hg (by omega)
theorem rtake2_yes (x y : UInt8) (r : List UInt8) (ht : TP 139 w b ⟨x :: y :: r, false⟩) :
    Calls Tryz.prog 122 #[.pointer (some ⟨b, 0, none⟩), .int .i64 2] w fun e w' => e = .returned (.string ⟨#[x, y]⟩) ∧ TP 139 w' b ⟨r, false⟩ ∧ But b w w' := rtake_good b 2 _ w ht (by simp)
theorem rtake4_yes (x y z u : UInt8) (r : List UInt8) (ht : TP 139 w b ⟨x :: y :: z :: u :: r, false⟩) :
    Calls Tryz.prog 122 #[.pointer (some ⟨b, 0, none⟩), .int .i64 4] w fun e w' => e = .returned (.string ⟨#[x, y, z, u]⟩) ∧ TP 139 w' b ⟨r, false⟩ ∧ But b w w' := rtake_good b 4 _ w ht (by simp)
end

theorem TP.drewN {ty : TypeId} {w : World} {b : Nat} {t : TK} (h : TP ty w b t) (n : Nat) : TP ty (w.drewN n) b t := h
theorem But.drewN {b : Nat} {u v : World} (h : But b u v) (n : Nat) : But b u (v.drewN n) := ⟨h.os, h.tape, h.output, h.size, h.block⟩

theorem ret_i {x y : Int} (h : y = x) : Ending.returned (.int .i64 x) = .returned (.int .i64 y) := by rw [h]

set_option maxRecDepth 100000 in
set_option maxHeartbeats 1600000 in
theorem rrtwo_no (b : Nat) (low high : Int) (t : TK) (w : World) (ht : TP 139 w b t) (hg : good 2 t = false) :
    Calls Tryz.prog 103 #[.pointer (some ⟨b, 0, none⟩), .int .i64 low, .int .i64 high] w fun e w' => e = .returned (.int .i64 0) ∧ TP 139 w' b ⟨t.rest, true⟩ ∧ But b w w' := by
  go_enter Tryz.func103, Tryz.ntmps103
  go_wp2_with fail
  (with_reducible refine (rtake2_no b _ t ht hg).mono ?_)
  rintro e w1 ⟨rfl, T1, B1⟩
  have c1 := T1.bad
  have f1 := T1.free 1
  have HT := Lib.hid T1
  have HB := Lib.hid B1
  clear T1 B1
  go_wp2_with fail
  go_quiet (fail)
  go_wp2_with fail
  go_ret
  exact ⟨rfl, (TP.drewN HT.out _).setBad _, (But.drewN HB.out _).setCell _ _⟩

set_option maxRecDepth 100000 in
set_option maxHeartbeats 1600000 in
theorem rrfour_no (b : Nat) (low high : Int) (t : TK) (w : World) (ht : TP 139 w b t) (hg : good 4 t = false) :
    Calls Tryz.prog 123 #[.pointer (some ⟨b, 0, none⟩), .int .i64 low, .int .i64 high] w fun e w' => e = .returned (.int .i64 0) ∧ TP 139 w' b ⟨t.rest, true⟩ ∧ But b w w' := by
  go_enter Tryz.func123, Tryz.ntmps123
  go_wp2_with fail
  (with_reducible refine (rtake4_no b _ t ht hg).mono ?_)
  rintro e w1 ⟨rfl, T1, B1⟩
  have c1 := T1.bad
  have f1 := T1.free 1
  have HT := Lib.hid T1
  have HB := Lib.hid B1
  clear T1 B1
  go_wp2_with fail
  go_quiet (fail)
  go_wp2_with fail
  go_ret
  exact ⟨rfl, (TP.drewN HT.out _).setBad _, (But.drewN HB.out _).setCell _ _⟩

set_option maxRecDepth 100000 in
set_option maxHeartbeats 1600000 in
theorem rrtwo_yes (b : Nat) (low high : Int) (x y : UInt8) (r : List UInt8) (w : World) (ht : TP 139 w b ⟨x :: y :: r, false⟩) :
    Calls Tryz.prog 103 #[.pointer (some ⟨b, 0, none⟩), .int .i64 low, .int .i64 high] w fun e w' => e = .returned (.int .i64 (numV 2 low high ⟨x :: y :: r, false⟩ : Nat)) ∧ TP 139 w' b (numS 2 low high ⟨x :: y :: r, false⟩) ∧ But b w w' := by
  have hi : inside 2 low high ⟨x :: y :: r, false⟩ = (decide (low ≤ (numL [x, y] : Int)) && decide ((numL [x, y] : Int) ≤ high)) := by
    unfold inside
    rw [good_yes (by simp), Bool.true_and]
    rfl
  have HV : Hid (∀ p, p = inside 2 low high ⟨x :: y :: r, false⟩ → numS 2 low high ⟨x :: y :: r, false⟩ = ⟨r, !p⟩) := by
    intro p hp
    subst hp
    unfold numS
    rw [good_yes (by simp), if_pos rfl]
    rfl
  have HN : Hid (numV 2 low high ⟨x :: y :: r, false⟩ = if inside 2 low high ⟨x :: y :: r, false⟩ then numL [x, y] else 0) := rfl
  have hnum : (numL [x, y] : Int) = (x.toNat : Int) * 256 + (y.toNat : Int) := by rw [numL_two]; omega
  rw [hnum] at hi
  have HI := Lib.hid hi
  have HNUM := Lib.hid hnum
  have hx : x.toNat < 256 := x.toNat_lt
  have hy : y.toNat < 256 := y.toNat_lt
  have a0 : ∀ h', (⟨#[x, y]⟩ : ByteArray)[0]'h' = x := fun _ => rfl
  have a1 : ∀ h', (⟨#[x, y]⟩ : ByteArray)[1]'h' = y := fun _ => rfl
  clear hnum hi
  go_enter Tryz.func103, Tryz.ntmps103
  go_wp2_with fail
  (with_reducible refine (rtake2_yes b _ x y r ht).mono ?_)
  rintro e w1 ⟨rfl, T1, B1⟩
  have c1 := T1.bad
  have f1 := T1.free 1
  have HT := Lib.hid T1
  have HB := Lib.hid B1
  clear T1 B1 ht
  go_wp2_with fail
  go_quiet (fail)
  by_cases h1 : (x.toNat : Int) * 256 + (y.toNat : Int) < low
  · have HF := Lib.hid (HI.out.trans (by rw [decide_eq_false (by omega), Bool.false_and] : _ = false))
    go_wp2_with fail
    go_ret
    exact ⟨ret_i (by rw [HN.out, HF.out]; rfl), by rw [HV.out false HF.out.symm]; exact (TP.drewN HT.out _).setBad _, (But.drewN HB.out _).setCell _ _⟩
  · by_cases h2 : high < (x.toNat : Int) * 256 + (y.toNat : Int)
    · have HF := Lib.hid (HI.out.trans (by rw [decide_eq_false (p := (x.toNat : Int) * 256 + (y.toNat : Int) ≤ high) (by omega), Bool.and_false] : _ = false))
      go_wp2_with fail
      go_ret
      exact ⟨ret_i (by rw [HN.out, HF.out]; rfl), by rw [HV.out false HF.out.symm]; exact (TP.drewN HT.out _).setBad _, (But.drewN HB.out _).setCell _ _⟩
    · have HF := Lib.hid (HI.out.trans (by rw [decide_eq_true (by omega), decide_eq_true (by omega)]; rfl : _ = true))
      go_wp2_with fail
      go_ret
      exact ⟨ret_i (by rw [HN.out, HF.out, if_pos rfl, HNUM.out]), by rw [HV.out true HF.out.symm]; exact TP.drewN HT.out _, But.drewN HB.out _⟩

set_option maxRecDepth 100000 in
set_option maxHeartbeats 1600000 in
theorem rrfour_yes (b : Nat) (low high : Int) (x y z u : UInt8) (r : List UInt8) (w : World) (ht : TP 139 w b ⟨x :: y :: z :: u :: r, false⟩) :
    Calls Tryz.prog 123 #[.pointer (some ⟨b, 0, none⟩), .int .i64 low, .int .i64 high] w fun e w' => e = .returned (.int .i64 (numV 4 low high ⟨x :: y :: z :: u :: r, false⟩ : Nat)) ∧ TP 139 w' b (numS 4 low high ⟨x :: y :: z :: u :: r, false⟩) ∧ But b w w' := by
  have hi : inside 4 low high ⟨x :: y :: z :: u :: r, false⟩ = (decide (low ≤ (numL [x, y, z, u] : Int)) && decide ((numL [x, y, z, u] : Int) ≤ high)) := by
    unfold inside
    rw [good_yes (by simp), Bool.true_and]
    rfl
  have HV : Hid (∀ p, p = inside 4 low high ⟨x :: y :: z :: u :: r, false⟩ → numS 4 low high ⟨x :: y :: z :: u :: r, false⟩ = ⟨r, !p⟩) := by
    intro p hp
    subst hp
    unfold numS
    rw [good_yes (by simp), if_pos rfl]
    rfl
  have HN : Hid (numV 4 low high ⟨x :: y :: z :: u :: r, false⟩ = if inside 4 low high ⟨x :: y :: z :: u :: r, false⟩ then numL [x, y, z, u] else 0) := rfl
  have hnum : (numL [x, y, z, u] : Int) = (x.toNat : Int) * 16777216 + (y.toNat : Int) * 65536 + (z.toNat : Int) * 256 + (u.toNat : Int) := by rw [numL_four]; omega
  rw [hnum] at hi
  have HI := Lib.hid hi
  have HNUM := Lib.hid hnum
  have hx : x.toNat < 256 := x.toNat_lt
  have hy : y.toNat < 256 := y.toNat_lt
  have hz : z.toNat < 256 := z.toNat_lt
  have hu : u.toNat < 256 := u.toNat_lt
  have a0 : ∀ h', (⟨#[x, y, z, u]⟩ : ByteArray)[0]'h' = x := fun _ => rfl
  have a1 : ∀ h', (⟨#[x, y, z, u]⟩ : ByteArray)[1]'h' = y := fun _ => rfl
  have a2 : ∀ h', (⟨#[x, y, z, u]⟩ : ByteArray)[2]'h' = z := fun _ => rfl
  have a3 : ∀ h', (⟨#[x, y, z, u]⟩ : ByteArray)[3]'h' = u := fun _ => rfl
  clear hnum hi
  go_enter Tryz.func123, Tryz.ntmps123
  go_wp2_with fail
  (with_reducible refine (rtake4_yes b _ x y z u r ht).mono ?_)
  rintro e w1 ⟨rfl, T1, B1⟩
  have c1 := T1.bad
  have f1 := T1.free 1
  have HT := Lib.hid T1
  have HB := Lib.hid B1
  clear T1 B1 ht
  go_wp2_with fail
  go_quiet (fail)
  by_cases h1 : (x.toNat : Int) * 16777216 + (y.toNat : Int) * 65536 + (z.toNat : Int) * 256 + (u.toNat : Int) < low
  · have HF := Lib.hid (HI.out.trans (by rw [decide_eq_false (by omega), Bool.false_and] : _ = false))
    go_wp2_with fail
    go_ret
    exact ⟨ret_i (by rw [HN.out, HF.out]; rfl), by rw [HV.out false HF.out.symm]; exact (TP.drewN HT.out _).setBad _, (But.drewN HB.out _).setCell _ _⟩
  · by_cases h2 : high < (x.toNat : Int) * 16777216 + (y.toNat : Int) * 65536 + (z.toNat : Int) * 256 + (u.toNat : Int)
    · have HF := Lib.hid (HI.out.trans (by rw [decide_eq_false (p := (x.toNat : Int) * 16777216 + (y.toNat : Int) * 65536 + (z.toNat : Int) * 256 + (u.toNat : Int) ≤ high) (by omega), Bool.and_false] : _ = false))
      go_wp2_with fail
      go_ret
      exact ⟨ret_i (by rw [HN.out, HF.out]; rfl), by rw [HV.out false HF.out.symm]; exact (TP.drewN HT.out _).setBad _, (But.drewN HB.out _).setCell _ _⟩
    · have HF := Lib.hid (HI.out.trans (by rw [decide_eq_true (by omega), decide_eq_true (by omega)]; rfl : _ = true))
      go_wp2_with fail
      go_ret
      exact ⟨ret_i (by rw [HN.out, HF.out, if_pos rfl, HNUM.out]), by rw [HV.out true HF.out.symm]; exact TP.drewN HT.out _, But.drewN HB.out _⟩

theorem rrtwo_calls (b : Nat) (low high : Int) (t : TK) (w : World) (ht : TP 139 w b t) :
    Calls Tryz.prog 103 #[.pointer (some ⟨b, 0, none⟩), .int .i64 low, .int .i64 high] w fun e w' => e = .returned (.int .i64 (numV 2 low high t : Nat)) ∧ TP 139 w' b (numS 2 low high t) ∧ But b w w' := by
  cases hg : good 2 t with
  | false =>
    have hi : inside 2 low high t = false := by unfold inside; rw [hg]; rfl
    have e1 : numV 2 low high t = 0 := by unfold numV; rw [hi]; rfl
    have e2 : numS 2 low high t = ⟨t.rest, true⟩ := by unfold numS; rw [hg]; rfl
    rw [e1, e2]
    exact rrtwo_no b low high t w ht hg
  | true =>
    obtain ⟨l, bad⟩ := t
    cases bad with
    | true => cases hg
    | false =>
      match l, hg, ht with
      | x :: y :: r, _, ht => exact rrtwo_yes b low high x y r w ht

theorem rrfour_calls (b : Nat) (low high : Int) (t : TK) (w : World) (ht : TP 139 w b t) :
    Calls Tryz.prog 123 #[.pointer (some ⟨b, 0, none⟩), .int .i64 low, .int .i64 high] w fun e w' => e = .returned (.int .i64 (numV 4 low high t : Nat)) ∧ TP 139 w' b (numS 4 low high t) ∧ But b w w' := by
  cases hg : good 4 t with
  | false =>
    have hi : inside 4 low high t = false := by unfold inside; rw [hg]; rfl
    have e1 : numV 4 low high t = 0 := by unfold numV; rw [hi]; rfl
    have e2 : numS 4 low high t = ⟨t.rest, true⟩ := by unfold numS; rw [hg]; rfl
    rw [e1, e2]
    exact rrfour_no b low high t w ht hg
  | true =>
    obtain ⟨l, bad⟩ := t
    cases bad with
    | true => cases hg
    | false =>
      match l, hg, ht with
      | x :: y :: z :: u :: r, _, ht => exact rrfour_yes b low high x y z u r w ht

end Go.Proofs.YtnbbijpmkhdgpaaGreat.Wire
