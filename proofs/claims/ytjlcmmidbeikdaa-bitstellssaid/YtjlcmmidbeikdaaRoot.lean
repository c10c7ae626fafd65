/- bits.Root, SetRoot, and the document's: what each call does. No statement is proved here. -/
import Derived.Test.YtjlcmmidbeikdaaRow
import Derived.Laws.BytesArg
import Derived.BigRegion
import Derived.Deep.RegionWith
namespace Go.Proofs.Ytjlcmmidbeikdaa
open Go.RowKit Go.Sort

theorem ix_run (l : List UInt8) (k : Nat) (hk : k < l.length) (W : World) : (Instr.index 9 (.string (strB l)) (.int .i64 (k : Nat))).run Try.prog W = .ok (.int .u8 ((l.getD k 0).toNat : Nat)) W := by
  have hs := strB_size l
  rw [run_index_string (P := Try.prog) W 9 (strB l) .i64 _ Try.underlying9, dif_pos ⟨by omega, by omega⟩]
  have hx := at_strB l k (by omega)
  simp only [Int.toNat_natCast, hx]

theorem i64_or_small (a b : Nat) (ha : a < 4294967296) (hb : b < 4294967296) : bits .or .i64 (a : Int) (b : Int) = ((a ||| b : Nat) : Int) := by
  have hx : a ||| b < 2 ^ 32 := Nat.or_lt_two_pow (by omega) (by omega)
  show IntKind.i64.wrap ((BitVec.ofInt 64 (a : Int) ||| BitVec.ofInt 64 (b : Int)).toNat : Int) = _
  rw [BitVec.toNat_or, ofInt_u64 a (by omega), ofInt_u64 b (by omega), wrap_small _ (by omega) (by omega)]
theorem root_or (a b : Nat) (ha : a < 2 ^ 8) (hb : b < 2 ^ 8) : bits .or .i64 ((a : Int) * 256) (b : Int) = ((a * 256 + b : Nat) : Int) := by
  rw [show (a : Int) * 256 = ((a * 256 : Nat) : Int) by omega, i64_or_small _ _ (by omega) (by omega)]
  have := Nat.two_pow_add_eq_or_of_lt (i := 8) (b := b) hb a
  rw [show a * 256 = 2 ^ 8 * a by omega, ← this]

set_option maxRecDepth 100000 in
set_option maxHeartbeats 2000000 in
theorem root_calls (l : List UInt8) (w : World) (hl : l.length ≤ 300) :
    Calls Try.prog 19 #[.string (strB l)] w fun e w' => e = .returned (.int .i64 (rootN l : Nat)) ∧ Below w.heap.size w w' := by
  have hs := strB_size l
  by_cases h : l.length < 66
  · have HF : Hid (rootN l = 0) := Lib.hid (by unfold rootN; rw [if_pos h])
    have g : (l.length : Int) < 66 := by omega
    go_enter Try.func19, Try.ntmps19
    go_wp2_with fail
    go_ret
    exact ⟨ret_int (by rw [HF.out]; rfl), Below.refl _ _⟩
  · have HF : Hid (rootN l = (l.getD 64 0).toNat * 256 + (l.getD 65 0).toNat) := Lib.hid (by unfold rootN; rw [if_neg h])
    have g : ¬ (l.length : Int) < 66 := by omega
    have i0 : ∀ W, (Instr.index 9 (.string (strB l)) (.int .i64 64)).run Try.prog W = .ok (.int .u8 ((l.getD 64 0).toNat : Nat)) W := fun W => ix_run l 64 (by omega) W
    have i1 : ∀ W, (Instr.index 9 (.string (strB l)) (.int .i64 65)).run Try.prog W = .ok (.int .u8 ((l.getD 65 0).toNat : Nat)) W := fun W => ix_run l 65 (by omega) W
    obtain ⟨a, ha⟩ : ∃ a, a = l.getD 64 0 := ⟨_, rfl⟩
    obtain ⟨b, hb⟩ : ∃ b, b = l.getD 65 0 := ⟨_, rfl⟩
    rw [← ha, ← hb] at HF
    rw [← ha] at i0
    rw [← hb] at i1
    have hal := a.toNat_lt
    have hbl := b.toNat_lt
    clear ha hb
    go_enter Try.func19, Try.ntmps19
    go_wp2_with fail
    go_quiet (fail)
    go_wp2_with fail
    go_ret
    refine ⟨ret_int ?_, bdrewN (Below.refl _ _) _⟩
    rw [HF.out]
    rw [root_or _ _ hal hbl]

set_option maxRecDepth 100000 in
set_option maxHeartbeats 2000000 in
theorem rroot_calls (l : List UInt8) (w : World) (hl : l.length ≤ 300) :
    Calls Try.prog 20 #[.string (strB l)] w fun e w' => e = .returned (.int .i64 (rootN l : Nat)) ∧ Below w.heap.size w w' := by
  have hs := strB_size l
  by_cases h : l.length < 66
  · have HF : Hid (rootN l = 0) := Lib.hid (by unfold rootN; rw [if_pos h])
    have g : (l.length : Int) < 66 := by omega
    go_enter Try.func20, Try.ntmps20
    go_wp2_with fail
    go_ret
    exact ⟨ret_int (by rw [HF.out]; rfl), Below.refl _ _⟩
  · have HF : Hid (rootN l = (l.getD 64 0).toNat * 256 + (l.getD 65 0).toNat) := Lib.hid (by unfold rootN; rw [if_neg h])
    have g : ¬ (l.length : Int) < 66 := by omega
    have i0 : ∀ W, (Instr.index 9 (.string (strB l)) (.int .i64 64)).run Try.prog W = .ok (.int .u8 ((l.getD 64 0).toNat : Nat)) W := fun W => ix_run l 64 (by omega) W
    have i1 : ∀ W, (Instr.index 9 (.string (strB l)) (.int .i64 65)).run Try.prog W = .ok (.int .u8 ((l.getD 65 0).toNat : Nat)) W := fun W => ix_run l 65 (by omega) W
    obtain ⟨a, ha⟩ : ∃ a, a = l.getD 64 0 := ⟨_, rfl⟩
    obtain ⟨b, hb⟩ : ∃ b, b = l.getD 65 0 := ⟨_, rfl⟩
    rw [← ha, ← hb] at HF
    rw [← ha] at i0
    rw [← hb] at i1
    have hal := a.toNat_lt
    have hbl := b.toNat_lt
    clear ha hb
    go_enter Try.func20, Try.ntmps20
    go_wp2_with fail
    go_quiet (fail)
    go_wp2_with fail
    go_ret
    refine ⟨ret_int ?_, bdrewN (Below.refl _ _) _⟩
    rw [HF.out]
    omega

theorem cut_lo (l : List UInt8) (h : 66 ≤ l.length) (W : World) : (Instr.slice 9 (.string (strB l)) none (some (.int .i64 64)) none).run Try.prog W = .ok (.string (strB (l.take 64))) W := by
  have hs := strB_size l
  have := run_slice_string_h (P := Try.prog) W 9 (strB l) Try.underlying9 .i64 64 (by omega) (by omega)
  rw [this, show ((64 : Int).toNat) = 64 from rfl, strB_extract]
  rfl
theorem cut_hi (l : List UInt8) (h : 66 ≤ l.length) (W : World) : (Instr.slice 9 (.string (strB l)) (some (.int .i64 66)) none none).run Try.prog W = .ok (.string (strB (l.drop 66))) W := by
  have hs := strB_size l
  have := run_slice_string_l (P := Try.prog) W 9 (strB l) Try.underlying9 .i64 66 (by omega) (by omega)
  rw [this, show ((66 : Int).toNat) = 66 from rfl, strB_extract, hs, List.take_length]
/-- Two bytes laid anew, as a string. -/
theorem conv2 (a b : UInt8) (w : World) : (convert 44 9 (.slice (some ⟨w.heap.size, 0, none⟩) 2 2)).run Try.prog (w.alloc (.cells #[.int .u8 (a.toNat : Nat), .int .u8 (b.toNat : Nat)] 5)).drew = .ok (.string (strB [a, b])) (w.alloc (.cells #[.int .u8 (a.toNat : Nat), .int .u8 (b.toNat : Nat)] 5)).drew := by
  refine run_convert_bytes_back _ 44 9 5 ⟨w.heap.size, 0, none⟩ 2 [a, b] Try.underlying44 Try.underlying5 Try.underlying9 fun j hj => ?_
  have hp : (⟨w.heap.size, 0, none⟩ : Addr).add j = ⟨w.heap.size, j, none⟩ := by unfold Addr.add; split <;> simp_all
  rw [hp]
  have hc : (w.alloc (.cells #[.int .u8 (a.toNat : Nat), .int .u8 (b.toNat : Nat)] 5)).cell? ⟨w.heap.size, j, none⟩ = _ := cell_of_row _ _ _ _ _ _ (heap_alloc_new w _)
  refine Eq.trans hc ?_
  match j, hj with
  | 0, _ => rfl
  | 1, _ => rfl
theorem byte_of (n : Nat) : IntKind.u8.wrap (n : Int) = ((UInt8.ofNat (n % 256)).toNat : Nat) := by
  rw [IntKind.wrap_u8', UInt8.toNat_ofNat']
  omega
theorem byte_hi (n : Nat) (h : n < 512) : IntKind.u8.wrap ((n : Int) / 256) = ((UInt8.ofNat (n / 256)).toNat : Nat) := by
  rw [IntKind.wrap_u8', UInt8.toNat_ofNat']
  omega

theorem setR_no (l : List UInt8) (no : Int) (h : l.length < 66 ∨ no < 0 ∨ 512 ≤ no) : setR l no = l := by unfold setR; rw [if_pos h]

set_option maxRecDepth 100000 in
set_option maxHeartbeats 2000000 in
theorem setRoot_no (l : List UInt8) (no : Int) (w : World) (hl : l.length ≤ 300) (h : l.length < 66 ∨ no < 0 ∨ 512 ≤ no) :
    Calls Try.prog 21 #[.string (strB l), .int .i64 no] w fun e w' => e = .returned (.string (strB (setR l no))) ∧ Below w.heap.size w w' := by
  have hs := strB_size l
  rw [setR_no l no h]
  by_cases h1 : l.length < 66
  · have g1 : (l.length : Int) < 66 := by omega
    go_enter Try.func21, Try.ntmps21
    go_wp2_with fail
    go_ret
    exact ⟨rfl, Below.refl _ _⟩
  · have g1 : ¬ (l.length : Int) < 66 := by omega
    by_cases h2 : no < 0
    · go_enter Try.func21, Try.ntmps21
      go_wp2_with fail
      go_ret
      exact ⟨rfl, Below.refl _ _⟩
    · have h3 : 512 ≤ no := by omega
      go_enter Try.func21, Try.ntmps21
      go_wp2_with fail
      go_ret
      exact ⟨rfl, Below.refl _ _⟩

set_option maxRecDepth 100000 in
set_option maxHeartbeats 2000000 in
theorem setRoot_yes (l : List UInt8) (no : Nat) (w : World) (hl : l.length ≤ 300) (h : 66 ≤ l.length) (hn : no < 512) :
    Calls Try.prog 21 #[.string (strB l), .int .i64 (no : Nat)] w fun e w' => e = .returned (.string (strB (setR l no))) ∧ Below w.heap.size w w' := by
  have hs := strB_size l
  have g1 : ¬ (l.length : Int) < 66 := by omega
  have s1 := cut_lo l h
  have s2 := cut_hi l h
  have g2 : ¬ (no : Int) < 0 := by omega
  have g3 : ¬ (512 : Int) ≤ (no : Int) := by omega
  have b1 := byte_hi no hn
  have b2 := byte_of no
  have HF : Hid (setR l (no : Int) = l.take 64 ++ [UInt8.ofNat (no / 256), UInt8.ofNat (no % 256)] ++ l.drop 66) := Lib.hid (by unfold setR; rw [if_neg (by omega), Int.toNat_natCast])
  generalize UInt8.ofNat (no / 256) = a at *
  generalize UInt8.ofNat (no % 256) = b at *
  have cv := conv2 a b w
  have z1 : ¬ 9223372036854775807 < (strB (l.take 64)).size + (strB [a, b]).size := by rw [strB_size, strB_size, List.length_take]; simp only [List.length_cons, List.length_nil]; omega
  have a1 := strB_append (l.take 64) [a, b]
  have z2 : ¬ 9223372036854775807 < (strB (l.take 64 ++ [a, b])).size + (strB (l.drop 66)).size := by rw [strB_size, strB_size, List.length_append, List.length_take, List.length_drop]; simp only [List.length_cons, List.length_nil]; omega
  have a2 := strB_append (l.take 64 ++ [a, b]) (l.drop 66)
  have A2 := Lib.hid a2
  clear a2
  go_enter Try.func21, Try.ntmps21
  go_wp2_with fail
  go_region_with (fail)
  go_wp2_with fail
  go_ret
  exact ⟨ret_str (by rw [HF.out]; exact A2.out), (below_one _ _).drew⟩
theorem setRoot_calls (l : List UInt8) (no : Int) (w : World) (hl : l.length ≤ 300) :
    Calls Try.prog 21 #[.string (strB l), .int .i64 no] w fun e w' => e = .returned (.string (strB (setR l no))) ∧ Below w.heap.size w w' := by
  by_cases h : l.length < 66 ∨ no < 0 ∨ 512 ≤ no
  · exact setRoot_no l no w hl h
  · obtain ⟨n, rfl⟩ := Int.eq_ofNat_of_zero_le (show 0 ≤ no by omega)
    exact setRoot_yes l n w hl (by omega) (by omega)
set_option maxRecDepth 100000 in
set_option maxHeartbeats 2000000 in
theorem rsetRoot_no (l : List UInt8) (no : Int) (w : World) (hl : l.length ≤ 300) (h : l.length < 66 ∨ no < 0 ∨ 512 ≤ no) :
    Calls Try.prog 22 #[.string (strB l), .int .i64 no] w fun e w' => e = .returned (.string (strB (setR l no))) ∧ Below w.heap.size w w' := by
  have hs := strB_size l
  rw [setR_no l no h]
  by_cases h1 : l.length < 66
  · have g1 : (l.length : Int) < 66 := by omega
    go_enter Try.func22, Try.ntmps22
    go_wp2_with fail
    go_ret
    exact ⟨rfl, Below.refl _ _⟩
  · have g1 : ¬ (l.length : Int) < 66 := by omega
    by_cases h2 : no < 0
    · go_enter Try.func22, Try.ntmps22
      go_wp2_with fail
      go_ret
      exact ⟨rfl, Below.refl _ _⟩
    · have h3 : 512 ≤ no := by omega
      go_enter Try.func22, Try.ntmps22
      go_wp2_with fail
      go_ret
      exact ⟨rfl, Below.refl _ _⟩

set_option maxRecDepth 100000 in
set_option maxHeartbeats 2000000 in
theorem rsetRoot_yes (l : List UInt8) (no : Nat) (w : World) (hl : l.length ≤ 300) (h : 66 ≤ l.length) (hn : no < 512) :
    Calls Try.prog 22 #[.string (strB l), .int .i64 (no : Nat)] w fun e w' => e = .returned (.string (strB (setR l no))) ∧ Below w.heap.size w w' := by
  have hs := strB_size l
  have g1 : ¬ (l.length : Int) < 66 := by omega
  have s1 := cut_lo l h
  have s2 := cut_hi l h
  have g2 : ¬ (no : Int) < 0 := by omega
  have g3 : ¬ (512 : Int) ≤ (no : Int) := by omega
  have b1 := byte_hi no hn
  have b2 := byte_of no
  have HF : Hid (setR l (no : Int) = l.take 64 ++ [UInt8.ofNat (no / 256), UInt8.ofNat (no % 256)] ++ l.drop 66) := Lib.hid (by unfold setR; rw [if_neg (by omega), Int.toNat_natCast])
  generalize UInt8.ofNat (no / 256) = a at *
  generalize UInt8.ofNat (no % 256) = b at *
  have cv := conv2 a b w
  have z1 : ¬ 9223372036854775807 < (strB (l.take 64)).size + (strB [a, b]).size := by rw [strB_size, strB_size, List.length_take]; simp only [List.length_cons, List.length_nil]; omega
  have a1 := strB_append (l.take 64) [a, b]
  have z2 : ¬ 9223372036854775807 < (strB (l.take 64 ++ [a, b])).size + (strB (l.drop 66)).size := by rw [strB_size, strB_size, List.length_append, List.length_take, List.length_drop]; simp only [List.length_cons, List.length_nil]; omega
  have a2 := strB_append (l.take 64 ++ [a, b]) (l.drop 66)
  have A2 := Lib.hid a2
  clear a2
  have hw66 : IntKind.i64.wrap 66 = 66 := rfl
  go_enter Try.func22, Try.ntmps22
  go_wp2_with fail
  go_region_with (fail)
  go_wp2_with fail
  go_ret
  exact ⟨ret_str (by rw [HF.out]; exact A2.out), (below_one _ _).drew⟩
theorem rsetRoot_calls (l : List UInt8) (no : Int) (w : World) (hl : l.length ≤ 300) :
    Calls Try.prog 22 #[.string (strB l), .int .i64 no] w fun e w' => e = .returned (.string (strB (setR l no))) ∧ Below w.heap.size w w' := by
  by_cases h : l.length < 66 ∨ no < 0 ∨ 512 ≤ no
  · exact rsetRoot_no l no w hl h
  · obtain ⟨n, rfl⟩ := Int.eq_ofNat_of_zero_le (show 0 ≤ no by omega)
    exact rsetRoot_yes l n w hl (by omega) (by omega)
end Go.Proofs.Ytjlcmmidbeikdaa
