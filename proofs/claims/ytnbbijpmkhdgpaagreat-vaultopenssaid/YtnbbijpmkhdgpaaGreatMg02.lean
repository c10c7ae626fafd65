/- Contracts and plain mathematics that the statement's proof wants: no statement is proved here, nothing is assumed. -/
import Derived.WalkKit
import Derived.Laws.BitsAllLaws
import Derived.Lib.Hide
import Derived.Tactics
import Derived.Tactics2
import Derived.Defers
import Derived.Laws.Pointers
import Derived.Laws.LoneSync
import Derived.RegionTactic
import Derived.RegionCalls
import Derived.ChangeAlike
import Derived.Test.YtnbbijpmkhdgpaaGreatRows
import Derived.Laws.BytesArg
import Derived.Test.YtnbbijpmkhdgpaaGreatMg00
import Derived.Test.YtnbbijpmkhdgpaaGreatMg01
/- CFour -/
namespace Go.Proofs.YtnbbijpmkhdgpaaGreat.Crc
open Go.RowKit

theorem low_bit (x : Nat) (h : x < 4294967296) : bits .and .u32 (x : Int) 1 = ((x % 2 : Nat) : Int) := by
  have := u32_and_nat x 1 h (by omega)
  rw [Nat.and_one_is_mod] at this
  exact this

theorem xor_u32 (x y : Nat) (h : x < 4294967296) (hy : y < 4294967296) : bits .xor .u32 (x : Int) (y : Int) = ((x ^^^ y : Nat) : Int) := u32_xor_nat x y h hy

theorem xor_byte (x : Nat) (c : UInt8) (h : x < 4294967296) : bits .xor .u32 (x : Int) ((c.toNat : Int) % 4294967296) = ((x ^^^ c.toNat : Nat) : Int) := by
  have hc := c.toNat_lt
  rw [show ((c.toNat : Int) % 4294967296) = (c.toNat : Int) by omega]
  exact xor_u32 x c.toNat h (by omega)

theorem dn_odd {x : Nat} (h : x < 4294967296) (hb : (bits .and .u32 (x : Int) 1 == 1) = true) : bits .xor .u32 ((x : Int) / 2) 2197175160 = (dn x : Nat) := by
  rw [low_bit x h] at hb
  have hb' : x % 2 = 1 := by have := beq_iff_eq.1 hb; omega
  have := xor_u32 (x / 2) 2197175160 (by omega) (by omega)
  unfold dn
  rw [if_pos hb', ← this]
  rfl

theorem dn_even {x : Nat} (h : x < 4294967296) (hb : (bits .and .u32 (x : Int) 1 == 1) = false) : (x : Int) / 2 = (dn x : Nat) := by
  rw [low_bit x h] at hb
  have hb' : ¬ x % 2 = 1 := by
    intro h1
    rw [h1] at hb
    cases hb
  unfold dn
  rw [if_neg hb']
  omega

set_option maxRecDepth 100000 in
set_option maxHeartbeats 400000 in
theorem four_calls (n : Nat) (w : World) (hn : n < 4294967296) :
    Calls Tryz.prog 128 #[.int .u32 n] w fun e w' => e = .returned (.int .u32 (dnK 4 n : Nat)) ∧ w = w' := by
  go_enter Tryz.func128, Tryz.ntmps128
  go_wp2
  go_loop [0, 4] (fun m k => ∃ j : Nat, j ≤ 4 ∧ k = .int .i64 j ∧ m = .int .u32 (dnK j n : Nat)) (fun _ k => 4 - (intOf k).toNat)
  case atStart => exact ⟨0, Nat.zero_le _, rfl, rfl⟩
  case round =>
    obtain ⟨j, hj, rfl, rfl⟩ := hrel
    have hlt := dnK_lt j hn
    by_cases h : j < 4
    · have HS : Hid (dnK (j + 1) n = dn (dnK j n)) := dnK_succ j n
      go_wp2
      all_goals
        go_round
        case rel => exact ⟨j + 1, by omega, by go_num, by rw [HS.out]; first | rw [dn_odd hlt (by assumption)] | rw [dn_even hlt (by assumption)]⟩
        case measure => simp [intOf]; omega
    · go_wp2
      go_ret
      obtain rfl : j = 4 := by omega
      exact ⟨rfl, rfl⟩

theorem take_snoc (s : ByteArray) (k : Nat) (h : k < s.size) : s.data.toList.take (k + 1) = s.data.toList.take k ++ [s[k]] := by
  rw [List.take_succ_eq_append_getElem (by simpa using h)]; rfl

theorem reg_snoc (n : Nat) (s : ByteArray) (k : Nat) (h : k < s.size) : reg n (s.data.toList.take (k + 1)) = dnK 8 (reg n (s.data.toList.take k) ^^^ s[k].toNat) := by
  rw [take_snoc s k h, reg_app]; rfl

theorem reg_all (n : Nat) (s : ByteArray) (k : Nat) (h : k = s.size) : reg n (s.data.toList.take k) = reg n s.data.toList := by
  rw [List.take_of_length_le (by simp; omega)]

theorem not_u32 (x : Nat) (h : x < 4294967296) : bits .xor .u32 IntKind.u32.max (x : Int) = ((4294967295 ^^^ x : Nat) : Int) := xor_u32 4294967295 x (by omega) h

theorem not_reg (s : ByteArray) (k : Nat) (h : k = s.size) : bits .xor .u32 IntKind.u32.max ((reg 4294967295 (s.data.toList.take k) : Nat) : Int) = (crcN s.data.toList : Nat) := by
  rw [reg_all _ s k h, not_u32 _ (reg_lt _ (by omega))]; rfl

end Go.Proofs.YtnbbijpmkhdgpaaGreat.Crc

/- CSync -/
namespace Go.Proofs.YtnbbijpmkhdgpaaGreat.Crc
open Go.RowKit

theorem disable (w : World) : (callFunc 143 #[]).run Tryz.prog w = .ok (.value (.tuple #[])) w := run_call_mark0 Tryz.func143 (by kernel_rfl) (by kernel_rfl) (by kernel_rfl) .disable (by kernel_rfl) w
theorem enable (w : World) : (callFunc 145 #[]).run Tryz.prog w = .ok (.value (.tuple #[])) w := run_call_mark0 Tryz.func145 (by kernel_rfl) (by kernel_rfl) (by kernel_rfl) .enable (by kernel_rfl) w
theorem acquire (a : Addr) (w : World) : (callFunc 146 #[.pointer (some a)]).run Tryz.prog w = .ok (.value (.tuple #[])) w := run_call_marked Tryz.func146 (by kernel_rfl) (by kernel_rfl) (by kernel_rfl) .acquire (by kernel_rfl) a w
theorem releaseMerge (a : Addr) (w : World) : (callFunc 148 #[.pointer (some a)]).run Tryz.prog w = .ok (.value (.tuple #[])) w := run_call_marked Tryz.func148 (by kernel_rfl) (by kernel_rfl) (by kernel_rfl) .releaseMerge (by kernel_rfl) a w

set_option maxRecDepth 100000 in
theorem store_deferred (a : Addr) (x : Value) (u : FrameMode) (w : World) (hc : w.cell? a = some x) (hz : w.frozen? a = false) :
    CallsD Tryz.prog 138 #[.pointer (some a), .bool true] u w fun e u' w' => u' = u ∧ (e = .returned (.tuple #[]) ∧ w' = w.drew.setCell a (.int .u32 1)) := by
  have hc' : w.drew.cell? a = some x := by go_simp
  have hz' : w.drew.frozen? a = false := by go_simp
  have hst := run_call_store (P := Tryz.prog) Tryz.func141 (by kernel_rfl) (by kernel_rfl) (by kernel_rfl) (by kernel_rfl) (k := .u32) (y := 1) hc' hz'
  go_enter_d Tryz.func138, Tryz.ntmps138
  go_wp2
  go_region_calls
  all_goals (go_end0; exact ⟨rfl, rfl⟩)

set_option maxRecDepth 100000 in
theorem unlock_deferred (a : Addr) (u : FrameMode) (w : World) (hc : w.cell? a = some (.int .i32 1)) (hz : w.frozen? a = false) :
    CallsD Tryz.prog 137 #[.pointer (some a)] u w fun e u' w' => u' = u ∧ (e = .returned (.tuple #[]) ∧ w' = w.setCell a (.int .i32 0)) := by
  have hd := disable
  have he := enable
  have hr := releaseMerge
  have hadd := run_call_add (P := Tryz.prog) Tryz.func149 (by kernel_rfl) (by kernel_rfl) (by kernel_rfl) .i32 (by kernel_rfl) (y := -1) (s := 0) hc hz (by simp [go_sem]; rfl)
  have hcv := run_convert_to_unsafe (P := Tryz.prog) (src := 185) (dst := 172) Tryz.underlying185 Tryz.underlying172 (by kernel_rfl) hc
  go_enter_d Tryz.func137, Tryz.ntmps137
  go_wp2
  go_end0
  go_wp2
  go_end0
  exact ⟨rfl, rfl⟩

set_option maxRecDepth 100000 in
theorem lock_free (a : Addr) (w : World) (hc : w.cell? a = some (.int .i32 0)) (hz : w.frozen? a = false) :
    Calls Tryz.prog 136 #[.pointer (some a)] w fun e w' => e = .returned (.tuple #[]) ∧ w' = w.setCell a (.int .i32 1) := by
  have hd := disable
  have he := enable
  have ha := acquire
  have hcas := run_call_cas_hit (P := Tryz.prog) Tryz.func144 (by kernel_rfl) (by kernel_rfl) (by kernel_rfl) .i32 (by kernel_rfl) (y := 1) hc hz
  have hc' : (w.setCell a (.int .i32 1)).cell? a = some (.int .i32 1) := World.cell?_setCell_same w a _ hc
  have hcv := run_convert_to_unsafe (P := Tryz.prog) (src := 185) (dst := 172) Tryz.underlying185 Tryz.underlying172 (by kernel_rfl) hc'
  go_enter Tryz.func136, Tryz.ntmps136
  go_wp2
  first | go_end0 | (simp only [Exit.inBlock, Exit.then]; refine bodyPost_ret (results_none rfl _ _ _) rfl ?_) | refine bodyPost_ret (results_none rfl _ _ _) rfl ?_
  go_wp2
  go_end0
  exact ⟨rfl, rfl⟩

/-- Nothing but block b has turned. -/
structure Only (b : Nat) (w w' : World) : Prop where
  os : w'.os = w.os
  tape : w'.tape = w.tape
  output : w'.output = w.output
  size : w'.heap.size = w.heap.size
  block : ∀ k, k ≠ b → w'.heap[k]? = w.heap[k]?

theorem Only.refl (b : Nat) (w : World) : Only b w w := ⟨rfl, rfl, rfl, rfl, fun _ _ => rfl⟩
theorem Only.trans {b : Nat} {u v w : World} (h : Only b u v) (k : Only b v w) : Only b u w :=
  ⟨k.os.trans h.os, k.tape.trans h.tape, k.output.trans h.output, k.size.trans h.size, fun i hi => (k.block i hi).trans (h.block i hi)⟩
theorem Only.drew {b : Nat} {u v : World} (h : Only b u v) : Only b u v.drew := ⟨h.os, h.tape, h.output, h.size, h.block⟩
theorem Only.setCell {b : Nat} {u v : World} (h : Only b u v) (a : Addr) (ha : a.block = b) (x : Value) : Only b u (v.setCell a x) :=
  h.trans ⟨rfl, rfl, rfl, by simp [World.setCell], fun k hk => Below.heap_setCell _ _ _ _ (by omega)⟩
theorem Only.below {b B : Nat} {w w' : World} (h : Only b w w') (hB : B ≤ b) : Below B w w' := ⟨h.os, h.tape, h.output, by rw [h.size]; exact Nat.le_refl _, fun k hk => h.block k (by omega)⟩
theorem Only.cell {b : Nat} {w w' : World} (h : Only b w w') {p : Addr} (hp : p.block ≠ b) : w'.cell? p = w.cell? p := World.cell?_of_block (w := w) (h.block p.block hp)
theorem Only.frozen {b : Nat} {w w' : World} (h : Only b w w') {p : Addr} (hp : p.block ≠ b) : w'.frozen? p = w.frozen? p := World.frozen?_of_block (w := w) (h.block p.block hp)

/-- The table in block b: its once's word, its lock's word, and its first k rows. -/
def TabK (w : World) (b : Nat) (d m : Int) (k : Nat) : Prop :=
  ∃ cur : Array Value, w.heap[b]? = some (.cells cur 169 (0, 0)) ∧ cur.size = 19 ∧ cur[0]? = some (.int .u32 d) ∧ cur[1]? = some (.int .i32 m) ∧ ∀ j, j < k → cur[3 + j]? = some (.int .u32 (dnK 4 j : Nat))

section
variable {w : World} {b : Nat} {d m : Int} {k : Nat}
theorem TabK.done (h : TabK w b d m k) : w.cell? ⟨b, 0, none⟩ = some (.int .u32 d) := by
  obtain ⟨cur, hb, _, h0, _⟩ := h
  rw [cell_of_row w b _ _ _ _ hb]; exact h0
theorem TabK.lock (h : TabK w b d m k) : w.cell? ⟨b, 1, none⟩ = some (.int .i32 m) := by
  obtain ⟨cur, hb, _, _, h0, _⟩ := h
  rw [cell_of_row w b _ _ _ _ hb]; exact h0
theorem TabK.row (h : TabK w b d m k) (j : Nat) (hj : j < k) : w.cell? ⟨b, 3 + j, none⟩ = some (.int .u32 (dnK 4 j : Nat)) := by
  obtain ⟨cur, hb, _, _, _, h0⟩ := h
  rw [cell_of_row w b _ _ _ _ hb]; exact h0 j hj
theorem TabK.some_ (h : TabK w b d m k) (i : Nat) (hi : i < 19) : ∃ v, w.cell? ⟨b, i, none⟩ = some v := by
  obtain ⟨cur, hb, hs, _⟩ := h
  rw [cell_of_row w b _ _ _ _ hb]; exact ⟨cur[i], by simp⟩
theorem TabK.free (h : TabK w b d m k) (i : Nat) : w.frozen? ⟨b, i, none⟩ = false := by
  obtain ⟨cur, hb, _⟩ := h
  simp [World.frozen?, hb]
theorem TabK.lt (h : TabK w b d m k) : b < w.heap.size := by
  obtain ⟨cur, hb, _⟩ := h
  exact (Array.getElem?_eq_some_iff.1 hb).1
theorem TabK.keep {w' : World} (h : TabK w b d m k) (e : w'.heap[b]? = w.heap[b]?) : TabK w' b d m k := by
  obtain ⟨cur, hb, r⟩ := h
  exact ⟨cur, e.trans hb, r⟩
theorem TabK.drew (h : TabK w b d m k) : TabK w.drew b d m k := h.keep rfl
theorem set_get {cur : Array Value} {i j : Nat} {x : Value} (hi : i < cur.size) : (cur.setIfInBounds i x)[j]? = if i = j then some x else cur[j]? := by
  rw [Array.getElem?_setIfInBounds]
  by_cases h : i = j
  · subst h; simp [hi]
  · simp [h]
theorem TabK.setRow (h : TabK w b d m k) (hk : k < 16) : TabK (w.setCell ⟨b, 3 + k, none⟩ (.int .u32 (dnK 4 k : Nat))) b d m (k + 1) := by
  obtain ⟨cur, hb, hs, h0, h1, hr⟩ := h
  refine ⟨_, heap_setCell_same w b _ cur 169 _ hb, by simpa using hs, ?_, ?_, fun j hj => ?_⟩
  · rw [set_get (by omega), if_neg (by omega)]; exact h0
  · rw [set_get (by omega), if_neg (by omega)]; exact h1
  · rw [set_get (by omega)]
    by_cases e : k = j
    · subst e; rw [if_pos rfl]
    · rw [if_neg (by omega)]; exact hr j (by omega)
theorem TabK.setDone (h : TabK w b d m k) (d' : Int) : TabK (w.setCell ⟨b, 0, none⟩ (.int .u32 d')) b d' m k := by
  obtain ⟨cur, hb, hs, h0, h1, hr⟩ := h
  refine ⟨_, heap_setCell_same w b _ cur 169 _ hb, by simpa using hs, ?_, ?_, fun j hj => ?_⟩
  · rw [set_get (by omega), if_pos rfl]
  · rw [set_get (by omega), if_neg (by omega)]; exact h1
  · rw [set_get (by omega), if_neg (by omega)]; exact hr j hj
theorem TabK.setLock (h : TabK w b d m k) (m' : Int) : TabK (w.setCell ⟨b, 1, none⟩ (.int .i32 m')) b d m' k := by
  obtain ⟨cur, hb, hs, h0, h1, hr⟩ := h
  refine ⟨_, heap_setCell_same w b _ cur 169 _ hb, by simpa using hs, ?_, ?_, fun j hj => ?_⟩
  · rw [set_get (by omega), if_neg (by omega)]; exact h0
  · rw [set_get (by omega), if_pos rfl]
  · rw [set_get (by omega), if_neg (by omega)]; exact hr j hj
end
end Go.Proofs.YtnbbijpmkhdgpaaGreat.Crc

/- CRFour -/
namespace Go.Proofs.YtnbbijpmkhdgpaaGreat.Crc
open Go.RowKit

set_option maxRecDepth 100000 in
set_option maxHeartbeats 1000000 in
theorem ref_of (s : ByteArray) (w : World) (hs : s.size ≤ maxLen) :
    Calls Tryz.prog 86 #[.string s] w fun e w' => e = .returned (.int .u32 (crcN s.data.toList : Nat)) ∧ w = w' := by
  unfold maxLen at hs
  go_enter Tryz.func86, Tryz.ntmps86
  go_wp2
  go_loop [3, 4] (fun n i => ∃ k : Nat, k ≤ s.size ∧ i = .int .i64 k ∧ n = .int .u32 (reg 4294967295 (s.data.toList.take k) : Nat)) (fun _ i => s.size - (intOf i).toNat)
  case atStart => exact ⟨0, Nat.zero_le _, rfl, rfl⟩
  case round =>
    obtain ⟨k, hk, rfl, rfl⟩ := hrel
    have hlt := reg_lt (n := 4294967295) (s.data.toList.take k) (by omega)
    by_cases h : k < s.size
    · have HS := Lib.hid (reg_snoc 4294967295 s k h)
      have hx := xor_byte (reg 4294967295 (s.data.toList.take k)) s[k] hlt
      have hx2 : reg 4294967295 (s.data.toList.take k) ^^^ s[k].toNat < 4294967296 := Nat.xor_lt_two_pow (n := 32) hlt (by have := s[k].toNat_lt; omega)
      generalize reg 4294967295 (s.data.toList.take k) = x at *
      go_wp2
      go_loop [3, 5] (fun m i => ∃ j : Nat, j ≤ 8 ∧ i = .int .i64 j ∧ m = .int .u32 (dnK j (x ^^^ s[k].toNat) : Nat)) (fun _ i => 8 - (intOf i).toNat)
      case atStart => exact ⟨0, Nat.zero_le _, rfl, rfl⟩
      case round =>
        obtain ⟨j, hj, rfl, rfl⟩ := hrel
        have hl2 := dnK_lt j hx2
        clear hx
        by_cases h8 : j < 8
        · have HT : Hid (dnK (j + 1) (x ^^^ s[k].toNat) = dn (dnK j (x ^^^ s[k].toNat))) := dnK_succ j _
          go_wp2
          all_goals
            go_round
            case rel => exact ⟨j + 1, by omega, by go_num, by rw [HT.out]; first | rw [dn_odd hl2 (by assumption)] | rw [dn_even hl2 (by assumption)]⟩
            case measure => simp [intOf]; omega
        · obtain rfl : j = 8 := by omega
          go_wp2
          go_round
          case rel => exact ⟨k + 1, by omega, by go_num, by rw [HS.out]⟩
          case measure => simp [intOf]; omega
    · go_wp2
      go_ret
      exact ⟨ret_int (by rw [not_reg s k (by omega)]), rfl⟩
end Go.Proofs.YtnbbijpmkhdgpaaGreat.Crc

/- WRWr -/
namespace Go.Proofs.YtnbbijpmkhdgpaaGreat.Wire
open Go.RowKit

set_option maxRecDepth 100000 in
set_option maxHeartbeats 1000000 in
theorem rtwo_calls (n : Int) (w : World) :
    Calls Tryz.prog 47 #[.int .i64 n] w fun e w' => e = .returned (.string (strB (twoL n))) ∧ Below w.heap.size w w' := by
  have hcv := conv2 n
  go_enter Tryz.func47, Tryz.ntmps47
  go_wp2_with fail
  go_ret
  exact ⟨rfl, (Below.refl _ _).alloc (Nat.le_refl _) _⟩

set_option maxRecDepth 100000 in
set_option maxHeartbeats 1000000 in
theorem rfour_calls (n : Int) (w : World) :
    Calls Tryz.prog 49 #[.int .i64 n] w fun e w' => e = .returned (.string (strB (fourL n))) ∧ Below w.heap.size w w' := by
  have hz : ¬ 9223372036854775807 < (strB (twoL (n / 65536))).size + (strB (twoL n)).size := by rw [strB_size, strB_size, twoL_len, twoL_len]; omega
  go_enter Tryz.func49, Tryz.ntmps49
  go_wp2_with fail
  (with_reducible refine (rtwo_calls (n / 65536) _).mono ?_)
  rintro e w1 ⟨rfl, hB1⟩
  go_wp2_with fail
  (with_reducible refine (rtwo_calls n _).mono ?_)
  rintro e w2 ⟨rfl, hB2⟩
  go_wp2_with fail
  go_ret
  exact ⟨ret_str (two_two n), below_two hB1 hB2⟩

end Go.Proofs.YtnbbijpmkhdgpaaGreat.Wire
