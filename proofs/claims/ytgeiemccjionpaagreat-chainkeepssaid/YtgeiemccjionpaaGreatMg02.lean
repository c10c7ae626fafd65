/- Contracts and plain mathematics that the statement's proof wants: no statement is proved here, nothing is assumed. -/
import Derived.StillTailTactics
import Derived.Deep.RegionWith
import Derived.Laws.NewBlocks
import Derived.Laws.BytesArg
import Derived.Test.YtgeiemccjionpaaGreatMg01
/- CFill -/
namespace Go.Proofs.YtgeiemccjionpaaGreat.Crc
open Go.RowKit

set_option maxRecDepth 100000 in
set_option maxHeartbeats 1000000 in
theorem fill_calls (b : Nat) (p q : Addr) (d m : Int) (w : World) (hp : w.cell? p = some (.func (.func 113) #[] #[])) (hq : w.cell? q = some (.pointer (some ⟨b, 0, none⟩)))
    (hpb : p.block ≠ b) (hqb : q.block ≠ b) (ht : TabK w b d m 0) :
    Calls Tryz.prog 115 #[.pointer (some p), .pointer (some q)] w fun e w' => e = .returned (.tuple #[]) ∧ Only b w w' ∧ TabK w' b d m 16 := by
  go_enter Tryz.func115, Tryz.ntmps115
  go_wp2
  go_loopw [3] (fun i wr => ∃ k : Nat, k ≤ 16 ∧ i = .int .i64 k ∧ Only b w wr ∧ TabK wr b d m k) (fun i _ => 16 - (intOf i).toNat)
  case atStart => exact ⟨0, Nat.zero_le _, rfl, Only.refl _ _, ht⟩
  case round =>
    obtain ⟨k, hk, rfl, hO, hT⟩ := hrel
    by_cases h : k < 16
    · have c1 := (hO.cell hpb).trans hp
      have c2 := (hO.cell hqb).trans hq
      obtain ⟨x, c3⟩ := hT.some_ (3 + k) (by omega)
      have c4 := hT.free (3 + k)
      have HO := Lib.hid hO
      have HT := Lib.hid hT
      clear hO hT hp hq ht
      go_wp2
      have hm : IntKind.u32.wrap (k : Int) = k := by rw [IntKind.wrap_u32']; omega
      go_region_with (first | (go_at_call 113; (with_reducible refine (four_calls k _ (by omega)).mono ?_); rintro e w' ⟨rfl, rfl⟩))
      all_goals
        go_wp2
        go_roundw
        case rel => exact ⟨k + 1, by omega, by go_num, (HO.out.setCell _ rfl _).drew, (HT.out.setRow h).drew⟩
        case measure => simp [intOf]; omega
    · go_wp2
      go_end0
      obtain rfl : k = 16 := by omega
      exact ⟨rfl, hO, hT⟩

set_option maxRecDepth 100000 in
set_option maxHeartbeats 1600000 in
theorem slow_calls (b : Nat) (p q : Addr) (w : World) (hp : w.cell? p = some (.func (.func 113) #[] #[])) (hq : w.cell? q = some (.pointer (some ⟨b, 0, none⟩)))
    (hpb : p.block ≠ b) (hqb : q.block ≠ b) (ht : TabK w b 0 0 0) :
    Calls Tryz.prog 117 #[.pointer (some ⟨b, 0, none⟩), .func (.func 115) #[] #[.pointer (some p), .pointer (some q)]] w fun e w' => e = .returned (.tuple #[]) ∧ Only b w w' ∧ TabK w' b 1 0 16 := by
  have ht1 := ht.setLock 1
  have hO1 := (Only.refl b w).setCell ⟨b, 1, none⟩ rfl (.int .i32 1)
  have c0 := ht.lock
  have f0 := ht.free 1
  have hl := run_call_load (P := Tryz.prog) Tryz.func118 (by kernel_rfl) (by kernel_rfl) (by kernel_rfl) .u32 (by kernel_rfl) (w := w.setCell ⟨b, 1, none⟩ (.int .i32 1)) (a := ⟨b, 0, none⟩) (x := 0) ht1.done
  have hp1 := (hO1.cell hpb).trans hp
  have hq1 := (hO1.cell hqb).trans hq
  have hnot : ∀ (x : Bool) (w : World), (Op.unary .not (.bool x)).run Tryz.prog w = .ok (.bool (!x)) w := fun _ _ => rfl
  have HT := Lib.hid ht1
  have HO := Lib.hid hO1
  have HP := Lib.hid hp1
  have HQ := Lib.hid hq1
  clear ht1 hO1 hp1 hq1 hp hq ht
  go_enter_defers Tryz.func117, Tryz.ntmps117
  go_wp2_with (first | (go_at_call 119; (with_reducible refine (lock_free ⟨b, 1, none⟩ _ (by go_simp) (by go_simp)).mono ?_); rintro e w' ⟨rfl, rfl⟩) | (go_at_call 116; go_in) | (go_at_call 115; (with_reducible refine (fill_calls b p q 0 1 _ HP.out HQ.out hpb hqb HT.out).mono ?_); rintro e w' ⟨rfl, hO2, hT2⟩))
  have hT3 := hT2.drew.setDone 1
  have hT4 := hT3.setLock 0
  refine leaves_cons (f := 121) (args := #[.pointer (some ⟨b, 0, none⟩), .bool true]) (by simp) (by simp [go_sem]) ?_
  refine (store_deferred ⟨b, 0, none⟩ (.int .u32 0) .returning _ hT2.done (hT2.free 0)).mono ?_
  rintro e u' w'' ⟨rfl, rfl, rfl⟩
  refine leaves_cons (f := 120) (args := #[.pointer (some ⟨b, 1, none⟩)]) (by simp [settle]) (by simp [go_sem]) ?_
  refine (unlock_deferred ⟨b, 1, none⟩ _ _ hT3.lock (hT3.free 1)).mono ?_
  rintro e u' w'' ⟨rfl, rfl, rfl⟩
  have hO5 := HO.out.trans ((hO2.drew.setCell ⟨b, 0, none⟩ rfl (.int .u32 1)).setCell ⟨b, 1, none⟩ rfl (.int .i32 0))
  simp [Leaves, settle, results, Tryz.results117]
  exact ⟨hO5, hT4⟩

set_option maxRecDepth 100000 in
set_option maxHeartbeats 1600000 in
theorem do_first (b : Nat) (p q : Addr) (w : World) (hp : w.cell? p = some (.func (.func 113) #[] #[])) (hq : w.cell? q = some (.pointer (some ⟨b, 0, none⟩)))
    (hpb : p.block ≠ b) (hqb : q.block ≠ b) (ht : TabK w b 0 0 0) :
    Calls Tryz.prog 114 #[.pointer (some ⟨b, 0, none⟩), .func (.func 115) #[] #[.pointer (some p), .pointer (some q)]] w fun e w' => e = .returned (.tuple #[]) ∧ Only b w w' ∧ TabK w' b 1 0 16 := by
  have hl := run_call_load (P := Tryz.prog) Tryz.func118 (by kernel_rfl) (by kernel_rfl) (by kernel_rfl) .u32 (by kernel_rfl) ht.done
  have hnot : ∀ (x : Bool) (w : World), (Op.unary .not (.bool x)).run Tryz.prog w = .ok (.bool (!x)) w := fun _ _ => rfl
  have HS := Lib.hid (slow_calls b p q w hp hq hpb hqb ht)
  clear hp hq ht
  go_enter Tryz.func114, Tryz.ntmps114
  go_wp2_with (first | (go_at_call 117; (with_reducible refine HS.out.mono ?_); rintro e w' ⟨rfl, hO2, hT2⟩) | (go_at_call 116; go_in))
  go_end0
  exact ⟨rfl, hO2, hT2⟩

theorem do_done (b : Nat) (fv : Value) (w : World) (ht : TabK w b 1 0 16) :
    Calls Tryz.prog 114 #[.pointer (some ⟨b, 0, none⟩), fv] w fun e w' => e = .returned (.tuple #[]) ∧ w = w' := by
  have hl := run_call_load (P := Tryz.prog) Tryz.func118 (by kernel_rfl) (by kernel_rfl) (by kernel_rfl) .u32 (by kernel_rfl) ht.done
  have hnot : ∀ (x : Bool) (w : World), (Op.unary .not (.bool x)).run Tryz.prog w = .ok (.bool (!x)) w := fun _ _ => rfl
  clear ht
  go_enter Tryz.func114, Tryz.ntmps114
  go_wp2
  go_end0
  exact ⟨rfl, rfl⟩

end Go.Proofs.YtgeiemccjionpaaGreat.Crc

/- CLeft -/
namespace Go.Proofs.YtgeiemccjionpaaGreat.Crc
open Go.RowKit

/-- A table that is new, or that is reckoned. -/
def TabOK (w : World) (b : Nat) : Prop := TabK w b 0 0 0 ∨ TabK w b 1 0 16

theorem TabOK.below {w w' : World} {b : Nat} (h : TabOK w b) (hb : Below (b + 1) w w') : TabOK w' b := by
  rcases h with h | h
  · exact .inl (h.keep (hb.block b (by omega)))
  · exact .inr (h.keep (hb.block b (by omega)))

theorem TabK.alloc {w : World} {b k : Nat} {d m : Int} (h : TabK w b d m k) (o : Obj) : TabK (w.alloc o) b d m k := h.keep (Below.heap_alloc w o b h.lt)

theorem new1 (w : World) (v : Value) (t : TypeId) : (w.alloc (.cells #[v] t)).cell? ⟨w.heap.size, 0, none⟩ = some v := by
  rw [cell_of_row _ _ _ _ _ _ (heap_alloc_new w _)]; rfl

set_option maxRecDepth 100000 in
set_option maxHeartbeats 1600000 in
theorem left_first (b n : Nat) (w : World) (ht : TabK w b 0 0 0) (hn : n < 4294967296) :
    Calls Tryz.prog 112 #[.pointer (some ⟨b, 0, none⟩), .int .u32 n, .func (.func 113) #[] #[]] w fun e w' => e = .returned (.int .u32 (dnK 4 (n % 16) : Nat)) ∧ TabOK w' b ∧ Below b w w' := by
  have hmf : ∀ (fn : Fn) (first cap : Array Value) (w : World), (Instr.makeFunc fn first cap).run Tryz.prog w = .ok (.func fn first cap) w := fun _ _ _ _ => rfl
  have hlt := ht.lt
  have HT2 := Lib.hid ((ht.alloc (.cells #[.pointer (some ⟨b, 0, none⟩)] 173)).alloc (.cells #[.func (.func 113) #[] #[]] 172))
  clear ht
  go_enter Tryz.func112, Tryz.ntmps112
  go_wp2_with fail
  refine (do_first b ⟨w.heap.size + 1, 0, none⟩ ⟨w.heap.size, 0, none⟩ _ (by simp) (by simp) (by simp; omega) (by simp; omega) HT2.out).mono ?_
  rintro e w' ⟨rfl, hO, hT⟩
  have c1 : w'.cell? ⟨w.heap.size, 0, none⟩ = some (.pointer (some ⟨b, 0, none⟩)) := (hO.cell (by simp; omega)).trans (by simp)
  have c2 := hT.row (n % 16) (by omega)
  have HO := Lib.hid hO
  have HT := Lib.hid hT
  clear hO hT
  go_wp2
  go_ret
  exact ⟨rfl, .inr HT.out, (((Below.refl b w).alloc (by omega) _).alloc (by simp; omega) _).trans (HO.out.below (Nat.le_refl _))⟩

set_option maxRecDepth 100000 in
set_option maxHeartbeats 1600000 in
theorem left_done (b n : Nat) (w : World) (ht : TabK w b 1 0 16) (hn : n < 4294967296) :
    Calls Tryz.prog 112 #[.pointer (some ⟨b, 0, none⟩), .int .u32 n, .func (.func 113) #[] #[]] w fun e w' => e = .returned (.int .u32 (dnK 4 (n % 16) : Nat)) ∧ TabOK w' b ∧ Below b w w' := by
  have hmf : ∀ (fn : Fn) (first cap : Array Value) (w : World), (Instr.makeFunc fn first cap).run Tryz.prog w = .ok (.func fn first cap) w := fun _ _ _ _ => rfl
  have hlt := ht.lt
  have hT2 := (ht.alloc (.cells #[.pointer (some ⟨b, 0, none⟩)] 173)).alloc (.cells #[.func (.func 113) #[] #[]] 172)
  have c2 := hT2.row (n % 16) (by omega)
  have HT2 := Lib.hid hT2
  clear ht hT2
  go_enter Tryz.func112, Tryz.ntmps112
  go_wp2_with fail
  refine (do_done b _ _ HT2.out).mono ?_
  rintro e w' ⟨rfl, rfl⟩
  go_wp2
  go_ret
  exact ⟨rfl, .inr HT2.out, ((Below.refl b w).alloc (by omega) _).alloc (by simp; omega) _⟩

theorem left_calls (b n : Nat) (w : World) (ht : TabOK w b) (hn : n < 4294967296) :
    Calls Tryz.prog 112 #[.pointer (some ⟨b, 0, none⟩), .int .u32 n, .func (.func 113) #[] #[]] w fun e w' => e = .returned (.int .u32 (dnK 4 (n % 16) : Nat)) ∧ TabOK w' b ∧ Below b w w' := by
  rcases ht with ht | ht
  · exact left_first b n w ht hn
  · exact left_done b n w ht hn

theorem nib_u32 (x : Nat) (h : x < 4294967296) : bits .xor .u32 ((x : Int) / 16) ((dnK 4 (x % 16) : Nat) : Int) = ((dnK 4 x : Nat) : Int) := by
  have h1 := xor_u32 (x / 16) (dnK 4 (x % 16)) (by omega) (dnK_lt 4 (by omega))
  rw [nibble] at h1
  rw [← h1]
  rfl

set_option maxRecDepth 100000 in
set_option maxHeartbeats 1600000 in
theorem of_calls (s : ByteArray) (w : World) (hs : s.size ≤ maxLen) :
    Calls Tryz.prog 111 #[.string s] w fun e w' => e = .returned (.int .u32 (crcN s.data.toList : Nat)) ∧ Below w.heap.size w w' := by
  unfold maxLen at hs
  go_enter Tryz.func111, Tryz.ntmps111
  go_wp2
  go_loopw [4, 5] (fun n i wr => ∃ k : Nat, k ≤ s.size ∧ i = .int .i64 k ∧ n = .int .u32 (reg 4294967295 (s.data.toList.take k) : Nat) ∧ TabOK wr w.heap.size ∧ Below w.heap.size w wr) (fun _ i _ => s.size - (intOf i).toNat)
  case atStart =>
    refine ⟨0, Nat.zero_le _, rfl, rfl, .inl ⟨_, heap_alloc_new w _, rfl, rfl, rfl, fun j hj => absurd hj (by omega)⟩, (Below.refl _ w).alloc (Nat.le_refl _) _⟩
  case round =>
    obtain ⟨k, hk, rfl, rfl, hT, hB⟩ := hrel
    have hlt := reg_lt (n := 4294967295) (s.data.toList.take k) (by omega)
    by_cases h : k < s.size
    · have HS := Lib.hid (reg_snoc 4294967295 s k h)
      have hx := xor_byte (reg 4294967295 (s.data.toList.take k)) s[k] hlt
      have hx2 : reg 4294967295 (s.data.toList.take k) ^^^ s[k].toNat < 4294967296 := Nat.xor_lt_two_pow (n := 32) hlt (by have := s[k].toNat_lt; omega)
      have hx4 := dnK_lt 4 hx2
      have HT := Lib.hid hT
      have HB := Lib.hid hB
      clear hT hB
      generalize reg 4294967295 (s.data.toList.take k) = x at *
      generalize x ^^^ s[k].toNat = y at *
      have hn1 := nib_u32 y hx2
      have hn2 := nib_u32 (dnK 4 y) hx4
      have HN2 : Hid (dnK 4 (dnK 4 y) = dnK 8 y) := (dnK_add 4 4 y).symm
      go_wp2_with fail
      (with_reducible refine (left_calls w.heap.size y _ HT.out hx2).mono ?_)
      rintro e w1 ⟨rfl, hT1, hB1⟩
      have HT1 := Lib.hid hT1
      have HB1 := Lib.hid hB1
      clear hT1 hB1
      go_wp2_with fail
      (with_reducible refine (left_calls w.heap.size (dnK 4 y) _ HT1.out hx4).mono ?_)
      rintro e w2 ⟨rfl, hT2, hB2⟩
      have HT2 := Lib.hid hT2
      have HB2 := Lib.hid hB2
      clear hT2 hB2
      go_wp2_with fail
      go_roundw
      case rel => exact ⟨k + 1, by omega, by go_num, by rw [HS.out, HN2.out], HT2.out, HB.out.trans (HB1.out.trans HB2.out)⟩
      case measure => simp [intOf]; omega
    · go_wp2
      go_ret
      exact ⟨ret_int (by rw [not_reg s k (by omega)]), hB⟩
end Go.Proofs.YtgeiemccjionpaaGreat.Crc

/- CSeal -/
namespace Go.Proofs.YtgeiemccjionpaaGreat.Crc
open Go.RowKit

theorem ofNat_mod8 (n : Nat) : UInt8.ofNat (n % 256) = UInt8.ofNat n := by
  apply UInt8.toNat_inj.1; simp

theorem nums_tail (n : Nat) (_h : n < 4294967296) : strOfNums [(n : Int) % 256, (n : Int) / 256 % 256, (n : Int) / 65536 % 256, (n : Int) / 16777216] = strB (tailB n) := by
  unfold strOfNums strB tailB
  rw [show ((n : Int) % 256) = ((n % 256 : Nat) : Int) by omega, show ((n : Int) / 256 % 256) = ((n / 256 % 256 : Nat) : Int) by omega, show ((n : Int) / 65536 % 256) = ((n / 65536 % 256 : Nat) : Int) by omega, show ((n : Int) / 16777216) = ((n / 16777216 : Nat) : Int) by omega]
  simp only [List.map_cons, List.map_nil, Int.toNat_natCast, ofNat_mod8]

theorem conv4 (n : Nat) (h : n < 4294967296) (w1 : World) :
    Sem.run Tryz.prog (convert 70 9 (.slice (some ⟨w1.heap.size, 0, none⟩) 4 4)) (w1.alloc (.cells #[.int .u8 ((n : Int) % 256), .int .u8 ((n : Int) / 256 % 256), .int .u8 ((n : Int) / 65536 % 256), .int .u8 ((n : Int) / 16777216)] 5)) =
      .ok (.string (strB (tailB n))) (w1.alloc (.cells #[.int .u8 ((n : Int) % 256), .int .u8 ((n : Int) / 256 % 256), .int .u8 ((n : Int) / 65536 % 256), .int .u8 ((n : Int) / 16777216)] 5)) := by
  rw [← nums_tail n h]
  refine run_convert_bytes_arg _ 70 5 Tryz.underlying70 Tryz.underlying5 w1.heap.size 0 4 4 _ rfl ?_ 9 Tryz.underlying9
  intro i hi
  rw [cell_of_row _ _ _ _ _ _ (heap_alloc_new w1 _)]
  have : i = 0 ∨ i = 1 ∨ i = 2 ∨ i = 3 := by omega
  rcases this with rfl | rfl | rfl | rfl <;> rfl

set_option maxRecDepth 100000 in
set_option maxHeartbeats 1000000 in
theorem tail_calls (s : ByteArray) (w : World) (hs : s.size ≤ maxLen) :
    Calls Tryz.prog 109 #[.string s] w fun e w' => e = .returned (.string (strB (tailB (crcN s.data.toList)))) ∧ Below w.heap.size w w' := by
  have hlt := crcN_lt s.data.toList
  have hcv := conv4 (crcN s.data.toList) hlt
  go_enter Tryz.func109, Tryz.ntmps109
  go_wp2_with fail
  (with_reducible refine (of_calls s _ hs).mono ?_)
  rintro e w1 ⟨rfl, hB⟩
  go_wp2_with fail
  go_ret
  exact ⟨rfl, hB.alloc hB.size _⟩

theorem str_seal (s : ByteArray) : s ++ strB (tailB (crcN s.data.toList)) = strB (sealB s.data.toList) := by
  apply ByteArray.ext
  simp [strB, sealB]

set_option maxRecDepth 100000 in
set_option maxHeartbeats 1000000 in
theorem seal_calls (s : ByteArray) (w : World) (hs : s.size ≤ 9223372036854775000) :
    Calls Tryz.prog 104 #[.string s] w fun e w' => e = .returned (.string (strB (sealB s.data.toList))) ∧ Below w.heap.size w w' := by
  go_enter Tryz.func104, Tryz.ntmps104
  go_wp2_with fail
  (with_reducible refine (tail_calls s _ (by unfold maxLen; omega)).mono ?_)
  rintro e w1 ⟨rfl, hB⟩
  have hz : ¬ 9223372036854775807 < s.size + (strB (tailB (crcN s.data.toList))).size := by rw [strB_size, tailB_len]; omega
  go_wp2_with fail
  go_ret
  exact ⟨ret_str (str_seal s), hB⟩

end Go.Proofs.YtgeiemccjionpaaGreat.Crc

/- CRSeal -/
namespace Go.Proofs.YtgeiemccjionpaaGreat.Crc
open Go.RowKit

set_option maxRecDepth 100000 in
set_option maxHeartbeats 1000000 in
theorem ref_seal (s : ByteArray) (w : World) (hs : s.size ≤ 9223372036854775000) :
    Calls Tryz.prog 56 #[.string s] w fun e w' => e = .returned (.string (strB (sealB s.data.toList))) ∧ Below w.heap.size w w' := by
  have hlt := crcN_lt s.data.toList
  have hcv := conv4 (crcN s.data.toList) hlt
  go_enter Tryz.func56, Tryz.ntmps56
  go_wp2_with fail
  (with_reducible refine (ref_of s _ (by unfold maxLen; omega)).mono ?_)
  rintro e w1 ⟨rfl, rfl⟩
  have hz : ¬ 9223372036854775807 < s.size + (strB (tailB (crcN s.data.toList))).size := by rw [strB_size, tailB_len]; omega
  go_wp2_with fail
  go_ret
  exact ⟨ret_str (str_seal s), (Below.refl _ _).alloc (Nat.le_refl _) _⟩

end Go.Proofs.YtgeiemccjionpaaGreat.Crc
