/- Contracts and plain mathematics that the statement's proof wants: no statement is proved here, nothing is assumed. -/
import Derived.StillTailTactics
import Derived.Deep.RegionWith
import Derived.Laws.NewBlocks
import Derived.Laws.BytesArg
import Derived.Laws.IdiomStrings
import Derived.Lib.SmallJoins
import Derived.WalkKit
import Derived.Laws.BitsAllLaws
import Derived.Lib.Hide
import Derived.Lib.Bytealg
import Derived.Test.YtnbbijpmkhdgpaaGreatMg00
/- CFill -/
namespace Go.Proofs.YtnbbijpmkhdgpaaGreat.Crc
open Go.RowKit

set_option maxRecDepth 100000 in
set_option maxHeartbeats 1000000 in
theorem fill_calls (b : Nat) (p q : Addr) (d m : Int) (w : World) (hp : w.cell? p = some (.func (.func 128) #[] #[])) (hq : w.cell? q = some (.pointer (some ⟨b, 0, none⟩)))
    (hpb : p.block ≠ b) (hqb : q.block ≠ b) (ht : TabK w b d m 0) :
    Calls Tryz.prog 132 #[.pointer (some p), .pointer (some q)] w fun e w' => e = .returned (.tuple #[]) ∧ Only b w w' ∧ TabK w' b d m 16 := by
  go_enter Tryz.func132, Tryz.ntmps132
  go_wp2
  go_loopw [3] (fun i wr => ∃ k : Nat, k ≤ 16 ∧ i = .int .i64 k ∧ Only b w wr ∧ TabK wr b d m k) (fun i _ => 16 - (intOf i).toNat)
  case atStart => exact ⟨0, Nat.zero_le _, rfl, Only.refl _ _, ht⟩
  case round =>
    obtain ⟨k, hk, rfl, hO, hT⟩ := hrel
    by_cases h : k < 16
    · have c1 := (hO.cell hpb).trans hp
      have c2 := (hO.cell hqb).trans hq
      obtain ⟨x, c3⟩ := hT.some_ (3 + k) (by omega)
      have c4 := hT.free (3 + k)
      have HO := Lib.hid hO
      have HT := Lib.hid hT
      clear hO hT hp hq ht
      go_wp2
      have hm : IntKind.u32.wrap (k : Int) = k := by rw [IntKind.wrap_u32']; omega
      go_region_with (first | (go_at_call 128; (with_reducible refine (four_calls k _ (by omega)).mono ?_); rintro e w' ⟨rfl, rfl⟩))
      all_goals
        go_wp2
        go_roundw
        case rel => exact ⟨k + 1, by omega, by go_num, (HO.out.setCell _ rfl _).drew, (HT.out.setRow h).drew⟩
        case measure => simp [intOf]; omega
    · go_wp2
      go_end0
      obtain rfl : k = 16 := by omega
      exact ⟨rfl, hO, hT⟩

set_option maxRecDepth 100000 in
set_option maxHeartbeats 1600000 in
theorem slow_calls (b : Nat) (p q : Addr) (w : World) (hp : w.cell? p = some (.func (.func 128) #[] #[])) (hq : w.cell? q = some (.pointer (some ⟨b, 0, none⟩)))
    (hpb : p.block ≠ b) (hqb : q.block ≠ b) (ht : TabK w b 0 0 0) :
    Calls Tryz.prog 134 #[.pointer (some ⟨b, 0, none⟩), .func (.func 132) #[] #[.pointer (some p), .pointer (some q)]] w fun e w' => e = .returned (.tuple #[]) ∧ Only b w w' ∧ TabK w' b 1 0 16 := by
  have ht1 := ht.setLock 1
  have hO1 := (Only.refl b w).setCell ⟨b, 1, none⟩ rfl (.int .i32 1)
  have c0 := ht.lock
  have f0 := ht.free 1
  have hl := run_call_load (P := Tryz.prog) Tryz.func135 (by kernel_rfl) (by kernel_rfl) (by kernel_rfl) .u32 (by kernel_rfl) (w := w.setCell ⟨b, 1, none⟩ (.int .i32 1)) (a := ⟨b, 0, none⟩) (x := 0) ht1.done
  have hp1 := (hO1.cell hpb).trans hp
  have hq1 := (hO1.cell hqb).trans hq
  have hnot : ∀ (x : Bool) (w : World), (Op.unary .not (.bool x)).run Tryz.prog w = .ok (.bool (!x)) w := fun _ _ => rfl
  have HT := Lib.hid ht1
  have HO := Lib.hid hO1
  have HP := Lib.hid hp1
  have HQ := Lib.hid hq1
  clear ht1 hO1 hp1 hq1 hp hq ht
  go_enter_defers Tryz.func134, Tryz.ntmps134
  go_wp2_with (first | (go_at_call 136; (with_reducible refine (lock_free ⟨b, 1, none⟩ _ (by go_simp) (by go_simp)).mono ?_); rintro e w' ⟨rfl, rfl⟩) | (go_at_call 133; go_in) | (go_at_call 132; (with_reducible refine (fill_calls b p q 0 1 _ HP.out HQ.out hpb hqb HT.out).mono ?_); rintro e w' ⟨rfl, hO2, hT2⟩))
  have hT3 := hT2.drew.setDone 1
  have hT4 := hT3.setLock 0
  refine leaves_cons (f := 138) (args := #[.pointer (some ⟨b, 0, none⟩), .bool true]) (by simp) (by simp [go_sem]) ?_
  refine (store_deferred ⟨b, 0, none⟩ (.int .u32 0) .returning _ hT2.done (hT2.free 0)).mono ?_
  rintro e u' w'' ⟨rfl, rfl, rfl⟩
  refine leaves_cons (f := 137) (args := #[.pointer (some ⟨b, 1, none⟩)]) (by simp [settle]) (by simp [go_sem]) ?_
  refine (unlock_deferred ⟨b, 1, none⟩ _ _ hT3.lock (hT3.free 1)).mono ?_
  rintro e u' w'' ⟨rfl, rfl, rfl⟩
  have hO5 := HO.out.trans ((hO2.drew.setCell ⟨b, 0, none⟩ rfl (.int .u32 1)).setCell ⟨b, 1, none⟩ rfl (.int .i32 0))
  simp [Leaves, settle, results, Tryz.results134]
  exact ⟨hO5, hT4⟩

set_option maxRecDepth 100000 in
set_option maxHeartbeats 1600000 in
theorem do_first (b : Nat) (p q : Addr) (w : World) (hp : w.cell? p = some (.func (.func 128) #[] #[])) (hq : w.cell? q = some (.pointer (some ⟨b, 0, none⟩)))
    (hpb : p.block ≠ b) (hqb : q.block ≠ b) (ht : TabK w b 0 0 0) :
    Calls Tryz.prog 131 #[.pointer (some ⟨b, 0, none⟩), .func (.func 132) #[] #[.pointer (some p), .pointer (some q)]] w fun e w' => e = .returned (.tuple #[]) ∧ Only b w w' ∧ TabK w' b 1 0 16 := by
  have hl := run_call_load (P := Tryz.prog) Tryz.func135 (by kernel_rfl) (by kernel_rfl) (by kernel_rfl) .u32 (by kernel_rfl) ht.done
  have hnot : ∀ (x : Bool) (w : World), (Op.unary .not (.bool x)).run Tryz.prog w = .ok (.bool (!x)) w := fun _ _ => rfl
  have HS := Lib.hid (slow_calls b p q w hp hq hpb hqb ht)
  clear hp hq ht
  go_enter Tryz.func131, Tryz.ntmps131
  go_wp2_with (first | (go_at_call 134; (with_reducible refine HS.out.mono ?_); rintro e w' ⟨rfl, hO2, hT2⟩) | (go_at_call 133; go_in))
  go_end0
  exact ⟨rfl, hO2, hT2⟩

theorem do_done (b : Nat) (fv : Value) (w : World) (ht : TabK w b 1 0 16) :
    Calls Tryz.prog 131 #[.pointer (some ⟨b, 0, none⟩), fv] w fun e w' => e = .returned (.tuple #[]) ∧ w = w' := by
  have hl := run_call_load (P := Tryz.prog) Tryz.func135 (by kernel_rfl) (by kernel_rfl) (by kernel_rfl) .u32 (by kernel_rfl) ht.done
  have hnot : ∀ (x : Bool) (w : World), (Op.unary .not (.bool x)).run Tryz.prog w = .ok (.bool (!x)) w := fun _ _ => rfl
  clear ht
  go_enter Tryz.func131, Tryz.ntmps131
  go_wp2
  go_end0
  exact ⟨rfl, rfl⟩

end Go.Proofs.YtnbbijpmkhdgpaaGreat.Crc

/- CLeft -/
namespace Go.Proofs.YtnbbijpmkhdgpaaGreat.Crc
open Go.RowKit

/-- A table that is new, or that is reckoned. -/
def TabOK (w : World) (b : Nat) : Prop := TabK w b 0 0 0 ∨ TabK w b 1 0 16

theorem TabOK.below {w w' : World} {b : Nat} (h : TabOK w b) (hb : Below (b + 1) w w') : TabOK w' b := by
  rcases h with h | h
  · exact .inl (h.keep (hb.block b (by omega)))
  · exact .inr (h.keep (hb.block b (by omega)))

theorem TabK.alloc {w : World} {b k : Nat} {d m : Int} (h : TabK w b d m k) (o : Obj) : TabK (w.alloc o) b d m k := h.keep (Below.heap_alloc w o b h.lt)

theorem new1 (w : World) (v : Value) (t : TypeId) : (w.alloc (.cells #[v] t)).cell? ⟨w.heap.size, 0, none⟩ = some v := by
  rw [cell_of_row _ _ _ _ _ _ (heap_alloc_new w _)]; rfl

set_option maxRecDepth 100000 in
set_option maxHeartbeats 1600000 in
theorem left_first (b n : Nat) (w : World) (ht : TabK w b 0 0 0) (hn : n < 4294967296) :
    Calls Tryz.prog 127 #[.pointer (some ⟨b, 0, none⟩), .int .u32 n, .func (.func 128) #[] #[]] w fun e w' => e = .returned (.int .u32 (dnK 4 (n % 16) : Nat)) ∧ TabOK w' b ∧ Below b w w' := by
  have hmf : ∀ (fn : Fn) (first cap : Array Value) (w : World), (Instr.makeFunc fn first cap).run Tryz.prog w = .ok (.func fn first cap) w := fun _ _ _ _ => rfl
  have hlt := ht.lt
  have HT2 := Lib.hid ((ht.alloc (.cells #[.pointer (some ⟨b, 0, none⟩)] 175)).alloc (.cells #[.func (.func 128) #[] #[]] 171))
  clear ht
  go_enter Tryz.func127, Tryz.ntmps127
  go_wp2_with fail
  refine (do_first b ⟨w.heap.size + 1, 0, none⟩ ⟨w.heap.size, 0, none⟩ _ (by simp) (by simp) (by simp; omega) (by simp; omega) HT2.out).mono ?_
  rintro e w' ⟨rfl, hO, hT⟩
  have c1 : w'.cell? ⟨w.heap.size, 0, none⟩ = some (.pointer (some ⟨b, 0, none⟩)) := (hO.cell (by simp; omega)).trans (by simp)
  have c2 := hT.row (n % 16) (by omega)
  have HO := Lib.hid hO
  have HT := Lib.hid hT
  clear hO hT
  go_wp2
  go_ret
  exact ⟨rfl, .inr HT.out, (((Below.refl b w).alloc (by omega) _).alloc (by simp; omega) _).trans (HO.out.below (Nat.le_refl _))⟩

set_option maxRecDepth 100000 in
set_option maxHeartbeats 1600000 in
theorem left_done (b n : Nat) (w : World) (ht : TabK w b 1 0 16) (hn : n < 4294967296) :
    Calls Tryz.prog 127 #[.pointer (some ⟨b, 0, none⟩), .int .u32 n, .func (.func 128) #[] #[]] w fun e w' => e = .returned (.int .u32 (dnK 4 (n % 16) : Nat)) ∧ TabOK w' b ∧ Below b w w' := by
  have hmf : ∀ (fn : Fn) (first cap : Array Value) (w : World), (Instr.makeFunc fn first cap).run Tryz.prog w = .ok (.func fn first cap) w := fun _ _ _ _ => rfl
  have hlt := ht.lt
  have hT2 := (ht.alloc (.cells #[.pointer (some ⟨b, 0, none⟩)] 175)).alloc (.cells #[.func (.func 128) #[] #[]] 171)
  have c2 := hT2.row (n % 16) (by omega)
  have HT2 := Lib.hid hT2
  clear ht hT2
  go_enter Tryz.func127, Tryz.ntmps127
  go_wp2_with fail
  refine (do_done b _ _ HT2.out).mono ?_
  rintro e w' ⟨rfl, rfl⟩
  go_wp2
  go_ret
  exact ⟨rfl, .inr HT2.out, ((Below.refl b w).alloc (by omega) _).alloc (by simp; omega) _⟩

theorem left_calls (b n : Nat) (w : World) (ht : TabOK w b) (hn : n < 4294967296) :
    Calls Tryz.prog 127 #[.pointer (some ⟨b, 0, none⟩), .int .u32 n, .func (.func 128) #[] #[]] w fun e w' => e = .returned (.int .u32 (dnK 4 (n % 16) : Nat)) ∧ TabOK w' b ∧ Below b w w' := by
  rcases ht with ht | ht
  · exact left_first b n w ht hn
  · exact left_done b n w ht hn

theorem nib_u32 (x : Nat) (h : x < 4294967296) : bits .xor .u32 ((x : Int) / 16) ((dnK 4 (x % 16) : Nat) : Int) = ((dnK 4 x : Nat) : Int) := by
  have h1 := xor_u32 (x / 16) (dnK 4 (x % 16)) (by omega) (dnK_lt 4 (by omega))
  rw [nibble] at h1
  rw [← h1]
  rfl

set_option maxRecDepth 100000 in
set_option maxHeartbeats 1600000 in
theorem of_calls (s : ByteArray) (w : World) (hs : s.size ≤ maxLen) :
    Calls Tryz.prog 118 #[.string s] w fun e w' => e = .returned (.int .u32 (crcN s.data.toList : Nat)) ∧ Below w.heap.size w w' := by
  unfold maxLen at hs
  go_enter Tryz.func118, Tryz.ntmps118
  go_wp2
  go_loopw [4, 5] (fun n i wr => ∃ k : Nat, k ≤ s.size ∧ i = .int .i64 k ∧ n = .int .u32 (reg 4294967295 (s.data.toList.take k) : Nat) ∧ TabOK wr w.heap.size ∧ Below w.heap.size w wr) (fun _ i _ => s.size - (intOf i).toNat)
  case atStart =>
    refine ⟨0, Nat.zero_le _, rfl, rfl, .inl ⟨_, heap_alloc_new w _, rfl, rfl, rfl, fun j hj => absurd hj (by omega)⟩, (Below.refl _ w).alloc (Nat.le_refl _) _⟩
  case round =>
    obtain ⟨k, hk, rfl, rfl, hT, hB⟩ := hrel
    have hlt := reg_lt (n := 4294967295) (s.data.toList.take k) (by omega)
    by_cases h : k < s.size
    · have HS := Lib.hid (reg_snoc 4294967295 s k h)
      have hx := xor_byte (reg 4294967295 (s.data.toList.take k)) s[k] hlt
      have hx2 : reg 4294967295 (s.data.toList.take k) ^^^ s[k].toNat < 4294967296 := Nat.xor_lt_two_pow (n := 32) hlt (by have := s[k].toNat_lt; omega)
      have hx4 := dnK_lt 4 hx2
      have HT := Lib.hid hT
      have HB := Lib.hid hB
      clear hT hB
      generalize reg 4294967295 (s.data.toList.take k) = x at *
      generalize x ^^^ s[k].toNat = y at *
      have hn1 := nib_u32 y hx2
      have hn2 := nib_u32 (dnK 4 y) hx4
      have HN2 : Hid (dnK 4 (dnK 4 y) = dnK 8 y) := (dnK_add 4 4 y).symm
      go_wp2_with fail
      (with_reducible refine (left_calls w.heap.size y _ HT.out hx2).mono ?_)
      rintro e w1 ⟨rfl, hT1, hB1⟩
      have HT1 := Lib.hid hT1
      have HB1 := Lib.hid hB1
      clear hT1 hB1
      go_wp2_with fail
      (with_reducible refine (left_calls w.heap.size (dnK 4 y) _ HT1.out hx4).mono ?_)
      rintro e w2 ⟨rfl, hT2, hB2⟩
      have HT2 := Lib.hid hT2
      have HB2 := Lib.hid hB2
      clear hT2 hB2
      go_wp2_with fail
      go_roundw
      case rel => exact ⟨k + 1, by omega, by go_num, by rw [HS.out, HN2.out], HT2.out, HB.out.trans (HB1.out.trans HB2.out)⟩
      case measure => simp [intOf]; omega
    · go_wp2
      go_ret
      exact ⟨ret_int (by rw [not_reg s k (by omega)]), hB⟩
end Go.Proofs.YtnbbijpmkhdgpaaGreat.Crc

/- CSeal -/
namespace Go.Proofs.YtnbbijpmkhdgpaaGreat.Crc
open Go.RowKit

theorem ofNat_mod8 (n : Nat) : UInt8.ofNat (n % 256) = UInt8.ofNat n := by
  apply UInt8.toNat_inj.1; simp

theorem nums_tail (n : Nat) (h : n < 4294967296) : strOfNums [(n : Int) % 256, (n : Int) / 256 % 256, (n : Int) / 65536 % 256, (n : Int) / 16777216] = strB (tailB n) := by
  unfold strOfNums strB tailB
  rw [show ((n : Int) % 256) = ((n % 256 : Nat) : Int) by omega, show ((n : Int) / 256 % 256) = ((n / 256 % 256 : Nat) : Int) by omega, show ((n : Int) / 65536 % 256) = ((n / 65536 % 256 : Nat) : Int) by omega, show ((n : Int) / 16777216) = ((n / 16777216 : Nat) : Int) by omega]
  simp only [List.map_cons, List.map_nil, Int.toNat_natCast, ofNat_mod8]

theorem conv4 (n : Nat) (h : n < 4294967296) (w1 : World) :
    Sem.run Tryz.prog (convert 76 9 (.slice (some ⟨w1.heap.size, 0, none⟩) 4 4)) (w1.alloc (.cells #[.int .u8 ((n : Int) % 256), .int .u8 ((n : Int) / 256 % 256), .int .u8 ((n : Int) / 65536 % 256), .int .u8 ((n : Int) / 16777216)] 5)) =
      .ok (.string (strB (tailB n))) (w1.alloc (.cells #[.int .u8 ((n : Int) % 256), .int .u8 ((n : Int) / 256 % 256), .int .u8 ((n : Int) / 65536 % 256), .int .u8 ((n : Int) / 16777216)] 5)) := by
  rw [← nums_tail n h]
  refine run_convert_bytes_arg _ 76 5 Tryz.underlying76 Tryz.underlying5 w1.heap.size 0 4 4 _ rfl ?_ 9 Tryz.underlying9
  intro i hi
  rw [cell_of_row _ _ _ _ _ _ (heap_alloc_new w1 _)]
  have : i = 0 ∨ i = 1 ∨ i = 2 ∨ i = 3 := by omega
  rcases this with rfl | rfl | rfl | rfl <;> rfl

set_option maxRecDepth 100000 in
set_option maxHeartbeats 1000000 in
theorem tail_calls (s : ByteArray) (w : World) (hs : s.size ≤ maxLen) :
    Calls Tryz.prog 97 #[.string s] w fun e w' => e = .returned (.string (strB (tailB (crcN s.data.toList)))) ∧ Below w.heap.size w w' := by
  have hlt := crcN_lt s.data.toList
  have hcv := conv4 (crcN s.data.toList) hlt
  go_enter Tryz.func97, Tryz.ntmps97
  go_wp2_with fail
  (with_reducible refine (of_calls s _ hs).mono ?_)
  rintro e w1 ⟨rfl, hB⟩
  go_wp2_with fail
  go_ret
  exact ⟨rfl, hB.alloc hB.size _⟩

theorem str_seal (s : ByteArray) : s ++ strB (tailB (crcN s.data.toList)) = strB (sealB s.data.toList) := by
  apply ByteArray.ext
  simp [strB, sealB]

set_option maxRecDepth 100000 in
set_option maxHeartbeats 1000000 in
theorem seal_calls (s : ByteArray) (w : World) (hs : s.size ≤ 9223372036854775000) :
    Calls Tryz.prog 66 #[.string s] w fun e w' => e = .returned (.string (strB (sealB s.data.toList))) ∧ Below w.heap.size w w' := by
  go_enter Tryz.func66, Tryz.ntmps66
  go_wp2_with fail
  (with_reducible refine (tail_calls s _ (by unfold maxLen; omega)).mono ?_)
  rintro e w1 ⟨rfl, hB⟩
  have hz : ¬ 9223372036854775807 < s.size + (strB (tailB (crcN s.data.toList))).size := by rw [strB_size, tailB_len]; omega
  go_wp2_with fail
  go_ret
  exact ⟨ret_str (str_seal s), hB⟩

end Go.Proofs.YtnbbijpmkhdgpaaGreat.Crc

/- CTurn -/
namespace Go.Proofs.YtnbbijpmkhdgpaaGreat.Crc
open Go.RowKit

theorem getD_of {l : List UInt8} {j : Nat} (h : j < l.length) : l.getD j 0 = l[j] := by
  rw [List.getD_eq_getElem?_getD, List.getElem?_eq_getElem h]; rfl

theorem ext_getD {l m : List UInt8} (hl : l.length = m.length) (h : ∀ j, l.getD j 0 = m.getD j 0) : l = m :=
  List.ext_getElem hl fun j h1 h2 => by
    have := h j
    rwa [getD_of h1, getD_of h2] at this

theorem over_len (l e : List UInt8) (h : l.length = e.length) : (over l e).length = l.length := by
  induction l generalizing e with
  | nil => cases e with
    | nil => rfl
    | cons _ _ => cases h
  | cons a l ih => cases e with
    | nil => cases h
    | cons b e => simp [over]; exact ih e (by simpa using h)

theorem over_getD (l e : List UInt8) (h : l.length = e.length) (j : Nat) : (over l e).getD j 0 = l.getD j 0 ^^^ e.getD j 0 := by
  induction l generalizing e j with
  | nil => cases e with
    | nil => simp [over]
    | cons _ _ => cases h
  | cons a l ih => cases e with
    | nil => cases h
    | cons b e => cases j with
      | zero => simp [over]
      | succ j => simp only [over, List.getD_cons_succ]; exact ih e (by simpa using h) j

def errL (k : Nat) (f : List UInt8) (i n : Nat) : List UInt8 := zeros k ++ f.take i ++ zeros (n - k - i)

theorem errL_len {k i n : Nat} {f : List UInt8} (hf : i ≤ f.length) (h : k + i ≤ n) : (errL k f i n).length = n := by
  simp [errL, zeros]; omega

theorem errL_getD {k i n : Nat} {f : List UInt8} (hf : i ≤ f.length) (j : Nat) : (errL k f i n).getD j 0 = if k ≤ j ∧ j < k + i then f.getD (j - k) 0 else 0 := by
  unfold errL zeros
  rw [List.getD_eq_getElem?_getD, List.getD_eq_getElem?_getD]
  have hk : (List.replicate k (0 : UInt8) ++ f.take i).length = k + i := by simp; omega
  by_cases h1 : j < k
  · rw [if_neg (by omega), List.getElem?_append_left (by omega), List.getElem?_append_left (by simpa using h1), List.getElem?_replicate, if_pos h1]; rfl
  · by_cases h2 : j < k + i
    · rw [if_pos ⟨by omega, h2⟩, List.getElem?_append_left (by omega), List.getElem?_append_right (by simp; omega), List.length_replicate, List.getElem?_take, if_pos (by omega)]
    · rw [if_neg (by omega), List.getElem?_append_right (by omega), List.getElem?_replicate]
      split <;> rfl

/-- A seal with the first i of the other bytes laid over it, from k on. -/
def bur (x : List UInt8) (k : Nat) (f : List UInt8) (i : Nat) : List UInt8 := over x (errL k f i x.length)

section
variable {x f : List UInt8} {k i : Nat}
theorem bur_len (hf : i ≤ f.length) (h : k + i ≤ x.length) : (bur x k f i).length = x.length := over_len _ _ (errL_len hf h).symm
theorem bur_getD (hf : i ≤ f.length) (h : k + i ≤ x.length) (j : Nat) : (bur x k f i).getD j 0 = x.getD j 0 ^^^ (if k ≤ j ∧ j < k + i then f.getD (j - k) 0 else 0) := by
  unfold bur
  rw [over_getD _ _ (errL_len hf h).symm, errL_getD hf]
theorem bur_zero (h : k ≤ x.length) : bur x k f 0 = x := by
  refine ext_getD (bur_len (Nat.zero_le _) (by omega)) fun j => ?_
  rw [bur_getD (Nat.zero_le _) (by omega), if_neg (by omega)]
  simp
theorem bur_at (hf : i ≤ f.length) (h : k + i < x.length) : (bur x k f i).getD (k + i) 0 = x.getD (k + i) 0 := by
  rw [bur_getD hf (by omega), if_neg (by omega)]
  simp
theorem getD_set (l : List UInt8) (n : Nat) (a : UInt8) (j : Nat) (hn : n < l.length) : (l.set n a).getD j 0 = if n = j then a else l.getD j 0 := by
  rw [List.getD_eq_getElem?_getD, List.getElem?_set, List.getD_eq_getElem?_getD]
  by_cases h : n = j
  · subst h; simp [hn]
  · simp [h]
theorem bur_step (hf : i + 1 ≤ f.length) (h : k + i < x.length) : bur x k f (i + 1) = (bur x k f i).set (k + i) (x.getD (k + i) 0 ^^^ f.getD i 0) := by
  have hl := bur_len (x := x) (f := f) (k := k) (i := i) (by omega) (by omega)
  refine ext_getD (by rw [bur_len hf (by omega), List.length_set, hl]) fun j => ?_
  rw [getD_set _ _ _ _ (by omega), bur_getD hf (by omega), bur_getD (by omega) (by omega)]
  by_cases e : k + i = j
  · subst e; rw [if_pos rfl, if_pos (by omega), show k + i - k = i by omega]
  · rw [if_neg e]
    by_cases g : k ≤ j ∧ j < k + i
    · rw [if_pos (by omega), if_pos g]
    · rw [if_neg (by omega), if_neg g]
end

/-- Whether one of the first i of them is other than 0. -/
def oth (f : List UInt8) (i : Nat) : Bool := (f.take i).any (· != 0)

theorem oth_zero (f : List UInt8) : oth f 0 = false := rfl
theorem oth_step {f : List UInt8} {i : Nat} (h : i < f.length) : oth f (i + 1) = (oth f i || f.getD i 0 != 0) := by
  unfold oth
  rw [List.take_succ_eq_append_getElem h, List.any_append, getD_of h]
  simp

theorem bur_opens {x f : List UInt8} {k i : Nat} (hf : i ≤ f.length) (h4 : i ≤ 4) (h : k + i ≤ x.length) (hx : 4 ≤ x.length) (ho : opens x = true) : opens (bur x k f i) = !oth f i := by
  have hb := burst x k (x.length - k - i) (f.take i) (by simp; omega) (by simp; omega) hx ho
  have e : bur x k f i = over x (zeros k ++ f.take i ++ zeros (x.length - k - i)) := rfl
  rw [← e] at hb
  rw [Bool.eq_iff_iff, hb]
  simp [oth]

/-- The bytes l lie in block g, and may be written. -/
def RowB (w : World) (g : Nat) (l : List UInt8) : Prop :=
  ∃ (cur : Array Value) (fr : Nat × Nat), w.heap[g]? = some (.cells cur 5 fr) ∧ (∀ j, j < l.length → cur[j]? = some (.int .u8 ((l.getD j 0).toNat : Nat))) ∧ l.length ≤ fr.1

section
variable {w : World} {g : Nat} {l : List UInt8}
theorem RowB.cell (h : RowB w g l) {j : Nat} (hj : j < l.length) : w.cell? ⟨g, j, none⟩ = some (.int .u8 ((l.getD j 0).toNat : Nat)) := by
  obtain ⟨cur, fr, hb, hc, _⟩ := h
  rw [Go.Joins.cell_of_block hb]; exact hc j hj
theorem RowB.free (h : RowB w g l) {j : Nat} (hj : j < l.length) : w.frozen? ⟨g, j, none⟩ = false := by
  obtain ⟨cur, fr, hb, hc, hf⟩ := h
  simp [World.frozen?, hb]; omega
theorem RowB.set (h : RowB w g l) {j : Nat} (hj : j < l.length) (c : UInt8) : RowB (w.setCell ⟨g, j, none⟩ (.int .u8 (c.toNat : Nat))) g (l.set j c) := by
  obtain ⟨cur, fr, hb, hc, hf⟩ := h
  have hjc : j < cur.size := (Array.getElem?_eq_some_iff.1 (hc j hj)).1
  refine ⟨_, fr, Go.Joins.block_setCell hb _, fun i hi => ?_, by simpa using hf⟩
  rw [set_get hjc, getD_set _ _ _ _ hj]
  by_cases e : j = i
  · subst e; rw [if_pos rfl, if_pos rfl]
  · rw [if_neg e, if_neg e]; exact hc i (by simpa using hi)
theorem RowB.keep {w' : World} (h : RowB w g l) (e : w'.heap[g]? = w.heap[g]?) : RowB w' g l := by
  obtain ⟨cur, fr, hb, r⟩ := h
  exact ⟨cur, fr, e.trans hb, r⟩
theorem RowB.lt (h : RowB w g l) : g < w.heap.size := by
  obtain ⟨cur, fr, hb, _⟩ := h
  exact (Array.getElem?_eq_some_iff.1 hb).1
theorem RowB.back (h : RowB w g l) (cap : Nat) : (convert 76 9 (.slice (some ⟨g, 0, none⟩) l.length cap)).run Tryz.prog w = .ok (.string (strB l)) w := by
  refine run_convert_bytes_back w 76 9 5 ⟨g, 0, none⟩ cap l Tryz.underlying76 Tryz.underlying5 Tryz.underlying9 fun j hj => ?_
  have hp : (⟨g, 0, none⟩ : Addr).add j = ⟨g, j, none⟩ := by unfold Addr.add; split <;> simp_all
  rw [hp, h.cell hj, getD_of hj]
end

theorem RowB.new (w : World) (l : List UInt8) (cap : Nat) : RowB (w.drew.alloc (.cells (bytesRow (strB l) cap) 5 ((bytesRow (strB l) cap).size, (bytesRow (strB l) cap).size + 1))) w.heap.size l := by
  refine ⟨_, _, heap_alloc_new w.drew _, fun j hj => ?_, ?_⟩
  · rw [bytesRow_at _ _ _ (by simpa [strB] using hj), getD_of hj]; rfl
  · simp [bytesRow, strB]
end Go.Proofs.YtnbbijpmkhdgpaaGreat.Crc

/- NPlain -/
namespace Go.Proofs.YtnbbijpmkhdgpaaGreat.Nm
open Go.RowKit

/-- The number of so many bytes. -/
def numL (l : List UInt8) : Nat := l.foldl (fun n b => n * 256 + b.toNat) 0
theorem numL_snoc (l : List UInt8) (b : UInt8) : numL (l ++ [b]) = numL l * 256 + b.toNat := by simp [numL]
theorem numL_from (l : List UInt8) : ∀ n, l.foldl (fun n b => n * 256 + b.toNat) n = n * 256 ^ l.length + numL l := by
  unfold numL
  induction l with
  | nil => intro n; simp
  | cons a l ih =>
    intro n
    simp only [List.foldl_cons, List.length_cons]
    rw [ih, ih (0 * 256 + a.toNat), Nat.pow_succ, Nat.mul_comm (256 ^ l.length) 256, ← Nat.mul_assoc, Nat.add_mul, Nat.add_mul, Nat.zero_mul]
    omega
theorem numL_cons (a : UInt8) (l : List UInt8) : numL (a :: l) = a.toNat * 256 ^ l.length + numL l := by
  have := numL_from l a.toNat
  rw [← this]
  simp [numL]
theorem numL_lt (l : List UInt8) : numL l < 256 ^ l.length := by
  induction l with
  | nil => simp [numL]
  | cons a l ih =>
    rw [numL_cons, List.length_cons, Nat.pow_succ]
    have ha := a.toNat_lt
    have : a.toNat * 256 ^ l.length ≤ 255 * 256 ^ l.length := Nat.mul_le_mul_right _ (by omega)
    omega

/-- A number's k lowest bytes, the highest first. -/
def nb : Nat → Nat → List UInt8
  | 0, _ => []
  | k + 1, n => UInt8.ofNat (n / 256 ^ k % 256) :: nb k n
theorem nb_len (k n : Nat) : (nb k n).length = k := by
  induction k with
  | zero => rfl
  | succ k ih => simp [nb, ih]
theorem numL_nb (k n : Nat) : numL (nb k n) = n % 256 ^ k := by
  induction k with
  | zero => simp [nb, numL, Nat.mod_one]
  | succ k ih =>
    rw [nb, numL_cons, nb_len, ih, UInt8.toNat_ofNat', show (2 : Nat) ^ 8 = 256 from rfl, Nat.mod_mod, Nat.mod_pow_succ, Nat.mul_comm (256 ^ k)]
    omega

/-- Lists of bytes of one length stand as their numbers. -/
theorem less_num (l : List UInt8) : ∀ m : List UInt8, l.length = m.length → Op.bytesLess l m = decide (numL l < numL m) := by
  induction l with
  | nil =>
    intro m h
    cases m with
    | nil => rfl
    | cons => simp at h
  | cons a l ih =>
    intro m h
    cases m with
    | nil => simp at h
    | cons b m =>
      have h' : l.length = m.length := by simpa using h
      rw [Op.bytesLess, ih m h', numL_cons, numL_cons, h']
      have hl := numL_lt l
      have hm := numL_lt m
      rw [h'] at hl
      rw [Bool.eq_iff_iff, Bool.or_eq_true, Bool.and_eq_true, decide_eq_true_iff, decide_eq_true_iff, decide_eq_true_iff, beq_iff_eq, UInt8.lt_iff_toNat_lt, ← UInt8.toNat_inj]
      constructor
      · rintro (h | ⟨h, k⟩)
        · have : (a.toNat + 1) * 256 ^ m.length ≤ b.toNat * 256 ^ m.length := Nat.mul_le_mul_right _ h
          rw [Nat.add_mul] at this
          omega
        · rw [h]
          omega
      · intro h
        rcases Nat.lt_trichotomy a.toNat b.toNat with k | k | k
        · exact Or.inl k
        · rw [k] at h
          exact Or.inr ⟨k, by omega⟩
        · have : (b.toNat + 1) * 256 ^ m.length ≤ a.toNat * 256 ^ m.length := Nat.mul_le_mul_right _ k
          rw [Nat.add_mul] at this
          omega
theorem num_inj (l m : List UInt8) (h : l.length = m.length) (hn : numL l = numL m) : l = m := by
  induction l generalizing m with
  | nil =>
    cases m with
    | nil => rfl
    | cons => simp at h
  | cons a l ih =>
    cases m with
    | nil => simp at h
    | cons b m =>
      have h' : l.length = m.length := by simpa using h
      rw [numL_cons, numL_cons, h'] at hn
      have hl := numL_lt l
      have hm := numL_lt m
      rw [h'] at hl
      have : a.toNat = b.toNat := by
        rcases Nat.lt_trichotomy a.toNat b.toNat with k | k | k
        · have : (a.toNat + 1) * 256 ^ m.length ≤ b.toNat * 256 ^ m.length := Nat.mul_le_mul_right _ k
          rw [Nat.add_mul] at this
          omega
        · exact k
        · have : (b.toNat + 1) * 256 ^ m.length ≤ a.toNat * 256 ^ m.length := Nat.mul_le_mul_right _ k
          rw [Nat.add_mul] at this
          omega
      rw [this] at hn
      rw [UInt8.toNat_inj.1 this, ih m h' (by omega)]

/-- All bits of a number turned. -/
def tn (seq : Int) : Nat := (18446744073709551615 - seq % 18446744073709551616).toNat
/-- .. and back, with its sign. -/
def bk (n : Nat) : Int := if n < 9223372036854775808 then -1 - n else 18446744073709551615 - n
theorem tn_lt (seq : Int) : tn seq < 256 ^ 8 := by unfold tn; omega
theorem bk_tn (seq : Int) (h0 : -9223372036854775808 ≤ seq) (h1 : seq < 9223372036854775808) : bk (tn seq) = seq := by
  unfold bk tn
  split <;> omega

def keyOK (l : List UInt8) : Bool := !l.isEmpty && (decide (l.length ≤ 24) && !decide (0 ≤ Lib.indexByte l 0))
def okB (b : UInt8) : Bool := (decide (97 ≤ b.toNat) && decide (b.toNat ≤ 122)) || (decide (48 ≤ b.toNat) && decide (b.toNat ≤ 57)) || b.toNat == 45
def bucketOK (l : List UInt8) : Bool := decide (3 ≤ l.length) && (decide (l.length ≤ 12) && (l.all okB && ((l.getD 0 0).toNat != 45 && (l.getD (l.length - 1) 0).toNat != 45)))
def indexL (key : List UInt8) (seq : Int) : List UInt8 := key ++ 0 :: nb 8 (tn seq)
def backOK (l : List UInt8) : Bool := decide (9 ≤ l.length) && ((l.getD (l.length - 9) 1) == 0 && keyOK (l.take (l.length - 9)))
def backK (l : List UInt8) : List UInt8 := if backOK l then l.take (l.length - 9) else []
def backN (l : List UInt8) : Int := if backOK l then bk (numL (l.drop (l.length - 8))) else 0
def begins (l m : List UInt8) : Bool := decide (m.length ≤ l.length) && (l.take m.length == m)
def groveN (l : List UInt8) : Nat := if Op.bytesLess l [103] then 0 else if Op.bytesLess l [110] then 1 else if Op.bytesLess l [116] then 2 else 3

theorem index_ge (l : List UInt8) : decide (0 ≤ Lib.indexByte l 0) = l.contains 0 := by
  induction l with
  | nil => rfl
  | cons b l ih =>
    unfold Lib.indexByte
    have hg := Lib.indexByte_ge l 0
    by_cases hb : b = 0
    · subst hb
      rfl
    · have e1 : (b == 0) = false := by simpa using hb
      have e2 : ((0 : UInt8) == b) = false := by simpa using fun h => hb h.symm
      rw [e1, List.contains_cons, e2, Bool.false_or, ← ih]
      by_cases hn : Lib.indexByte l 0 = -1
      · rw [hn]
        rfl
      · have e3 : (Lib.indexByte l 0 == -1) = false := by simpa using hn
        rw [e3, decide_eq_decide]
        simp only [Bool.false_eq_true, if_false]
        omega
theorem keyOK_is (l : List UInt8) : keyOK l = true ↔ 1 ≤ l.length ∧ l.length ≤ 24 ∧ ∀ b ∈ l, b ≠ 0 := by
  unfold keyOK
  rw [index_ge, Bool.and_eq_true, Bool.and_eq_true, decide_eq_true_iff, Bool.not_eq_true', Bool.not_eq_true', List.isEmpty_eq_false_iff, ← List.length_pos_iff]
  constructor
  · rintro ⟨a, b, c⟩
    refine ⟨a, b, ?_⟩
    rintro x hx rfl
    rw [List.contains_iff_mem.2 hx] at c
    cases c
  · rintro ⟨a, b, c⟩
    refine ⟨a, b, ?_⟩
    rw [Bool.eq_false_iff]
    intro h
    exact c 0 (List.contains_iff_mem.1 h) rfl

end Go.Proofs.YtnbbijpmkhdgpaaGreat.Nm

/- EPlain -/
namespace Go.Proofs.YtnbbijpmkhdgpaaGreat.Ent
open Go.RowKit
open Wire (TK twoL fourL numL numV numS inside good markS)
open Crc (sealB opens bur oth bur_len bur_getD bur_opens getD_of ext_getD)
open Nm (begins)

/-- An entry of the journal. -/
structure En where
  seq : Int
  index : Int
  last : Bool
  no : Int
  data : List UInt8

theorem En.eq_iff (x y : En) : x = y ↔ x.seq = y.seq ∧ x.index = y.index ∧ x.last = y.last ∧ x.no = y.no ∧ x.data = y.data := by
  cases x; cases y; simp

instance : DecidableEq En := fun x y => decidable_of_iff _ (En.eq_iff x y).symm

def zeroE : En := ⟨0, 0, false, 0, []⟩
def dataN (last : Bool) : Nat := if last then 0 else 208
def pagK : List UInt8 := [74, 80, 65, 71]
def endK : List UInt8 := [74, 69, 78, 68]
def leafK : List UInt8 := [76, 69, 65, 70]
def kindL (last : Bool) : List UInt8 := if last then endK else pagK
theorem kindL_len (b : Bool) : (kindL b).length = 4 := by cases b <;> rfl

def rightE (x : En) : Bool := decide (1 ≤ x.seq) && (decide (x.seq ≤ 2147483647) && (decide (0 ≤ x.index) && (decide (x.index ≤ 255) && (decide (0 ≤ x.no) && (decide (x.no ≤ 511) && decide (x.data.length = dataN x.last))))))

theorem right_iff {x : En} : rightE x = true ↔ 1 ≤ x.seq ∧ x.seq ≤ 2147483647 ∧ 0 ≤ x.index ∧ x.index ≤ 255 ∧ 0 ≤ x.no ∧ x.no ≤ 511 ∧ x.data.length = dataN x.last := by
  unfold rightE
  simp only [Bool.and_eq_true, decide_eq_true_eq]

def zer (k : Nat) : List UInt8 := List.replicate k 0
theorem zer_len (k : Nat) : (zer k).length = k := by simp [zer]
theorem zer_take : (zer 256).take 4 = [0, 0, 0, 0] := by decide +kernel
theorem kind_zer (b : Bool) : kindL b ≠ [0, 0, 0, 0] := by cases b <;> decide
theorem kind_leaf (b : Bool) : kindL b ≠ leafK := by cases b <;> decide
def fillL (l : List UInt8) : List UInt8 := l ++ zer (252 - l.length)
def sectorL (l : List UInt8) : List UInt8 := sealB (fillL l)
def restL (x : En) : List UInt8 := fourL x.seq ++ (twoL x.index ++ (twoL x.no ++ x.data))
def headL (x : En) : List UInt8 := kindL x.last ++ restL x
def printL (x : En) : List UInt8 := sectorL (headL x)

/-- What is read behind the kind. -/
def g1 (t : TK) : TK := numS 4 1 2147483647 t
def g2 (t : TK) : TK := numS 2 0 255 (g1 t)
def g3 (t : TK) : TK := numS 2 0 511 (g2 t)
def readE (last : Bool) (t : TK) : En := ⟨(numV 4 1 2147483647 t : Nat), (numV 2 0 255 (g1 t) : Nat), last, (numV 2 0 511 (g2 t) : Nat), (g3 t).rest.take (dataN last)⟩
def lastB (s : List UInt8) : Bool := begins s endK
def tapeG (s : List UInt8) : TK := markS (kindL (lastB s)) ⟨s, false⟩
def guessE (s : List UInt8) : En := readE (lastB s) (tapeG s)
def isE (s : List UInt8) : Bool := rightE (guessE s) && (printL (guessE s) == s)
def parseE (s : List UInt8) : En := if isE s then guessE s else zeroE

def leafL (no : Int) (data : List UInt8) : List UInt8 := sectorL (leafK ++ (twoL no ++ data))
def tapeH (s : List UInt8) (no : Int) : TK := numS 2 no no (markS leafK ⟨s, false⟩)
def dataH (s : List UInt8) (no : Int) : List UInt8 := (tapeH s no).rest.take 208
def homeB (s : List UInt8) (no : Int) : Bool := s == zer 256 || (!(tapeH s no).bad && leafL no (dataH s no) == s)
def homeV (s : List UInt8) (no : Int) : List UInt8 := if s == zer 256 then zer 208 else if !(tapeH s no).bad && leafL no (dataH s no) == s then dataH s no else []

theorem fill_len {l : List UInt8} (h : l.length ≤ 252) : (fillL l).length = 252 := by
  unfold fillL; rw [List.length_append, zer_len]; omega
theorem sector_len {l : List UInt8} (h : l.length ≤ 252) : (sectorL l).length = 256 := by
  unfold sectorL; rw [Crc.sealB_len, fill_len h]
theorem restL_len (x : En) : (restL x).length = 8 + x.data.length := by
  simp only [restL, List.length_append, Wire.twoL_len, Wire.fourL_len]; omega
theorem headL_len (x : En) : (headL x).length = 12 + x.data.length := by
  unfold headL; rw [List.length_append, kindL_len, restL_len]; omega
theorem dataN_le (b : Bool) : dataN b ≤ 208 := by cases b <;> decide
theorem right_data {x : En} (h : rightE x = true) : x.data.length ≤ 208 := by
  have := (right_iff.1 h).2.2.2.2.2.2
  rw [this]; exact dataN_le _
theorem print_len {x : En} (h : rightE x = true) : (printL x).length = 256 := by
  refine sector_len ?_
  have := right_data h
  rw [headL_len]; omega
theorem leaf_len {no : Int} {d : List UInt8} (h : d.length ≤ 208) : (leafL no d).length = 256 := by
  refine sector_len ?_
  simp only [leafK, List.length_append, Wire.twoL_len, List.length_cons, List.length_nil]; omega

/-- A sector: what it begins with, and what stands behind. -/
theorem sector_is (l : List UInt8) : ∃ z, sectorL l = l ++ z := by
  unfold sectorL sealB fillL
  exact ⟨zer (252 - l.length) ++ Crc.tailB (Crc.crcN (l ++ zer (252 - l.length))), by rw [List.append_assoc]⟩
theorem print_is (x : En) : ∃ z, printL x = kindL x.last ++ (restL x ++ z) := by
  obtain ⟨z, hz⟩ := sector_is (headL x)
  exact ⟨z, by unfold printL; rw [hz]; unfold headL; rw [List.append_assoc]⟩
theorem leaf_is (no : Int) (d : List UInt8) : ∃ z, leafL no d = leafK ++ (twoL no ++ (d ++ z)) := by
  obtain ⟨z, hz⟩ := sector_is (leafK ++ (twoL no ++ d))
  exact ⟨z, by unfold leafL; rw [hz, List.append_assoc, List.append_assoc]⟩

theorem mark_app (m z : List UInt8) : markS m ⟨m ++ z, false⟩ = ⟨z, false⟩ := by
  unfold markS
  rw [Wire.good_app m z m.length rfl, if_pos rfl, Wire.take_app m z _ rfl, Wire.drop_app m z _ rfl]
  simp
theorem mark_bad {m : List UInt8} {s : List UInt8} (h : s.take m.length ≠ m) : (markS m ⟨s, false⟩).bad = true := by
  unfold markS
  split
  · simpa using h
  · rfl
theorem mark_good {m s : List UInt8} (h : m.length ≤ s.length) (he : s.take m.length = m) : markS m ⟨s, false⟩ = ⟨s.drop m.length, false⟩ := by
  unfold markS
  rw [Wire.good_yes h, if_pos rfl]
  simp [he]
theorem num_bad {k : Nat} {lo hi : Int} {t : TK} (h : t.bad = true) : (numS k lo hi t).bad = true := by
  unfold numS good
  rw [h]
  rfl

theorem begins_kind (b : Bool) (z : List UInt8) : begins (kindL b ++ z) endK = b := by
  unfold begins
  have h : endK.length ≤ (kindL b ++ z).length := by rw [List.length_append, kindL_len]; show 4 ≤ _; omega
  rw [decide_eq_true h, Bool.true_and, show endK.length = 4 from rfl, Wire.take_app (kindL b) z 4 (kindL_len b)]
  cases b <;> rfl

/-- An entry's bytes are read as it was. -/
theorem read_rest {x : En} (h : rightE x = true) (z : List UInt8) : readE x.last ⟨restL x ++ z, false⟩ = x ∧ (g3 ⟨restL x ++ z, false⟩).bad = false := by
  obtain ⟨h1, h2, h3, h4, h5, h6, h7⟩ := right_iff.1 h
  have q : restL x ++ z = fourL x.seq ++ (twoL x.index ++ (twoL x.no ++ (x.data ++ z))) := by simp only [restL, List.append_assoc]
  rw [q]
  have n1 : (numL (fourL x.seq) : Int) = x.seq := by rw [Wire.numL_fourL]; omega
  have n2 : (numL (twoL x.index) : Int) = x.index := by rw [Wire.numL_twoL]; omega
  have n3 : (numL (twoL x.no) : Int) = x.no := by rw [Wire.numL_twoL]; omega
  have a1 := Wire.numS_app (fourL x.seq) (twoL x.index ++ (twoL x.no ++ (x.data ++ z))) 4 1 2147483647 rfl (by omega) (by omega)
  have b1 := Wire.numV_app (fourL x.seq) (twoL x.index ++ (twoL x.no ++ (x.data ++ z))) 4 1 2147483647 rfl (by omega) (by omega)
  have a2 := Wire.numS_app (twoL x.index) (twoL x.no ++ (x.data ++ z)) 2 0 255 rfl (by omega) (by omega)
  have b2 := Wire.numV_app (twoL x.index) (twoL x.no ++ (x.data ++ z)) 2 0 255 rfl (by omega) (by omega)
  have a3 := Wire.numS_app (twoL x.no) (x.data ++ z) 2 0 511 rfl (by omega) (by omega)
  have b3 := Wire.numV_app (twoL x.no) (x.data ++ z) 2 0 511 rfl (by omega) (by omega)
  constructor
  · rw [En.eq_iff]
    simp only [readE, g3, g2, g1, a1, b1, a2, b2, a3, b3, n1, n2, n3, true_and]
    exact Wire.take_app _ _ _ h7
  · simp only [g3, g2, g1, a1, a2, a3]

theorem guess_print {x : En} (h : rightE x = true) : guessE (printL x) = x ∧ (g3 (tapeG (printL x))).bad = false := by
  obtain ⟨z, hz⟩ := print_is x
  have hl : lastB (printL x) = x.last := by unfold lastB; rw [hz]; exact begins_kind _ _
  have ht : tapeG (printL x) = ⟨restL x ++ z, false⟩ := by
    unfold tapeG
    rw [hl, hz]
    exact mark_app _ _
  unfold guessE
  rw [hl, ht]
  exact read_rest h z

theorem is_print {x : En} (h : rightE x = true) : isE (printL x) = true := by
  unfold isE
  rw [(guess_print h).1, h]
  simp
theorem parse_print {x : En} (h : rightE x = true) : parseE (printL x) = x := by
  unfold parseE
  rw [is_print h, if_pos rfl, (guess_print h).1]
theorem print_inj {x y : En} (hx : rightE x = true) (hy : rightE y = true) (h : printL x = printL y) : x = y := by
  rw [← parse_print hx, ← parse_print hy, h]
theorem is_opens {s : List UInt8} (h : isE s = true) : opens s = true := by
  unfold isE at h
  rw [Bool.and_eq_true, beq_iff_eq] at h
  rw [← h.2]
  exact Crc.opens_seal _
theorem is_ends {s : List UInt8} (h : isE s = true) : s.length = 256 ∧ s.take 4 = kindL (lastB s) ∧ (g3 (tapeG s)).bad = false := by
  unfold isE at h
  rw [Bool.and_eq_true, beq_iff_eq] at h
  obtain ⟨h1, h2⟩ := h
  have h3 := (guess_print h1).2
  obtain ⟨z, hz⟩ := print_is (guessE s)
  have h4 := print_len h1
  rw [h2] at h3 h4 hz
  refine ⟨h4, ?_, h3⟩
  have e : (guessE s).last = lastB s := rfl
  rw [e] at hz
  have := congrArg (List.take 4) hz
  rw [Wire.take_app _ _ 4 (kindL_len _)] at this
  exact this

theorem leaf_ne {no : Int} {d : List UInt8} : leafL no d ≠ zer 256 := by
  obtain ⟨z, hz⟩ := leaf_is no d
  rw [hz]
  intro h
  have := congrArg (fun l => l.take 4) h
  simp only [Wire.take_app _ _ 4 (show leafK.length = 4 from rfl), zer_take] at this
  exact absurd this (by decide)
theorem tape_leaf {no : Int} (d : List UInt8) (h0 : 0 ≤ no) (h1 : no ≤ 65535) : ∃ z, tapeH (leafL no d) no = ⟨d ++ z, false⟩ := by
  obtain ⟨z, hz⟩ := leaf_is no d
  refine ⟨z, ?_⟩
  have n3 : (numL (twoL no) : Int) = no := by rw [Wire.numL_twoL]; omega
  unfold tapeH
  rw [hz, mark_app]
  exact Wire.numS_app (twoL no) (d ++ z) 2 no no rfl (by omega) (by omega)
theorem data_leaf {no : Int} {d : List UInt8} (h0 : 0 ≤ no) (h1 : no ≤ 65535) (hd : d.length = 208) : dataH (leafL no d) no = d := by
  obtain ⟨z, hz⟩ := tape_leaf d h0 h1
  unfold dataH
  rw [hz]
  exact Wire.take_app _ _ _ hd
theorem home_leaf {no : Int} {d : List UInt8} (h0 : 0 ≤ no) (h1 : no ≤ 65535) (hd : d.length = 208) : homeB (leafL no d) no = true ∧ homeV (leafL no d) no = d := by
  obtain ⟨z, hz⟩ := tape_leaf d h0 h1
  have hd' := data_leaf h0 h1 hd
  have e : (leafL no d == zer 256) = false := by simpa using leaf_ne
  unfold homeB homeV
  rw [e, hd', hz]
  simp
theorem home_is {s : List UInt8} {no : Int} (h : homeB s no = true) : s = zer 256 ∨ (s.take 4 = leafK ∧ opens s = true ∧ s.length = 256) := by
  unfold homeB at h
  rw [Bool.or_eq_true, Bool.and_eq_true, beq_iff_eq, beq_iff_eq] at h
  rcases h with h | ⟨_, h⟩
  · exact .inl h
  · refine .inr ?_
    obtain ⟨z, hz⟩ := leaf_is no (dataH s no)
    have hl : (leafL no (dataH s no)).length = 256 := leaf_len (by unfold dataH; rw [List.length_take]; omega)
    rw [h] at hz hl
    refine ⟨?_, ?_, hl⟩
    · rw [hz]; exact Wire.take_app _ _ 4 rfl
    · rw [← h]; exact Crc.opens_seal _

/-- No entry is a page, and no page an entry. -/
theorem home_print {x : En} (no : Int) : homeB (printL x) no = false := by
  obtain ⟨z, hz⟩ := print_is x
  cases h : homeB (printL x) no with
  | false => rfl
  | true =>
    rcases home_is h with h | ⟨h, _⟩
    · rw [hz] at h
      have := congrArg (fun l => l.take 4) h
      simp only [Wire.take_app _ _ 4 (kindL_len _), zer_take] at this
      exact absurd this (kind_zer _)
    · rw [hz] at h
      rw [Wire.take_app _ _ 4 (kindL_len _)] at h
      exact absurd h (kind_leaf _)
theorem is_leaf (no : Int) (d : List UInt8) : isE (leafL no d) = false := by
  obtain ⟨z, hz⟩ := leaf_is no d
  cases h : isE (leafL no d) with
  | false => rfl
  | true =>
    have := (is_ends h).2.1
    rw [hz, Wire.take_app _ _ 4 rfl] at this
    exact absurd this.symm (kind_leaf _)
theorem is_zer (n : Nat) : isE (zer n) = false := by
  cases h : isE (zer n) with
  | false => rfl
  | true =>
    have h2 := (is_ends h).2.1
    have h1 := (is_ends h).1
    rw [zer_len] at h1
    subst h1
    rw [zer_take] at h2
    exact absurd h2.symm (kind_zer _)

/-- A page's sector is no other page's. -/
theorem home_other {no m : Int} {d : List UInt8} (h0 : 0 ≤ no) (h1 : no ≤ 65535) (hm : m ≠ no) : homeB (leafL no d) m = false := by
  obtain ⟨z, hz⟩ := leaf_is no d
  have n3 : (numL (twoL no) : Int) = no := by rw [Wire.numL_twoL]; omega
  have e : (leafL no d == zer 256) = false := by simpa using leaf_ne
  have hb : (tapeH (leafL no d) m).bad = true := by
    unfold tapeH
    rw [hz, mark_app]
    unfold numS
    rw [Wire.good_app (twoL no) _ 2 rfl, if_pos rfl, Wire.inside_app _ _ 2 m m rfl, n3]
    simp only [Bool.not_eq_true', Bool.and_eq_false_iff, decide_eq_false_iff_not]
    omega
  unfold homeB
  rw [e, hb]
  rfl

/-- Bytes that aren't other leave all as it was. -/
theorem bur_same {x f : List UInt8} {k i : Nat} (hf : i ≤ f.length) (h : k + i ≤ x.length) (ho : oth f i = false) : bur x k f i = x := by
  refine ext_getD (bur_len hf h) fun j => ?_
  rw [bur_getD hf h]
  by_cases g : k ≤ j ∧ j < k + i
  · rw [if_pos g]
    have hz : f.getD (j - k) 0 = 0 := by
      unfold oth at ho
      rw [List.any_eq_false] at ho
      have hj : j - k < f.length := by omega
      have hm : f[j - k] ∈ f.take i := by
        rw [List.mem_take_iff_getElem]
        exact ⟨j - k, by omega, rfl⟩
      have := ho _ hm
      rw [getD_of hj]
      simpa using this
    rw [hz]
    simp
  · rw [if_neg g]
    simp

/-- Up to four other bytes side by side in an entry's sector are told. -/
theorem turnedE {x : En} (hr : rightE x = true) {f : List UInt8} {k i : Nat} (hf : i ≤ f.length) (h4 : i ≤ 4) (h : k + i ≤ 256) : isE (bur (printL x) k f i) = !oth f i := by
  have hl := print_len hr
  cases ho : oth f i with
  | false =>
    rw [bur_same hf (by omega) ho]
    exact is_print hr
  | true =>
    have hb := bur_opens (x := printL x) (k := k) hf h4 (by omega) (by omega) (Crc.opens_seal (fillL (headL x)))
    rw [ho] at hb
    cases hi : isE (bur (printL x) k f i) with
    | false => rfl
    | true =>
      have := is_opens hi
      have hb : opens (bur (printL x) k f i) = false := hb
      rw [hb] at this
      cases this

theorem leaf_zero : opens (leafK ++ zer 252) = false := by decide +kernel

/-- No page's sector becomes noughts by four other bytes side by side. -/
theorem leaf_not {no : Int} {d f : List UInt8} {k i : Nat} (hd : d.length = 208) (hf : i ≤ f.length) (h4 : i ≤ 4) (h : k + i ≤ 256) : bur (leafL no d) k f i ≠ zer 256 := by
  intro hz
  have hl : (leafL no d).length = 256 := leaf_len (by omega)
  have hj : ∀ j, (leafL no d).getD j 0 ^^^ (if k ≤ j ∧ j < k + i then f.getD (j - k) 0 else 0) = 0 := by
    intro j
    rw [← bur_getD hf (by omega), hz]
    unfold zer
    rw [List.getD_eq_getElem?_getD, List.getElem?_replicate]
    split <;> rfl
  obtain ⟨z, hs⟩ := leaf_is no d
  have h0 : k = 0 := by
    have := hj 0
    by_cases hk : k ≤ 0
    · omega
    · rw [if_neg (by omega), hs] at this
      simp [leafK] at this
  subst h0
  have he : leafL no d = leafK ++ zer 252 := by
    refine ext_getD (by rw [hl, List.length_append, zer_len]; rfl) fun j => ?_
    by_cases hj4 : j < 4
    · rw [hs]
      rw [List.getD_eq_getElem?_getD, List.getD_eq_getElem?_getD, List.getElem?_append_left (by exact hj4), List.getElem?_append_left (by exact hj4)]
    · have := hj j
      rw [if_neg (by omega)] at this
      rw [UInt8.xor_zero] at this
      rw [this, List.getD_eq_getElem?_getD, List.getElem?_append_right (by show 4 ≤ j; omega)]
      unfold zer
      rw [List.getElem?_replicate]
      split <;> rfl
  have h1 := Crc.opens_seal (fillL (leafK ++ (twoL no ++ d)))
  have h2 : opens (leafL no d) = true := h1
  rw [he, leaf_zero] at h2
  cases h2

/-- The same of a page's sector. -/
theorem turnedH {no : Int} {d : List UInt8} (h0 : 0 ≤ no) (h1 : no ≤ 65535) (hd : d.length = 208) {f : List UInt8} {k i : Nat} (hf : i ≤ f.length) (h4 : i ≤ 4) (h : k + i ≤ 256) : homeB (bur (leafL no d) k f i) no = !oth f i := by
  have hl : (leafL no d).length = 256 := leaf_len (by omega)
  cases ho : oth f i with
  | false =>
    rw [bur_same hf (by omega) ho]
    exact (home_leaf h0 h1 hd).1
  | true =>
    have hb := bur_opens (x := leafL no d) (k := k) hf h4 (by omega) (by omega) (Crc.opens_seal (fillL (leafK ++ (twoL no ++ d))))
    rw [ho] at hb
    have hb : opens (bur (leafL no d) k f i) = false := hb
    cases hi : homeB (bur (leafL no d) k f i) no with
    | false => rfl
    | true =>
      rcases home_is hi with hz | ⟨_, hz, _⟩
      · exact absurd hz (leaf_not hd hf h4 h)
      · rw [hb] at hz
        cases hz

end Go.Proofs.YtnbbijpmkhdgpaaGreat.Ent
