/- (*table).left, crc.Of: what each call does. No statement is proved here. -/
import Derived.Test.YtibgimlfhpjeeaaCFill
import Derived.Laws.NewBlocks
namespace Go.Proofs.Ytibgimlfhpjeeaa.Crc
open Go.RowKit

/-- A table that is new, or that is reckoned. -/
def TabOK (w : World) (b : Nat) : Prop := TabK w b 0 0 0 ∨ TabK w b 1 0 16

theorem TabOK.below {w w' : World} {b : Nat} (h : TabOK w b) (hb : Below (b + 1) w w') : TabOK w' b := by
  rcases h with h | h
  · exact .inl (h.keep (hb.block b (by omega)))
  · exact .inr (h.keep (hb.block b (by omega)))

theorem TabK.alloc {w : World} {b k : Nat} {d m : Int} (h : TabK w b d m k) (o : Obj) : TabK (w.alloc o) b d m k := h.keep (Below.heap_alloc w o b h.lt)

theorem new1 (w : World) (v : Value) (t : TypeId) : (w.alloc (.cells #[v] t)).cell? ⟨w.heap.size, 0, none⟩ = some v := by
  rw [cell_of_row _ _ _ _ _ _ (heap_alloc_new w _)]; rfl

set_option maxRecDepth 100000 in
set_option maxHeartbeats 1600000 in
theorem left_first (b n : Nat) (w : World) (ht : TabK w b 0 0 0) (hn : n < 4294967296) :
    Calls Try.prog 45 #[.pointer (some ⟨b, 0, none⟩), .int .u32 n, .func (.func 46) #[] #[]] w fun e w' => e = .returned (.int .u32 (dnK 4 (n % 16) : Nat)) ∧ TabOK w' b ∧ Below b w w' := by
  have hmf : ∀ (fn : Fn) (first cap : Array Value) (w : World), (Instr.makeFunc fn first cap).run Try.prog w = .ok (.func fn first cap) w := fun _ _ _ _ => rfl
  have hlt := ht.lt
  have HT2 := Lib.hid ((ht.alloc (.cells #[.pointer (some ⟨b, 0, none⟩)] 94)).alloc (.cells #[.func (.func 46) #[] #[]] 90))
  clear ht
  go_enter Try.func45, Try.ntmps45
  go_wp2_with fail
  refine (do_first b ⟨w.heap.size + 1, 0, none⟩ ⟨w.heap.size, 0, none⟩ _ (by simp) (by simp) (by simp; omega) (by simp; omega) HT2.out).mono ?_
  rintro e w' ⟨rfl, hO, hT⟩
  have c1 : w'.cell? ⟨w.heap.size, 0, none⟩ = some (.pointer (some ⟨b, 0, none⟩)) := (hO.cell (by simp; omega)).trans (by simp)
  have c2 := hT.row (n % 16) (by omega)
  have HO := Lib.hid hO
  have HT := Lib.hid hT
  clear hO hT
  go_wp2
  go_ret
  exact ⟨rfl, .inr HT.out, (((Below.refl b w).alloc (by omega) _).alloc (by simp; omega) _).trans (HO.out.below (Nat.le_refl _))⟩

set_option maxRecDepth 100000 in
set_option maxHeartbeats 1600000 in
theorem left_done (b n : Nat) (w : World) (ht : TabK w b 1 0 16) (hn : n < 4294967296) :
    Calls Try.prog 45 #[.pointer (some ⟨b, 0, none⟩), .int .u32 n, .func (.func 46) #[] #[]] w fun e w' => e = .returned (.int .u32 (dnK 4 (n % 16) : Nat)) ∧ TabOK w' b ∧ Below b w w' := by
  have hmf : ∀ (fn : Fn) (first cap : Array Value) (w : World), (Instr.makeFunc fn first cap).run Try.prog w = .ok (.func fn first cap) w := fun _ _ _ _ => rfl
  have hlt := ht.lt
  have hT2 := (ht.alloc (.cells #[.pointer (some ⟨b, 0, none⟩)] 94)).alloc (.cells #[.func (.func 46) #[] #[]] 90)
  have c2 := hT2.row (n % 16) (by omega)
  have HT2 := Lib.hid hT2
  clear ht hT2
  go_enter Try.func45, Try.ntmps45
  go_wp2_with fail
  refine (do_done b _ _ HT2.out).mono ?_
  rintro e w' ⟨rfl, rfl⟩
  go_wp2
  go_ret
  exact ⟨rfl, .inr HT2.out, ((Below.refl b w).alloc (by omega) _).alloc (by simp; omega) _⟩

theorem left_calls (b n : Nat) (w : World) (ht : TabOK w b) (hn : n < 4294967296) :
    Calls Try.prog 45 #[.pointer (some ⟨b, 0, none⟩), .int .u32 n, .func (.func 46) #[] #[]] w fun e w' => e = .returned (.int .u32 (dnK 4 (n % 16) : Nat)) ∧ TabOK w' b ∧ Below b w w' := by
  rcases ht with ht | ht
  · exact left_first b n w ht hn
  · exact left_done b n w ht hn

theorem nib_u32 (x : Nat) (h : x < 4294967296) : bits .xor .u32 ((x : Int) / 16) ((dnK 4 (x % 16) : Nat) : Int) = ((dnK 4 x : Nat) : Int) := by
  have h1 := xor_u32 (x / 16) (dnK 4 (x % 16)) (by omega) (dnK_lt 4 (by omega))
  rw [nibble] at h1
  rw [← h1]
  rfl

set_option maxRecDepth 100000 in
set_option maxHeartbeats 1600000 in
theorem of_calls (s : ByteArray) (w : World) (hs : s.size ≤ maxLen) :
    Calls Try.prog 39 #[.string s] w fun e w' => e = .returned (.int .u32 (crcN s.data.toList : Nat)) ∧ Below w.heap.size w w' := by
  unfold maxLen at hs
  go_enter Try.func39, Try.ntmps39
  go_wp2
  go_loopw [4, 5] (fun n i wr => ∃ k : Nat, k ≤ s.size ∧ i = .int .i64 k ∧ n = .int .u32 (reg 4294967295 (s.data.toList.take k) : Nat) ∧ TabOK wr w.heap.size ∧ Below w.heap.size w wr) (fun _ i _ => s.size - (intOf i).toNat)
  case atStart =>
    refine ⟨0, Nat.zero_le _, rfl, rfl, .inl ⟨_, heap_alloc_new w _, rfl, rfl, rfl, fun j hj => absurd hj (by omega)⟩, (Below.refl _ w).alloc (Nat.le_refl _) _⟩
  case round =>
    obtain ⟨k, hk, rfl, rfl, hT, hB⟩ := hrel
    have hlt := reg_lt (n := 4294967295) (s.data.toList.take k) (by omega)
    by_cases h : k < s.size
    · have HS := Lib.hid (reg_snoc 4294967295 s k h)
      have hx := xor_byte (reg 4294967295 (s.data.toList.take k)) s[k] hlt
      have hx2 : reg 4294967295 (s.data.toList.take k) ^^^ s[k].toNat < 4294967296 := Nat.xor_lt_two_pow (n := 32) hlt (by have := s[k].toNat_lt; omega)
      have hx4 := dnK_lt 4 hx2
      have HT := Lib.hid hT
      have HB := Lib.hid hB
      clear hT hB
      generalize reg 4294967295 (s.data.toList.take k) = x at *
      generalize x ^^^ s[k].toNat = y at *
      have hn1 := nib_u32 y hx2
      have hn2 := nib_u32 (dnK 4 y) hx4
      have HN2 : Hid (dnK 4 (dnK 4 y) = dnK 8 y) := (dnK_add 4 4 y).symm
      go_wp2_with fail
      (with_reducible refine (left_calls w.heap.size y _ HT.out hx2).mono ?_)
      rintro e w1 ⟨rfl, hT1, hB1⟩
      have HT1 := Lib.hid hT1
      have HB1 := Lib.hid hB1
      clear hT1 hB1
      go_wp2_with fail
      (with_reducible refine (left_calls w.heap.size (dnK 4 y) _ HT1.out hx4).mono ?_)
      rintro e w2 ⟨rfl, hT2, hB2⟩
      have HT2 := Lib.hid hT2
      have HB2 := Lib.hid hB2
      clear hT2 hB2
      go_wp2_with fail
      go_roundw
      case rel => exact ⟨k + 1, by omega, by go_num, by rw [HS.out, HN2.out], HT2.out, HB.out.trans (HB1.out.trans HB2.out)⟩
      case measure => simp [intOf]; omega
    · go_wp2
      go_ret
      exact ⟨ret_int (by rw [not_reg s k (by omega)]), hB⟩
end Go.Proofs.Ytibgimlfhpjeeaa.Crc
