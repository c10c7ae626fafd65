/- The function that a table hands to its Once: it reckons the sixteen rows. No statement is proved here. -/
import Derived.Test.YtibgimlfhpjeeaaCSync
import Derived.StillTailTactics
import Derived.Deep.RegionWith
namespace Go.Proofs.Ytibgimlfhpjeeaa.Crc
open Go.RowKit

set_option maxHeartbeats 1000000 in
theorem fill_calls (b : Nat) (p q : Addr) (d m : Int) (w : World) (hp : w.cell? p = some (.func (.func 46) #[] #[])) (hq : w.cell? q = some (.pointer (some ⟨b, 0, none⟩)))
    (hpb : p.block ≠ b) (hqb : q.block ≠ b) (ht : TabK w b d m 0) :
    Calls Try.prog 50 #[.pointer (some p), .pointer (some q)] w fun e w' => e = .returned (.tuple #[]) ∧ Only b w w' ∧ TabK w' b d m 16 := by
  go_enter Try.func50, Try.ntmps50
  go_wp2
  go_loopw [3] (fun i wr => ∃ k : Nat, k ≤ 16 ∧ i = .int .i64 k ∧ Only b w wr ∧ TabK wr b d m k) (fun i _ => 16 - (intOf i).toNat)
  case atStart => exact ⟨0, Nat.zero_le _, rfl, Only.refl _ _, ht⟩
  case round =>
    obtain ⟨k, hk, rfl, hO, hT⟩ := hrel
    by_cases h : k < 16
    · have c1 := (hO.cell hpb).trans hp
      have c2 := (hO.cell hqb).trans hq
      obtain ⟨x, c3⟩ := hT.some_ (3 + k) (by omega)
      have c4 := hT.free (3 + k)
      have HO := Lib.hid hO
      have HT := Lib.hid hT
      clear hO hT hp hq ht
      go_wp2
      have hm : IntKind.u32.wrap (k : Int) = k := by rw [IntKind.wrap_u32']; omega
      go_region_with (first | (go_at_call 46; (with_reducible refine (four_calls k _ (by omega)).mono ?_); rintro e w' ⟨rfl, rfl⟩))
      all_goals
        go_wp2
        go_roundw
        case rel => exact ⟨k + 1, by omega, by go_num, (HO.out.setCell _ rfl _).drew, (HT.out.setRow h).drew⟩
        case measure => simp [intOf]; omega
    · go_wp2
      go_end0
      obtain rfl : k = 16 := by omega
      exact ⟨rfl, hO, hT⟩

set_option maxRecDepth 100000 in
set_option maxHeartbeats 1600000 in
theorem slow_calls (b : Nat) (p q : Addr) (w : World) (hp : w.cell? p = some (.func (.func 46) #[] #[])) (hq : w.cell? q = some (.pointer (some ⟨b, 0, none⟩)))
    (hpb : p.block ≠ b) (hqb : q.block ≠ b) (ht : TabK w b 0 0 0) :
    Calls Try.prog 52 #[.pointer (some ⟨b, 0, none⟩), .func (.func 50) #[] #[.pointer (some p), .pointer (some q)]] w fun e w' => e = .returned (.tuple #[]) ∧ Only b w w' ∧ TabK w' b 1 0 16 := by
  have ht1 := ht.setLock 1
  have hO1 := (Only.refl b w).setCell ⟨b, 1, none⟩ rfl (.int .i32 1)
  have c0 := ht.lock
  have f0 := ht.free 1
  have hl := run_call_load (P := Try.prog) Try.func53 (by kernel_rfl) (by kernel_rfl) (by kernel_rfl) .u32 (by kernel_rfl) (w := w.setCell ⟨b, 1, none⟩ (.int .i32 1)) (a := ⟨b, 0, none⟩) (x := 0) ht1.done
  have hp1 := (hO1.cell hpb).trans hp
  have hq1 := (hO1.cell hqb).trans hq
  have hnot : ∀ (x : Bool) (w : World), (Op.unary .not (.bool x)).run Try.prog w = .ok (.bool (!x)) w := fun _ _ => rfl
  have HT := Lib.hid ht1
  have HO := Lib.hid hO1
  have HP := Lib.hid hp1
  have HQ := Lib.hid hq1
  clear ht1 hO1 hp1 hq1 hp hq ht
  go_enter_defers Try.func52, Try.ntmps52
  go_wp2_with (first | (go_at_call 54; (with_reducible refine (lock_free ⟨b, 1, none⟩ _ (by go_simp) (by go_simp)).mono ?_); rintro e w' ⟨rfl, rfl⟩) | (go_at_call 51; go_in) | (go_at_call 50; (with_reducible refine (fill_calls b p q 0 1 _ HP.out HQ.out hpb hqb HT.out).mono ?_); rintro e w' ⟨rfl, hO2, hT2⟩))
  have hT3 := hT2.drew.setDone 1
  have hT4 := hT3.setLock 0
  refine leaves_cons (f := 56) (args := #[.pointer (some ⟨b, 0, none⟩), .bool true]) (by simp) (by simp [go_sem]) ?_
  refine (store_deferred ⟨b, 0, none⟩ (.int .u32 0) .returning _ hT2.done (hT2.free 0)).mono ?_
  rintro e u' w'' ⟨rfl, rfl, rfl⟩
  refine leaves_cons (f := 55) (args := #[.pointer (some ⟨b, 1, none⟩)]) (by simp [settle]) (by simp [go_sem]) ?_
  refine (unlock_deferred ⟨b, 1, none⟩ _ _ hT3.lock (hT3.free 1)).mono ?_
  rintro e u' w'' ⟨rfl, rfl, rfl⟩
  have hO5 := HO.out.trans ((hO2.drew.setCell ⟨b, 0, none⟩ rfl (.int .u32 1)).setCell ⟨b, 1, none⟩ rfl (.int .i32 0))
  simp [Leaves, settle, results, Try.results52]
  exact ⟨hO5, hT4⟩

set_option maxRecDepth 100000 in
set_option maxHeartbeats 1600000 in
theorem do_first (b : Nat) (p q : Addr) (w : World) (hp : w.cell? p = some (.func (.func 46) #[] #[])) (hq : w.cell? q = some (.pointer (some ⟨b, 0, none⟩)))
    (hpb : p.block ≠ b) (hqb : q.block ≠ b) (ht : TabK w b 0 0 0) :
    Calls Try.prog 49 #[.pointer (some ⟨b, 0, none⟩), .func (.func 50) #[] #[.pointer (some p), .pointer (some q)]] w fun e w' => e = .returned (.tuple #[]) ∧ Only b w w' ∧ TabK w' b 1 0 16 := by
  have hl := run_call_load (P := Try.prog) Try.func53 (by kernel_rfl) (by kernel_rfl) (by kernel_rfl) .u32 (by kernel_rfl) ht.done
  have hnot : ∀ (x : Bool) (w : World), (Op.unary .not (.bool x)).run Try.prog w = .ok (.bool (!x)) w := fun _ _ => rfl
  have HS := Lib.hid (slow_calls b p q w hp hq hpb hqb ht)
  clear hp hq ht
  go_enter Try.func49, Try.ntmps49
  go_wp2_with (first | (go_at_call 52; (with_reducible refine HS.out.mono ?_); rintro e w' ⟨rfl, hO2, hT2⟩) | (go_at_call 51; go_in))
  go_end0
  exact ⟨rfl, hO2, hT2⟩

theorem do_done (b : Nat) (fv : Value) (w : World) (ht : TabK w b 1 0 16) :
    Calls Try.prog 49 #[.pointer (some ⟨b, 0, none⟩), fv] w fun e w' => e = .returned (.tuple #[]) ∧ w = w' := by
  have hl := run_call_load (P := Try.prog) Try.func53 (by kernel_rfl) (by kernel_rfl) (by kernel_rfl) .u32 (by kernel_rfl) ht.done
  have hnot : ∀ (x : Bool) (w : World), (Op.unary .not (.bool x)).run Try.prog w = .ok (.bool (!x)) w := fun _ _ => rfl
  clear ht
  go_enter Try.func49, Try.ntmps49
  go_wp2
  go_end0
  exact ⟨rfl, rfl⟩

end Go.Proofs.Ytibgimlfhpjeeaa.Crc
