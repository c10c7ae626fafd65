/- Contracts and plain mathematics that the statement's proof wants: no statement is proved here, nothing is assumed. -/
import Derived.BigQuiet
import Derived.Test.YtgeiemccjionpaaGreatMg06
import Derived.Test.YtgeiemccjionpaaGreatMg14
/- DRSame -/
namespace Go.Proofs.YtgeiemccjionpaaGreat.Dsk
open Go.RowKit
attribute [local go_sem ↓] Go.wp_at_zero Go.wp_at_succ

theorem two_new (w : World) (a b : Obj) : ∃ X g1 g2, (w.alloc a).alloc b = X ∧ w.heap.size = g1 ∧ w.heap.size + 1 = g2 ∧ X.heap[g1]? = some a ∧ X.heap[g2]? = some b ∧ Below w.heap.size w X := by
  refine ⟨_, _, _, rfl, rfl, rfl, box_alloc (heap_alloc_new w a) b, ?_, ((Below.refl _ _).alloc (Nat.le_refl _) _).alloc (by simp) _⟩
  have := heap_alloc_new (w.alloc a) b
  simpa using this

set_option maxRecDepth 100000 in
set_option maxHeartbeats 2000000 in
theorem rsame_calls (v u : Value) (d : DK) (w : World) (hv : IsDisk w v d) (hu : IsDisk w u d) (hs : d.sure.length ≤ 1000000) (hw : d.wet.length ≤ 1000000) :
    Calls Tryz.prog 44 #[v, u] w fun e w' => e = .returned (.bool true) ∧ Below w.heap.size w w' := by
  obtain ⟨sure, wet, dead, left⟩ := d
  obtain ⟨_, _, rfl, ⟨A, c, rfl, _, hr⟩, ⟨B, e, rfl, _, hq⟩⟩ := hv
  obtain ⟨_, _, rfl, ⟨A', c', rfl, _, hr'⟩, ⟨B', e', rfl, _, hq'⟩⟩ := hu
  dsimp only at *
  obtain ⟨n, hn⟩ : ∃ n, n = sure.length := ⟨_, rfl⟩
  obtain ⟨m, hm⟩ : ∃ m, m = wet.length := ⟨_, rfl⟩
  rw [← hn] at hr hr' hs ⊢
  rw [← hm] at hq hq' hw ⊢
  have HN := Lib.hid hn
  have HM := Lib.hid hm
  have HR := Lib.hid hr
  have HR' := Lib.hid hr'
  have HQ := Lib.hid hq
  have HQ' := Lib.hid hq'
  clear hn hm hr hr' hq hq'
  go_enter Tryz.func44, Tryz.ntmps44
  go_upto_region 1 with (fail)
  obtain ⟨X, g2, g3, eX, e1, e2, hG, hG', hb⟩ := two_new w (.cells #[.slice A n c, .slice B m e, .bool dead, .int .i64 left] 27) (.cells #[.slice A' n c', .slice B' m e', .bool dead, .int .i64 left] 27)
  rw [eX, e2, e1]
  have HG := Lib.hid hG
  have HG' := Lib.hid hG'
  have HB := Lib.hid hb
  clear eX e1 e2 hb
  obtain ⟨⟨p0, p1, p2, p3⟩, _⟩ := box4 hG
  obtain ⟨⟨q0, q1, q2, q3⟩, _⟩ := box4 hG'
  clear hG hG'
  go_wp2_with fail
  go_loopw [5] (fun u wr => ∃ i : Nat, i ≤ n ∧ u = .int .i64 i ∧ Below X.heap.size X wr) (fun u _ => n - (intOf u).toNat)
  case atStart => exact ⟨0, Nat.zero_le _, rfl, Below.refl _ _⟩
  case round =>
    obtain ⟨i, hi, rfl, hbr⟩ := hrel
    have HBR := Lib.hid hbr
    clear hbr p0 p1 p2 p3 q0 q1 q2 q3
    obtain ⟨⟨p0, p1, p2, p3⟩, _⟩ := box4 (box_kept _ HG.out HBR.out)
    obtain ⟨⟨q0, q1, q2, q3⟩, _⟩ := box4 (box_kept _ HG'.out HBR.out)
    by_cases hlt : i < n
    · obtain ⟨b, off, rfl, hbl, hc⟩ := HR.out.at_ (by omega)
      obtain ⟨b', off', rfl, hbl', hc'⟩ := HR'.out.at_ (by omega)
      obtain ⟨S, hS⟩ : ∃ S, (sure.map Value.string)[i]? = some (.string S) := ⟨sure[i]'(by have := HN.out; omega), by simp [List.getElem?_eq_getElem (show i < sure.length by have := HN.out; omega)]⟩
      have hx := ((below_trans' HB.out HBR.out).cell (p := ⟨b, off + i, none⟩) hbl).trans (hc i _ hS)
      have hy := ((below_trans' HB.out HBR.out).cell (p := ⟨b', off' + i, none⟩) hbl').trans (hc' i _ hS)
      have hi1 : (0 : Int) ≤ (i : Int) := by omega
      have hi2 : (i : Int) < (n : Int) := by omega
      clear hc hc' hS
      go_wp2_with fail
      go_quiet (fail)
      go_wp2_with fail
      exact ⟨⟨i + 1, by omega, by go_num, HBR.out.trans ⟨rfl, rfl, rfl, Nat.le_refl _, fun _ _ => rfl⟩⟩, by simp [intOf]; omega⟩
    · have hnl : decide ((i : Int) < (n : Int)) = false := by simp; omega
      go_wp2_with fail
      go_loopw [6] (fun u wr => ∃ i : Nat, i ≤ m ∧ u = .int .i64 i ∧ Below X.heap.size X wr) (fun u _ => m - (intOf u).toNat)
      case atStart => exact ⟨0, Nat.zero_le _, rfl, HBR.out⟩
      case round =>
        clear HBR p0 p1 p2 p3 q0 q1 q2 q3
        obtain ⟨k, hk, rfl, hbr⟩ := hrel
        have HBR := Lib.hid hbr
        clear hbr
        obtain ⟨⟨p0, p1, p2, p3⟩, _⟩ := box4 (box_kept _ HG.out HBR.out)
        obtain ⟨⟨q0, q1, q2, q3⟩, _⟩ := box4 (box_kept _ HG'.out HBR.out)
        by_cases hlt2 : k < m
        · obtain ⟨b, off, rfl, hbl, hc⟩ := HQ.out.at_ (by omega)
          obtain ⟨b', off', rfl, hbl', hc'⟩ := HQ'.out.at_ (by omega)
          obtain ⟨o, ho⟩ : ∃ o, wet[k]? = some o := ⟨_, List.getElem?_eq_getElem (by have := HM.out; omega)⟩
          obtain ⟨hw0, hw1⟩ := wetCells_at wet k o ho
          have hbb := below_trans' HB.out HBR.out
          have hx0 := (hbb.cell (p := ⟨b, off + k * 2, none⟩) hbl).trans (hc _ _ hw0)
          have hx1 := (hbb.cell (p := ⟨b, off + k * 2 + 1, none⟩) hbl).trans (hc _ _ hw1)
          have hy0 := (hbb.cell (p := ⟨b', off' + k * 2, none⟩) hbl').trans (hc' _ _ hw0)
          have hy1 := (hbb.cell (p := ⟨b', off' + k * 2 + 1, none⟩) hbl').trans (hc' _ _ hw1)
          have hi1 : (0 : Int) ≤ (k : Int) := by omega
          have hi2 : (k : Int) < (m : Int) := by omega
          obtain ⟨oa, od⟩ := o
          dsimp only at hx0 hx1 hy0 hy1
          clear hc hc' ho hw0 hw1 hbb
          go_wp2_with fail
          go_quiet (fail)
          go_wp2_with fail
          exact ⟨⟨k + 1, by omega, by go_num, HBR.out.trans ⟨rfl, rfl, rfl, Nat.le_refl _, fun _ _ => rfl⟩⟩, by simp [intOf]; omega⟩
        · have hnl2 : decide ((k : Int) < (m : Int)) = false := by simp; omega
          go_wp2_with fail
          go_ret
          exact ⟨rfl, below_trans' HB.out HBR.out⟩

end Go.Proofs.YtgeiemccjionpaaGreat.Dsk
