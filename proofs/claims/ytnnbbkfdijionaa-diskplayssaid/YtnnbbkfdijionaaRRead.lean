/- The document's own Read. No statement is proved here. -/
import Derived.Test.YtnnbbkfdijionaaFlush
namespace Go.Proofs.Ytnnbbkfdijionaa
open Go.RowKit

/-- The first one of a place. -/
def findF (wet : List Wt) (sure : List ByteArray) (a : Int) : ByteArray := match wet.find? (fun o => o.1 == a) with
  | some o => o.2
  | none => sure.getD a.toNat ByteArray.empty

theorem find_hit (wet : List Wt) (sure : List ByteArray) (a : Int) (k : Nat) (o : Wt) (h : ∀ j x, j < k → wet[j]? = some x → x.1 ≠ a) (hk : wet[k]? = some o) (ho : o.1 = a) : findF wet sure a = o.2 := by
  have e : wet.find? (fun o => o.1 == a) = some o := by
    induction wet generalizing k with
    | nil => simp at hk
    | cons y l ih =>
      cases k with
      | zero =>
        simp at hk
        subst hk
        simp [ho]
      | succ k =>
        have h0 := h 0 y (by omega) rfl
        have hf : (y.1 == a) = false := by simpa using h0
        rw [List.find?_cons, hf]
        exact ih k (fun j x hj hx => h (j + 1) x (by omega) (by simpa using hx)) (by simpa using hk)
  unfold findF
  rw [e]

theorem find_miss (wet : List Wt) (sure : List ByteArray) (a : Int) (h : ∀ (j : Nat) x, wet[j]? = some x → x.1 ≠ a) : findF wet sure a = sure.getD a.toNat ByteArray.empty := by
  have e : wet.find? (fun o => o.1 == a) = none := by
    rw [List.find?_eq_none]
    intro x hx
    obtain ⟨j, hj⟩ := List.getElem?_of_mem hx
    simpa using h j x hj
  unfold findF
  rw [e]

set_option maxHeartbeats 1000000 in
theorem rread_walk (v : Value) (d : DK) (at_ : Int) (w : World) (hv : IsDisk w v d) (hw : d.wet.length ≤ 2000) (h1 : 0 ≤ at_) (h2 : at_ < d.sure.length) (hde : d.dead = false) :
    Calls Try.prog 15 #[v, .int .i64 at_] w fun e w' => e = .returned (.tuple #[.string (findF d.wet d.sure at_), .int .i64 0]) ∧ Below w.heap.size w w' := by
  obtain ⟨sure, wet, dead, left⟩ := d
  dsimp only at hde h2 hw
  subst hde
  obtain ⟨_, _, rfl, h3, h4⟩ := hv
  obtain ⟨A, c, rfl, _, hr⟩ := h3
  obtain ⟨A', c', rfl, _, hr'⟩ := h4
  dsimp only at *
  obtain ⟨j, rfl⟩ := Int.eq_ofNat_of_zero_le h1
  obtain ⟨n, hn⟩ : ∃ n, n = sure.length := ⟨_, rfl⟩
  obtain ⟨m, hm⟩ : ∃ m, m = wet.length := ⟨_, rfl⟩
  rw [← hn] at hr h2 ⊢
  rw [← hm] at hr' hw ⊢
  have hd1 : decide ((j : Int) < 0) = false := by simp
  have hd2 : decide ((n : Int) ≤ (j : Int)) = false := by simp; omega
  have HR := Lib.hid hr
  have HR' := Lib.hid hr'
  have HN := Lib.hid hn
  have HM := Lib.hid hm
  clear hr hr' hn hm
  go_enter Try.func15, Try.ntmps15
  go_upto_region 1 with (fail)
  obtain ⟨X, g, eX, eg, hG, hb⟩ : ∃ X Bd, w.alloc (.cells #[.slice A n c, .slice A' m c', .bool false, .int .i64 left] 28) = X ∧ w.heap.size = Bd ∧ X.heap[Bd]? = some (.cells #[.slice A n c, .slice A' m c', .bool false, .int .i64 left] 28 (0, 0)) ∧ Below w.heap.size w X := ⟨_, _, rfl, rfl, heap_alloc_new _ _, (Below.refl _ _).alloc (Nat.le_refl _) _⟩
  rw [eX, eg]
  have HB := Lib.hid hb
  have EG := Lib.hid eg
  obtain ⟨⟨p0, p1, p2, p3⟩, _⟩ := box4 hG
  clear hG hb eX eg
  go_wp2_with fail
  go_loop [6] (fun u6 => ∃ i : Nat, i ≤ m ∧ u6 = .int .i64 i ∧ ∀ q x, q < i → wet[q]? = some x → x.1 ≠ (j : Int)) (fun u => m - (intOf u).toNat)
  case atStart => exact ⟨0, Nat.zero_le _, rfl, fun q x hq => absurd hq (by omega)⟩
  case round =>
    obtain ⟨i, hi, rfl, hno⟩ := hrel
    have HNO := Lib.hid hno
    clear hno
    by_cases hlt : i < m
    · obtain ⟨o, ho⟩ : ∃ o, wet[i]? = some o := ⟨_, List.getElem?_eq_getElem (by have := HM.out; omega)⟩
      obtain ⟨b, off, rfl, hbl, hcell⟩ := HR'.out.at_ (by omega)
      obtain ⟨hw0, hw1⟩ := wetCells_at wet i o ho
      have hc0 := (HB.out.cell (p := ⟨b, off + i * 2, none⟩) hbl).trans (hcell _ _ hw0)
      have hc1 := (HB.out.cell (p := ⟨b, off + i * 2 + 1, none⟩) hbl).trans (hcell _ _ hw1)
      have hi1 : (0 : Int) ≤ (i : Int) := by omega
      have hi2 : (i : Int) < (m : Int) := by omega
      have HO := Lib.hid ho
      obtain ⟨oa, od⟩ := o
      clear ho hw0 hw1 hcell
      dsimp only at hc0 hc1
      by_cases ha : oa = (j : Int)
      · subst ha
        go_wp2_with fail
        refine bodyPost_ret (v := .tuple #[.string od, .int .i64 0]) (by simp [results, Try.results15, go_sem]) rfl ⟨by rw [find_hit wet sure j i _ HNO.out HO.out rfl], ?_⟩
        exact HB.out
      · have hf : (oa == (j : Int)) = false := by simpa using ha
        go_wp2_with fail
        refine ⟨⟨i + 1, by omega, by go_num, fun q x hq hx => ?_⟩, by simp [intOf]; omega⟩
        by_cases e : q = i
        · subst e
          rw [HO.out] at hx
          injection hx with hx
          subst hx
          exact ha
        · exact HNO.out q x (by omega) hx
    · have hnl : decide ((i : Int) < (m : Int)) = false := by simp; omega
      obtain ⟨b, off, rfl, hbl, hcell⟩ := HR.out.at_ (by omega)
      have hc0 := (HB.out.cell (p := ⟨b, off + j, none⟩) hbl).trans (hcell j (.string (sure.getD j ByteArray.empty)) (by simp [List.getD, List.getElem?_eq_getElem (show j < sure.length by have := HN.out; omega)]))
      have hj1 : (0 : Int) ≤ (j : Int) := by omega
      have hj2 : (j : Int) < (n : Int) := by omega
      clear hcell
      have hfm := find_miss wet sure j (fun q x hx => HNO.out q x (by have := (List.getElem?_eq_some_iff.1 hx).1; have := HM.out; omega) hx)
      have HFM := Lib.hid hfm
      clear hfm
      go_wp2_with fail
      refine bodyPost_ret (v := .tuple #[.string (sure.getD j ByteArray.empty), .int .i64 0]) (by simp [results, Try.results15, go_sem]) rfl ⟨by rw [HFM.out]; simp, ?_⟩
      exact HB.out

theorem rread_arg (v : Value) (d : DK) (at_ : Int) (w : World) (hv : IsDisk w v d) (hbad : ¬ (0 ≤ at_ ∧ at_ < d.sure.length)) :
    Calls Try.prog 15 #[v, .int .i64 at_] w fun e w' => e = .returned (.tuple #[.string ⟨#[]⟩, .int .i64 1]) ∧ Below w.heap.size w w' := by
  obtain ⟨sure, wet, dead, left⟩ := d
  obtain ⟨_, _, rfl, ⟨A, c, rfl, _⟩, ⟨A', c', rfl, _⟩⟩ := hv
  dsimp only at *
  by_cases h : at_ < 0
  · have hd1 : decide (at_ < 0) = true := decide_eq_true h
    go_enter Try.func15, Try.ntmps15
    go_wp2
    exact bodyPost_ret (v := .tuple #[.string ⟨#[]⟩, .int .i64 1]) (by simp [results, Try.results15, go_sem]) rfl ⟨rfl, (Below.refl _ _).alloc (Nat.le_refl _) _⟩
  · have hd1 : decide (at_ < 0) = false := decide_eq_false h
    have hd2 : decide ((sure.length : Int) ≤ at_) = true := by simp; omega
    go_enter Try.func15, Try.ntmps15
    go_wp2
    exact bodyPost_ret (v := .tuple #[.string ⟨#[]⟩, .int .i64 1]) (by simp [results, Try.results15, go_sem]) rfl ⟨rfl, (Below.refl _ _).alloc (Nat.le_refl _) _⟩

theorem rread_down (v : Value) (d : DK) (at_ : Int) (w : World) (hv : IsDisk w v d) (h1 : 0 ≤ at_) (h2 : at_ < d.sure.length) (hd : d.dead = true) :
    Calls Try.prog 15 #[v, .int .i64 at_] w fun e w' => e = .returned (.tuple #[.string ⟨#[]⟩, .int .i64 12]) ∧ Below w.heap.size w w' := by
  obtain ⟨sure, wet, dead, left⟩ := d
  obtain ⟨_, _, rfl, ⟨A, c, rfl, _⟩, ⟨A', c', rfl, _⟩⟩ := hv
  dsimp only at *
  subst hd
  have hd1 : decide (at_ < 0) = false := decide_eq_false (by omega)
  have hd2 : decide ((sure.length : Int) ≤ at_) = false := by simp; omega
  go_enter Try.func15, Try.ntmps15
  go_wp2
  exact bodyPost_ret (v := .tuple #[.string ⟨#[]⟩, .int .i64 12]) (by simp [results, Try.results15, go_sem]) rfl ⟨rfl, (Below.refl _ _).alloc (Nat.le_refl _) _⟩

end Go.Proofs.Ytnnbbkfdijionaa
