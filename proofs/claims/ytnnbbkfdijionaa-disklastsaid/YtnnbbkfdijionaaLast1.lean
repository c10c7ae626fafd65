/- DiskLast's walk. No statement is proved here. -/
import Derived.Test.YtnnbbkfdijionaaAwake
import Derived.Deep.RegionHeld3
import Derived.Deep.DrawnRows
import Derived.Deep.QuietTactic
import Derived.BigQuiet
import Derived.Lib.QuietBelow
namespace Go.Proofs.Ytnnbbkfdijionaa
open Go.RowKit
attribute [local go_sem ↓] Go.wp_at_zero Go.wp_at_succ

/-- A slice of strings that came in. -/
def StrIn (w : World) (A : Option Addr) (len : Nat) (ss : List ByteArray) : Prop :=
  ss.length = len ∧ (0 < len → ∃ b off, A = some ⟨b, off, none⟩ ∧ b < w.heap.size ∧ ∀ (j : Nat) (s : ByteArray), ss[j]? = some s → w.cell? ⟨b, off + j, none⟩ = some (.string s))

theorem dataList_ne {a b : ByteArray} (h : ¬ a = b) : (a.data.toList == b.data.toList) = false := by
  rw [Bool.eq_false_iff]
  intro e
  have e1 := eq_of_beq e
  apply h
  cases a with | mk x => cases b with | mk y => simpa using e1

theorem toList_ne {a b : ByteArray} (h : ¬ a = b) : (a.toList == b.toList) = false := by
  rw [ByteArray.toList_eq, ByteArray.toList_eq]
  exact dataList_ne h

/-- What is to be in the one sector, and what was written last. -/
def LS (k : Nat) (wet : List Wt) (last : ByteArray) : Prop := last.size ≤ 256 ∧ ((wet = [] ∧ last = ⟨#[]⟩) ∨ wet = [((k : Int), padB last)])

theorem LS.write {k : Nat} {wet : List Wt} {last data : ByteArray} {zs : List ByteArray} (h : LS k wet last) : writeD ⟨zs, wet, false, -1⟩ k data = ⟨zs, [((k : Int), padB data)], false, -1⟩ := by
  rcases h.2 with ⟨rfl, _⟩ | rfl
  · simp [writeD, deedB, deedD, withF, withSt]
  · simp [writeD, deedB, deedD, withF, withSt, stepW]

/-- What holds at each round's head. -/
structure LastRel (w : World) (Bd k : Nat) (zs : List ByteArray) (last : ByteArray) (A B : Option Addr) (c m d : Nat) (wet : List Wt) (wr : World) : Prop where
  ls : LS k wet last
  box : wr.heap[Bd]? = some (.cells #[.slice A 4 c, .slice B m d, .bool false, .int .i64 (-1)] 28 (0, 0))
  disk : IsDisk wr (.agg #[.slice A 4 c, .slice B m d, .bool false, .int .i64 (-1)]) ⟨zs, wet, false, -1⟩
  below : Below w.heap.size w wr
  le : w.heap.size ≤ Bd

theorem box_drew {W : World} {o : Obj} {g : Nat} (h : W.heap[g]? = some o) : W.drew.heap[g]? = some o := h
theorem zero_kept (wr y : World) (hb : Below (wr.alloc (.cells #[.slice none 0 0, .slice none 0 0, .bool false, .int .i64 0] 28)).drew.heap.size (wr.alloc (.cells #[.slice none 0 0, .slice none 0 0, .bool false, .int .i64 0] 28)).drew y) :
    y.heap[wr.heap.size]? = some (.cells #[.slice none 0 0, .slice none 0 0, .bool false, .int .i64 0] 28 (0, 0)) := box_kept _ (box_drew (heap_alloc_new wr _)) hb
theorem IsDisk.drew_ {w : World} {v : Value} {d : DK} (h : IsDisk w v d) : IsDisk w.drew v d := h
theorem IsDisk.alloc_ {w : World} {v : Value} {d : DK} (h : IsDisk w v d) (o : Obj) : IsDisk (w.alloc o) v d := h.below ((Below.refl _ _).alloc (Nat.le_refl _) _)
theorem below_alloc2 {a w : World} (h : Below a.heap.size a w) (o : Obj) : Below a.heap.size a (w.alloc o) := h.alloc h.size o
/-- The disk's box, and a cell, behind whatever turned nothing old. -/
theorem keep5 {wr W : World} {Bd b o : Nat} {v0 v1 v2 v3 u : Value} {t : TypeId} (hb : Below wr.heap.size wr W) (_h : True) (hbz : b < wr.heap.size) (hz : Bd < wr.heap.size) (hc : wr.cell? ⟨b, o, none⟩ = some u) (hg : wr.heap[Bd]? = some (.cells #[v0, v1, v2, v3] t (0, 0))) :
    W.cell? ⟨Bd, 0, none⟩ = some v0 ∧ W.cell? ⟨Bd, 1, none⟩ = some v1 ∧ W.cell? ⟨Bd, 2, none⟩ = some v2 ∧ W.cell? ⟨Bd, 3, none⟩ = some v3 ∧ W.cell? ⟨b, o, none⟩ = some u := by
  obtain ⟨⟨c0, c1, c2, c3⟩, _⟩ := box4 (box_kept _ hg hb)
  exact ⟨c0, c1, c2, c3, (hb.cell (p := ⟨b, o, none⟩) hbz).trans hc⟩

/-- What Read and Start come to, of one sector that was written again and again. -/
theorem last_end (k : Nat) (wet : List Wt) (last : ByteArray) (zs : List ByteArray) (stay : Nat) (hk : k < 4) (hz : zs = List.replicate 4 (padB ⟨#[]⟩)) (h : LS k wet last) :
    readF wet zs k = padB last ∧ ((settleF stay wet zs).getD k ByteArray.empty = padB last ∨ ((settleF stay wet zs).getD k ByteArray.empty = padB ⟨#[]⟩ ∧ stay.testBit 0 = false)) := by
  have hzk : zs.getD k ByteArray.empty = padB ⟨#[]⟩ := by rw [hz, List.getD, List.getElem?_replicate, if_pos hk]; rfl
  have hzl : zs.length = 4 := by rw [hz]; simp
  rcases h.2 with ⟨rfl, rfl⟩ | rfl
  · refine ⟨?_, .inl ?_⟩
    · show zs.getD ((k : Int)).toNat ByteArray.empty = _
      rw [Int.toNat_natCast]; exact hzk
    · exact hzk
  · refine ⟨by simp [readF], ?_⟩
    have e : settleF stay [((k : Int), padB last)] zs = setStep stay 0 ((k : Int), padB last) zs := rfl
    rw [e]
    unfold setStep
    by_cases hb : stay.testBit 0 = true
    · left
      rw [if_pos ⟨hb, by simp, by dsimp only; omega⟩]
      simp [List.getD, show k < zs.length by omega]
    · right
      rw [if_neg (fun h => hb (by simpa using h.1))]
      exact ⟨hzk, by simpa using hb⟩

theorem bit0 (stay : Nat) (h : stay < 18446744073709551616) (hb : stay.testBit 0 = false) : bits .and .u64 (stay : Int) 1 = 0 := by
  have h1 := bit_test stay 0 h
  simp only [Int.pow_zero, Int.ediv_one, hb] at h1
  simpa using h1

/-- A sector of a disk of four, by its place. -/
theorem sure_at {W : World} {A B : Option Addr} {c m d : Nat} {b : Bool} {l : Int} {ys : List ByteArray} {wet : List Wt} (h : IsDisk W (.agg #[.slice A 4 c, .slice B m d, .bool b, .int .i64 l]) ⟨ys, wet, b, l⟩) (k : Nat) (hk : k < 4) (hy : ys.length = 4) :
    ∃ bk off, A = some ⟨bk, off, none⟩ ∧ bk < W.heap.size ∧ W.cell? ⟨bk, off + k, none⟩ = some (.string (ys.getD k ByteArray.empty)) := by
  obtain ⟨vs, vw, e, ⟨A1, c1, e1, _, hr⟩, _⟩ := h
  simp only [Value.agg.injEq, Array.mk.injEq, List.cons.injEq] at e
  obtain ⟨e0, _⟩ := e
  rw [e1] at e0
  injection e0 with e2 e3 e4
  subst e2
  obtain ⟨bk, off, ea, hb, hc⟩ := hr.at_ (by dsimp only; omega)
  refine ⟨bk, off, ea, hb, hc k _ ?_⟩
  simp [List.getD, List.getElem?_eq_getElem (show k < ys.length by omega)]

/-- Behind a Write in a round: the answer stands in a box of its own, the disk is as it was. -/
structure After (w wr : World) (Bd : Nat) (A B : Option Addr) (c m d : Nat) (A2 B2 : Option Addr) (c2 m2 d2 : Nat) (zs : List ByteArray) (wet2 : List Wt) (X : World) (g : Nat) : Prop where
  boxD : X.heap[Bd]? = some (.cells #[.slice A 4 c, .slice B m d, .bool false, .int .i64 (-1)] 28 (0, 0))
  boxG : X.heap[g]? = some (.cells #[.slice A2 4 c2, .slice B2 m2 d2, .bool false, .int .i64 (-1)] 28 (0, 0))
  disk : IsDisk X (.agg #[.slice A2 4 c2, .slice B2 m2 d2, .bool false, .int .i64 (-1)]) ⟨zs, wet2, false, -1⟩
  below : Below wr.heap.size wr X
  all : Below w.heap.size w X

theorem After.fin {w wr : World} {Bd k : Nat} {A B : Option Addr} {c m d : Nat} {A2 B2 : Option Addr} {c2 m2 d2 : Nat} {zs : List ByteArray} {wet2 : List Wt} {X : World} {g : Nat} {last : ByteArray} (h : After w wr Bd A B c m d A2 B2 c2 m2 d2 zs wet2 X g) (hl : LS k wet2 last) (hle : w.heap.size ≤ Bd) :
    LastRel w Bd k zs last A2 B2 c2 m2 d2 wet2 ((((X.setCell ⟨Bd, 0, none⟩ (.slice A2 4 c2)).setCell ⟨Bd, 1, none⟩ (.slice B2 m2 d2)).setCell ⟨Bd, 2, none⟩ (.bool false)).setCell ⟨Bd, 3, none⟩ (.int .i64 (-1))) :=
  ⟨hl, heap_store4 h.boxD, h.disk.other h.boxD (by decide) (by decide) (store4_other _ _ _ _ _ _), below_store4 h.all _ hle _ _ _ _, hle⟩

theorem after_A {w wr y : World} {Bd : Nat} {A B : Option Addr} {c m d : Nat} {A2 B2 : Option Addr} {c2 m2 d2 : Nat} {zs : List ByteArray} {wet2 : List Wt} (hb : Below wr.drew.heap.size wr.drew y) (hv : IsDisk y (.agg #[.slice A2 4 c2, .slice B2 m2 d2, .bool false, .int .i64 (-1)]) ⟨zs, wet2, false, -1⟩)
    (hbox : wr.heap[Bd]? = some (.cells #[.slice A 4 c, .slice B m d, .bool false, .int .i64 (-1)] 28 (0, 0))) (hw : Below w.heap.size w wr) :
    ∃ X g, y.alloc (.cells #[.slice A2 4 c2, .slice B2 m2 d2, .bool false, .int .i64 (-1)] 28) = X ∧ y.heap.size = g ∧ After w wr Bd A B c m d A2 B2 c2 m2 d2 zs wet2 X g := by
  have hb' := below_of_drew hb
  have hX := below_trans' hb' ((Below.refl _ y).alloc (Nat.le_refl _) (.cells #[.slice A2 4 c2, .slice B2 m2 d2, .bool false, .int .i64 (-1)] 28))
  exact ⟨_, _, rfl, rfl, box_kept _ hbox hX, heap_alloc_new _ _, hv.below ((Below.refl _ y).alloc (Nat.le_refl _) _), hX, below_trans' hw hX⟩

theorem after_B {w wr y : World} {Bd : Nat} {A B : Option Addr} {c m d : Nat} {A2 B2 : Option Addr} {c2 m2 d2 : Nat} {zs : List ByteArray} {wet2 : List Wt} (hb : Below (wr.alloc (.cells #[.slice none 0 0, .slice none 0 0, .bool false, .int .i64 0] 28)).drew.heap.size (wr.alloc (.cells #[.slice none 0 0, .slice none 0 0, .bool false, .int .i64 0] 28)).drew y) (hv : IsDisk y (.agg #[.slice A2 4 c2, .slice B2 m2 d2, .bool false, .int .i64 (-1)]) ⟨zs, wet2, false, -1⟩)
    (hbox : wr.heap[Bd]? = some (.cells #[.slice A 4 c, .slice B m d, .bool false, .int .i64 (-1)] 28 (0, 0))) (hw : Below w.heap.size w wr) :
    ∃ X g, (((y.setCell ⟨wr.heap.size, 0, none⟩ (.slice A2 4 c2)).setCell ⟨wr.heap.size, 1, none⟩ (.slice B2 m2 d2)).setCell ⟨wr.heap.size, 2, none⟩ (.bool false)).setCell ⟨wr.heap.size, 3, none⟩ (.int .i64 (-1)) = X ∧ wr.heap.size = g ∧ After w wr Bd A B c m d A2 B2 c2 m2 d2 zs wet2 X g := by
  have hz := zero_kept wr y hb
  have hb' := below_trans' ((Below.refl _ wr).alloc (Nat.le_refl _) (.cells #[.slice none 0 0, .slice none 0 0, .bool false, .int .i64 0] 28)) (below_of_drew hb)
  have hX := below_store4 hb' wr.heap.size (Nat.le_refl _) (.slice A2 4 c2) (.slice B2 m2 d2) (.bool false) (.int .i64 (-1))
  exact ⟨_, _, rfl, rfl, box_kept _ hbox hX, heap_store4 hz, hv.other hz (by decide) (by decide) (store4_other _ _ _ _ _ _), hX, below_trans' hw hX⟩

set_option maxRecDepth 100000 in
set_option maxHeartbeats 4000000 in
theorem last_calls (A0 : Option Addr) (len cap : Nat) (ss : List ByteArray) (at_ stay : Nat) (w : World) (hat : at_ < 256) (hst : stay < 18446744073709551616) (hlm : len ≤ 9223372036854775807) (hR : StrIn w A0 len ss) :
    Calls Try.prog 7 #[.slice A0 len cap, .int .u8 at_, .int .u64 stay] w fun e w' => e = .returned (.bool true) ∧ Below w.heap.size w w' := by
  by_cases h20 : 20 < len
  · have hd : decide ((20 : Int) < len) = true := by simp; omega
    clear hR hst
    go_enter Try.func7, Try.ntmps7
    go_wp2_with (go_at_call 9; refine (awake_true _).mono ?_; rintro e w1 ⟨rfl, hb⟩)
    go_ret
    exact ⟨rfl, hb⟩
  · have hd : decide ((20 : Int) < len) = false := by simp; omega
    obtain ⟨k, hk⟩ : ∃ k, k = at_ % 4 := ⟨_, rfl⟩
    have hk4 : k < 4 := by omega
    have hki : (at_ : Int) % 4 = (k : Int) := by omega
    have HR := Lib.hid hR
    have HST := Lib.hid hst
    have HK := Lib.hid hk
    have HKI := Lib.hid hki
    have hln : len ≤ 20 := by omega
    obtain ⟨zs, hzs⟩ : ∃ zs, zs = List.replicate 4 (padB ⟨#[]⟩) := ⟨_, rfl⟩
    have hnew : ∀ W : World, Calls Try.prog 10 #[.int .i64 4] W fun e w' => ∃ A c B d, e = .returned (.tuple #[.agg #[.slice A 4 c, .slice B 0 d, .bool false, .int .i64 (-1)], .int .i64 0]) ∧ IsDisk w' (.agg #[.slice A 4 c, .slice B 0 d, .bool false, .int .i64 (-1)]) ⟨zs, [], false, -1⟩ ∧ Below W.heap.size W w' := fun W => by
      refine (new_calls 4 (by omega) (by omega) W).mono ?_
      rintro e w' ⟨v, rfl, hv, hb⟩
      have e1 : newD 4 = ⟨zs, [], false, -1⟩ := by rw [hzs]; rfl
      rw [e1] at hv
      obtain ⟨A, c, A', c', rfl⟩ := parts_of hv 4 0 false (-1) (by rw [hzs]; rfl) rfl rfl rfl
      exact ⟨A, c, A', c', rfl, hv, hb⟩
    have HNEW := Lib.hid hnew
    have HZS := Lib.hid hzs
    clear hR hst hk hki hnew h20 hzs
    go_enter Try.func7, Try.ntmps7
    go_upto_region 4 with (go_at_call 10; refine (HNEW.out _).mono ?_; rintro e w1 ⟨A1, c1, B1, d1, rfl, hv, hb⟩; have HW1 := Lib.hid hv; have HWB1 := Lib.hid hb; clear hv hb)
    obtain ⟨X1, Bd, eX, eB, hG, hB⟩ := box_new w1 (.slice A1 4 c1) (.slice B1 0 d1) (.bool false) (.int .i64 (-1))
    rw [eX, eB]
    have hle : w.heap.size ≤ Bd := by rw [← eB]; exact HWB1.out.size
    have hrel0 : LastRel w Bd k zs ⟨#[]⟩ A1 B1 c1 0 d1 [] X1 := ⟨⟨by simp [ByteArray.size], .inl ⟨rfl, rfl⟩⟩, hG, HW1.out.below hB, below_trans' HWB1.out hB, hle⟩
    clear eX eB hG hB HW1 HWB1 HNEW
    go_wp2_with fail
    rw [HKI.out]
    generalize Value.tuple #[Value.agg #[Value.slice A1 4 c1, Value.slice B1 0 d1, Value.bool false, Value.int IntKind.i64 (-1)], Value.int IntKind.i64 0] = tu1
    generalize Value.agg #[Value.slice A1 4 c1, Value.slice B1 0 d1, Value.bool false, Value.int IntKind.i64 (-1)] = ag1
    go_loopw [10, 11] (fun u10 u11 wr => ∃ (i : Nat) (last : ByteArray) (A B : Option Addr) (c m d : Nat) (wet : List Wt), i ≤ len ∧ u11 = .int .i64 i ∧ u10 = .string last ∧ LastRel w Bd k zs last A B c m d wet wr) (fun _ u _ => len - (intOf u).toNat)
    case atStart => exact ⟨0, ⟨#[]⟩, A1, B1, c1, 0, d1, [], Nat.zero_le _, rfl, rfl, hrel0⟩
    case round =>
      obtain ⟨i, last, A, B, c, m, d, wet, hi, rfl, rfl, hrel⟩ := hrel
      clear hrel0
      by_cases hlt : i < len
      · obtain ⟨s, hs⟩ : ∃ s, ss[i]? = some s := ⟨_, List.getElem?_eq_getElem (by have := HR.out.1; omega)⟩
        obtain ⟨b, off, rfl, hbl, hcell⟩ := HR.out.2 (by omega)
        have hc0 : wr.cell? ⟨b, off + i, none⟩ = some (.string s) := (hrel.below.cell (p := ⟨b, off + i, none⟩) hbl).trans (hcell i s hs)
        obtain ⟨⟨p0, p1, p2, p3⟩, f0, f1, f2, f3⟩ := box4 hrel.box
        have hz : Bd < wr.heap.size := (Array.getElem?_eq_some_iff.1 hrel.box).1
        have hbz : b < wr.heap.size := by have := hrel.below.size; omega
        have hi1 : (0 : Int) ≤ (i : Int) := by omega
        have hi2 : (i : Int) < (len : Int) := by omega
        clear hcell hs
        by_cases h256 : s.size ≤ 256
        · have hle256 : decide ((s.size : Int) ≤ 256) = true := by simp; omega
          have hwr : ∀ W : World, IsDisk W (.agg #[.slice A 4 c, .slice B m d, .bool false, .int .i64 (-1)]) ⟨zs, wet, false, -1⟩ → Calls Try.prog 22 #[.agg #[.slice A 4 c, .slice B m d, .bool false, .int .i64 (-1)], .int .i64 k, .string s] W fun e w' => ∃ A2 c2 B2 m2 d2, e = .returned (.tuple #[.agg #[.slice A2 4 c2, .slice B2 m2 d2, .bool false, .int .i64 (-1)], .int .i64 0]) ∧ IsDisk w' (.agg #[.slice A2 4 c2, .slice B2 m2 d2, .bool false, .int .i64 (-1)]) ⟨zs, [((k : Int), padB s)], false, -1⟩ ∧ Below W.heap.size W w' := fun W hv => by
            have hzl : zs.length = 4 := by rw [HZS.out]; rfl
            have hwl : wet.length ≤ 1 := by rcases hrel.ls.2 with ⟨e, _⟩ | e <;> rw [e] <;> simp
            refine (write_may _ _ k s W hv ⟨by dsimp only; omega, by dsimp only; omega, by simp, by simp⟩ (by omega) (by dsimp only; omega) h256).mono ?_
            rintro e w' ⟨v', rfl, hv', hb'⟩
            rw [hrel.ls.write] at hv'
            obtain ⟨A2, c2, B2, d2, rfl⟩ := parts_of hv' 4 1 false (-1) hzl rfl rfl rfl
            exact ⟨A2, c2, B2, _, d2, rfl, hv', hb'⟩
          have HWR := Lib.hid hwr
          clear hwr
          go_wp2_with fail
          go_region_held3 (fun W => W.cell? ⟨Bd, 0, none⟩ = some (.slice A 4 c) ∧ W.cell? ⟨Bd, 1, none⟩ = some (.slice B m d) ∧ W.cell? ⟨Bd, 2, none⟩ = some (.bool false) ∧ W.cell? ⟨Bd, 3, none⟩ = some (.int .i64 (-1)) ∧ W.cell? ⟨b, off + i, none⟩ = some (.string s)) (first | exact ⟨p0, p1, p2, p3, hc0⟩ | (refine keep5 ?_ trivial hbz hz hc0 hrel.box; (repeat (first | (with_reducible exact Below.refl _ _) | (with_reducible refine Below.drew ?_) | (with_reducible refine below_alloc2 ?_ _) | (with_reducible refine below_trans' ?_ HbY.out) | (with_reducible refine Below.setCell ?_ (by dsimp only; omega) _))))) (first | (go_at_call 22; (with_reducible refine (HWR.out _ ?_).mono ?_); (repeat (first | (with_reducible exact hrel.disk) | (with_reducible refine IsDisk.drew_ ?_) | (with_reducible refine IsDisk.alloc_ ?_ _))); rintro e y ⟨A2, c2, B2, m2, d2, rfl, hvy, hby⟩; have HvY := Lib.hid hvy; have HbY := Lib.hid hby; (try (have hzb := zero_kept wr y (by with_reducible exact hby); obtain ⟨⟨z0, z1, z2, z3⟩, e0, e1, e2, e3⟩ := box4 hzb; have HZB := Lib.hid hzb; clear hzb)); clear hvy hby))
          all_goals
            first | (obtain ⟨X, g, eX, eg, hf⟩ := after_A (wr := wr) (y := y) (by with_reducible exact HbY.out) HvY.out hrel.box hrel.below; rw [eX, eg]) | (obtain ⟨X, g, eX, eg, hf⟩ := after_B (wr := wr) (y := y) (by with_reducible exact HbY.out) HvY.out hrel.box hrel.below; rw [eX, eg])
            clear eX eg HbY HvY p0 p1 p2 p3 f0 f1 f2 f3
            replace hc0 := (hf.below.cell (p := ⟨b, off + i, none⟩) hbz).trans hc0
            obtain ⟨⟨p0, p1, p2, p3⟩, f0, f1, f2, f3⟩ := box4 hf.boxD
            obtain ⟨⟨q0, q1, q2, q3⟩, _⟩ := box4 hf.boxG
            have hzX := hf.below.size
            go_wp2_with fail
            exact ⟨⟨i + 1, s, A2, B2, c2, m2, d2, [((k : Int), padB s)], by omega, by go_num, rfl, hf.fin ⟨h256, .inr rfl⟩ hrel.le⟩, by simp [intOf]; omega⟩
        · have hle256 : decide ((s.size : Int) ≤ 256) = false := by simp; omega
          have hwr : ∀ W : World, IsDisk W (.agg #[.slice A 4 c, .slice B m d, .bool false, .int .i64 (-1)]) ⟨zs, wet, false, -1⟩ → Calls Try.prog 22 #[.agg #[.slice A 4 c, .slice B m d, .bool false, .int .i64 (-1)], .int .i64 k, .string s] W fun e w' => ∃ A2 c2 B2 m2 d2, e = .returned (.tuple #[.agg #[.slice A2 4 c2, .slice B2 m2 d2, .bool false, .int .i64 (-1)], .int .i64 1]) ∧ IsDisk w' (.agg #[.slice A2 4 c2, .slice B2 m2 d2, .bool false, .int .i64 (-1)]) ⟨zs, wet, false, -1⟩ ∧ Below W.heap.size W w' := fun W hv => by
            have hzl : zs.length = 4 := by rw [HZS.out]; rfl
            have hwl : wet.length ≤ 1 := by rcases hrel.ls.2 with ⟨e, _⟩ | e <;> rw [e] <;> simp
            refine (write_arg _ _ k s W hv (by omega)).mono ?_
            rintro e w' ⟨v', rfl, hv', hb'⟩
            obtain ⟨A2, c2, B2, d2, rfl⟩ := parts_of hv' 4 wet.length false (-1) hzl rfl rfl rfl
            exact ⟨A2, c2, B2, _, d2, rfl, hv', hb'⟩
          have HWR := Lib.hid hwr
          clear hwr
          go_wp2_with fail
          go_region_held3 (fun W => W.cell? ⟨Bd, 0, none⟩ = some (.slice A 4 c) ∧ W.cell? ⟨Bd, 1, none⟩ = some (.slice B m d) ∧ W.cell? ⟨Bd, 2, none⟩ = some (.bool false) ∧ W.cell? ⟨Bd, 3, none⟩ = some (.int .i64 (-1)) ∧ W.cell? ⟨b, off + i, none⟩ = some (.string s)) (first | exact ⟨p0, p1, p2, p3, hc0⟩ | (refine keep5 ?_ trivial hbz hz hc0 hrel.box; (repeat (first | (with_reducible exact Below.refl _ _) | (with_reducible refine Below.drew ?_) | (with_reducible refine below_alloc2 ?_ _) | (with_reducible refine below_trans' ?_ HbY.out) | (with_reducible refine Below.setCell ?_ (by dsimp only; omega) _))))) (first | (go_at_call 22; (with_reducible refine (HWR.out _ ?_).mono ?_); (repeat (first | (with_reducible exact hrel.disk) | (with_reducible refine IsDisk.drew_ ?_) | (with_reducible refine IsDisk.alloc_ ?_ _))); rintro e y ⟨A2, c2, B2, m2, d2, rfl, hvy, hby⟩; have HvY := Lib.hid hvy; have HbY := Lib.hid hby; (try (have hzb := zero_kept wr y (by with_reducible exact hby); obtain ⟨⟨z0, z1, z2, z3⟩, e0, e1, e2, e3⟩ := box4 hzb; have HZB := Lib.hid hzb; clear hzb)); clear hvy hby))
          all_goals
            first | (obtain ⟨X, g, eX, eg, hf⟩ := after_A (wr := wr) (y := y) (by with_reducible exact HbY.out) HvY.out hrel.box hrel.below; rw [eX, eg]) | (obtain ⟨X, g, eX, eg, hf⟩ := after_B (wr := wr) (y := y) (by with_reducible exact HbY.out) HvY.out hrel.box hrel.below; rw [eX, eg])
            clear eX eg HbY HvY p0 p1 p2 p3 f0 f1 f2 f3
            replace hc0 := (hf.below.cell (p := ⟨b, off + i, none⟩) hbz).trans hc0
            obtain ⟨⟨p0, p1, p2, p3⟩, f0, f1, f2, f3⟩ := box4 hf.boxD
            obtain ⟨⟨q0, q1, q2, q3⟩, _⟩ := box4 hf.boxG
            have hzX := hf.below.size
            go_wp2_with fail
            exact ⟨⟨i + 1, last, A2, B2, c2, m2, d2, wet, by omega, by go_num, rfl, hf.fin hrel.ls hrel.le⟩, by simp [intOf]; omega⟩
      · have hzl : zs.length = 4 := by rw [HZS.out]; rfl
        have hwl : wet.length ≤ 1 := by rcases hrel.ls.2 with ⟨e, _⟩ | e <;> rw [e] <;> simp
        have hok : DK.ok ⟨zs, wet, false, -1⟩ := ⟨by dsimp only; omega, by dsimp only; omega, by simp, by simp⟩
        obtain ⟨P, hP⟩ : ∃ P, P = padB last := ⟨_, rfl⟩
        obtain ⟨ys, hys⟩ : ∃ ys, ys = settleF stay wet zs := ⟨_, rfl⟩
        obtain ⟨Yk, hYk⟩ : ∃ Yk, Yk = ys.getD k ByteArray.empty := ⟨_, rfl⟩
        obtain ⟨Z, hZ⟩ : ∃ Z, Z = padB ⟨#[]⟩ := ⟨_, rfl⟩
        have hyl : ys.length = 4 := by rw [hys, ← hzl]; exact settleK_length _ _ _ _
        have hend := last_end k wet last zs stay hk4 HZS.out hrel.ls
        have hstart : ∀ W : World, IsDisk W (.agg #[.slice A 4 c, .slice B m d, .bool false, .int .i64 (-1)]) ⟨zs, wet, false, -1⟩ → Calls Try.prog 20 #[.agg #[.slice A 4 c, .slice B m d, .bool false, .int .i64 (-1)], .int .u64 stay] W fun e w' => ∃ A2 c2 B2 d2, e = .returned (.agg #[.slice A2 4 c2, .slice B2 0 d2, .bool false, .int .i64 (-1)]) ∧ IsDisk w' (.agg #[.slice A2 4 c2, .slice B2 0 d2, .bool false, .int .i64 (-1)]) ⟨ys, [], false, -1⟩ ∧ Below W.heap.size W w' := fun W hv => by
          refine (start_calls _ _ stay W hv hok HST.out).mono ?_
          rintro e w' ⟨v', rfl, hv', hb'⟩
          dsimp only at hv'
          rw [← hys] at hv'
          obtain ⟨A2, c2, B2, d2, rfl⟩ := parts_of hv' 4 0 false (-1) hyl rfl rfl rfl
          exact ⟨A2, c2, B2, d2, rfl, hv', hb'⟩
        have hread : ∀ W : World, IsDisk W (.agg #[.slice A 4 c, .slice B m d, .bool false, .int .i64 (-1)]) ⟨zs, wet, false, -1⟩ → Calls Try.prog 23 #[.agg #[.slice A 4 c, .slice B m d, .bool false, .int .i64 (-1)], .int .i64 k] W fun e w' => e = .returned (.tuple #[.string P, .int .i64 0]) ∧ Below W.heap.size W w' := fun W hv => by
          have := read_ok _ _ k W hv hok (by omega) (by dsimp only; omega) rfl
          dsimp only at this
          rw [hend.1, ← hP] at this
          exact this
        have hfl : ∀ W : World, Calls Try.prog 24 #[.string last] W fun e w' => e = .returned (.string P) ∧ Below W.heap.size W w' := fun W => by rw [hP]; exact full_calls last W hrel.ls.1
        have hfz : ∀ W : World, Calls Try.prog 24 #[.string ⟨#[]⟩] W fun e w' => e = .returned (.string Z) ∧ Below W.heap.size W w' := fun W => by rw [hZ]; exact full_calls _ W (by simp [ByteArray.size])
        have hcase : Yk = P ∨ (¬ Yk = P ∧ Yk = Z ∧ bits .and .u64 (stay : Int) 1 = 0) := by
          rw [hYk, hys, hP, hZ]
          by_cases h : (settleF stay wet zs).getD k ByteArray.empty = padB last
          · exact .inl h
          · exact .inr ⟨h, (hend.2.resolve_left h).1, bit0 stay HST.out (hend.2.resolve_left h).2⟩
        have hm1 : m ≤ 1 := by
          obtain ⟨_, _, e, _, ⟨_, _, e1, _⟩⟩ := hrel.disk
          simp only [Value.agg.injEq, Array.mk.injEq, List.cons.injEq] at e
          rw [e1] at e
          injection e.2.1 with _ e2
          have e3 : m = wet.length := e2
          omega
        have HSTA := Lib.hid hstart
        have HREAD := Lib.hid hread
        have HFL := Lib.hid hfl
        have HFZ := Lib.hid hfz
        have HYL := Lib.hid hyl
        have HYK := Lib.hid hYk
        clear hstart hread hfl hfz hyl hYk hys hP hZ hend hok hzl
        obtain ⟨⟨p0, p1, p2, p3⟩, f0, f1, f2, f3⟩ := box4 hrel.box
        go_wp2_with fail
        refine (HSTA.out _ hrel.disk).mono ?_
        rintro e y ⟨A2, c2, B2, d2, rfl, hvy, hby⟩
        have hG1 := box_kept _ hrel.box hby
        have hD1 := hrel.disk.below hby
        have hB1 := below_trans' hrel.below hby
        clear p0 p1 p2 p3 f0 f1 f2 f3 hby
        obtain ⟨⟨p0, p1, p2, p3⟩, f0, f1, f2, f3⟩ := box4 hG1
        have HvY := Lib.hid hvy
        have HG1 := Lib.hid hG1
        have HD1 := Lib.hid hD1
        have HB1 := Lib.hid hB1
        clear hvy hG1 hD1 hB1
        go_upto_region 16 with (fail)
        obtain ⟨X, g, eX, eB, hG, hb⟩ := box_new y (.slice A2 4 c2) (.slice B2 0 d2) (.bool false) (.int .i64 (-1))
        rw [eX, eB]
        have HG2 := Lib.hid (box_kept _ HG1.out hb)
        have HD2 := Lib.hid (HD1.out.below hb)
        have HB2 := Lib.hid (below_trans' HB1.out hb)
        have HvX := Lib.hid (HvY.out.below hb)
        have HGG := Lib.hid hG
        clear eX eB hG hb HG1 HD1 HB1 HvY p0 p1 p2 p3 f0 f1 f2 f3
        obtain ⟨⟨p0, p1, p2, p3⟩, _⟩ := box4 HG2.out
        go_wp2_with fail
        refine (HREAD.out _ HD2.out).mono ?_
        rintro e X2 ⟨rfl, hb⟩
        have hGD := box_kept _ HG2.out hb
        have hGG := box_kept _ HGG.out hb
        have HB3 := Lib.hid (below_trans' HB2.out hb)
        obtain ⟨bk, ok, rfl, hbk, hck⟩ := sure_at (HvX.out.below hb) k hk4 HYL.out
        rw [← HYK.out] at hck
        clear p0 p1 p2 p3 hb HG2 HD2 HB2 HvX HGG
        obtain ⟨⟨p0, p1, p2, p3⟩, _⟩ := box4 hGD
        obtain ⟨⟨q0, q1, q2, q3⟩, _⟩ := box4 hGG
        have hki1 : (0 : Int) ≤ (k : Int) := by omega
        have hki2 : (k : Int) < 4 := by omega
        have hmd : decide ((1 : Int) < (m : Int)) = false := by simp; omega
        go_upto_region 19 with (fail)
        rcases hcase with hE | ⟨hN, hYZ, hbits⟩
        · skip
          subst hE
          have q0' := fun d os => cell_regrown q0 d os
          have hck' := fun d os => cell_regrown hck d os
          have cW : ∀ d os, _ := fun d os => Calls.regrown_of (w := X2) (d := d) (os := os) (awake_true _)
          have cL : ∀ d os, _ := fun d os => Calls.regrown_of (w := X2) (d := d) (os := os) (HFL.out _)
          have cZ : ∀ d os, _ := fun d os => Calls.regrown_of (w := X2) (d := d) (os := os) (HFZ.out _)
          have CW := Lib.hid cW
          have CL := Lib.hid cL
          have CZ := Lib.hid cZ
          clear cW cL cZ q0 q1 q2 q3 p0 p1 p2 p3 hck hGD hGG
          refine wp_region_quiet_below (by kernel_rfl) (by kernel_rfl) ?_
          repeat (first | go_big_quiet_step (first | (with_reducible exact CW.out _ _) | (with_reducible exact CL.out _ _) | (with_reducible exact CZ.out _ _)) | quiet_step (first | (with_reducible exact CW.out _ _) | (with_reducible exact CL.out _ _) | (with_reducible exact CZ.out _ _)))
          refine wpQuiet_nil ?_
          intro _ hw'
          obtain ⟨⟨dq, osq⟩, hw''⟩ := hw'
          subst hw''
          go_wp2_with fail
          go_ret
          exact ⟨rfl, below_trans' HB3.out (below_regrown X2 dq osq)⟩
        · skip
          have hneq : (P.toList == Yk.toList) = false := toList_ne (fun h => hN h.symm)
          have hneq2 : (Yk.toList == P.toList) = false := toList_ne hN
          have hneq3 : (P.data.toList == Yk.data.toList) = false := dataList_ne (fun h => hN h.symm)
          have hneq4 : (Yk.data.toList == P.data.toList) = false := dataList_ne hN
          subst hYZ
          clear hN
          have q0' := fun d os => cell_regrown q0 d os
          have hck' := fun d os => cell_regrown hck d os
          have cW : ∀ d os, _ := fun d os => Calls.regrown_of (w := X2) (d := d) (os := os) (awake_true _)
          have cL : ∀ d os, _ := fun d os => Calls.regrown_of (w := X2) (d := d) (os := os) (HFL.out _)
          have cZ : ∀ d os, _ := fun d os => Calls.regrown_of (w := X2) (d := d) (os := os) (HFZ.out _)
          have CW := Lib.hid cW
          have CL := Lib.hid cL
          have CZ := Lib.hid cZ
          clear cW cL cZ q0 q1 q2 q3 p0 p1 p2 p3 hck hGD hGG
          refine wp_region_quiet_below (by kernel_rfl) (by kernel_rfl) ?_
          repeat (first | go_big_quiet_step (first | (with_reducible exact CW.out _ _) | (with_reducible exact CL.out _ _) | (with_reducible exact CZ.out _ _)) | quiet_step (first | (with_reducible exact CW.out _ _) | (with_reducible exact CL.out _ _) | (with_reducible exact CZ.out _ _)))
          refine wpQuiet_nil ?_
          intro _ hw'
          obtain ⟨⟨dq, osq⟩, hw''⟩ := hw'
          subst hw''
          go_wp2_with fail
          go_ret
          exact ⟨rfl, below_trans' HB3.out (below_regrown X2 dq osq)⟩
end Go.Proofs.Ytnnbbkfdijionaa
