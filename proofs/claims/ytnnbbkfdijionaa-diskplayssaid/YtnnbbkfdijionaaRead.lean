/- disk.Read. No statement is proved here. -/
import Derived.Test.YtnnbbkfdijionaaBack
namespace Go.Proofs.Ytnnbbkfdijionaa
open Go.RowKit Go.Shelf
attribute [local go_sem] Oper.semAt_some

/-- A sector, as it is to be: what stands last for it, or what it surely is. -/
def readF (wet : List Wt) (sure : List ByteArray) (a : Int) : ByteArray := match wet.reverse.find? (fun o => o.1 == a) with
  | some o => o.2
  | none => sure.getD a.toNat ByteArray.empty

/-- Four boxes laid ahead of a call are there behind it. -/
theorem four_boxes {w w1 : World} {o1 o2 o3 o4 : Obj} (hb : Below ((((w.alloc o1).alloc o2).alloc o3).alloc o4).heap.size ((((w.alloc o1).alloc o2).alloc o3).alloc o4) w1) :
    w1.heap[w.heap.size]? = some o1 ∧ w1.heap[w.heap.size + 1]? = some o2 ∧ w1.heap[w.heap.size + 1 + 1]? = some o3 ∧ w1.heap[w.heap.size + 1 + 1 + 1]? = some o4 ∧ Below w.heap.size w w1 := by
  have n2 := heap_alloc_new (w.alloc o1) o2
  have n3 := heap_alloc_new ((w.alloc o1).alloc o2) o3
  have n4 := heap_alloc_new (((w.alloc o1).alloc o2).alloc o3) o4
  simp only [World.size_alloc] at n2 n3 n4
  refine ⟨box_kept _ (box_alloc (box_alloc (box_alloc (heap_alloc_new w o1) o2) o3) o4) hb, box_kept _ (box_alloc (box_alloc n2 o3) o4) hb, box_kept _ (box_alloc n3 o4) hb, box_kept _ n4 hb, ?_⟩
  exact below_trans' (((((Below.refl _ _).alloc (Nat.le_refl _) _).alloc (by simp) _).alloc (by simp; omega) _).alloc (by simp; omega) _) hb

set_option maxHeartbeats 1000000 in
/-- There is no such sector. -/
theorem read_arg (v : Value) (d : DK) (at_ : Int) (w : World) (hv : IsDisk w v d) (hbad : ¬ (0 ≤ at_ ∧ at_ < d.sure.length)) :
    Calls Try.prog 23 #[v, .int .i64 at_] w fun e w' => e = .returned (.tuple #[.string ⟨#[]⟩, .int .i64 1]) ∧ Below w.heap.size w w' := by
  obtain ⟨sure, wet, dead, left⟩ := d
  obtain ⟨A, n, c, A', m, c', rfl, hn, hm, -⟩ := hv.open_
  dsimp only at *
  rw [← hn] at hbad
  have hh : (decide (0 ≤ at_) && decide (at_ < (n : Int))) = false := by
    rw [Bool.eq_false_iff]; intro h; simp at h; exact hbad h
  have HH := Lib.hid hh
  clear hv hn hm hbad hh
  go_enter Try.func23, Try.ntmps23
  go_wp2_with fail
  refine (has_any A n c A' m c' dead left at_ _).mono ?_
  rintro e w1 ⟨rfl, hb1⟩
  rw [HH.out]
  obtain ⟨g1, g2, g3, g4, hbw⟩ := four_boxes hb1
  have c3 := Boxed.cell g3
  have c4 := Boxed.cell g4
  have f3 := Boxed.frozen g3
  have f4 := Boxed.frozen g4
  have HB := Lib.hid hbw
  clear hb1 g1 g2 g3 g4 hbw
  go_wp2_with fail
  refine bodyPost_ret (v := .tuple #[.string ⟨#[]⟩, .int .i64 1]) (by simp [results, Try.results23, go_sem, c3, c4, f3, f4]) rfl ⟨rfl, ?_⟩
  exact (HB.out.setCell (p := ⟨w.heap.size + 1 + 1, 0, none⟩) (by simp; omega) _).setCell (p := ⟨w.heap.size + 1 + 1 + 1, 0, none⟩) (by simp; omega) _

set_option maxHeartbeats 1000000 in
/-- The power is gone. -/
theorem read_down (v : Value) (d : DK) (at_ : Int) (w : World) (hv : IsDisk w v d) (h1 : 0 ≤ at_) (h2 : at_ < d.sure.length) (hd : d.dead = true) :
    Calls Try.prog 23 #[v, .int .i64 at_] w fun e w' => e = .returned (.tuple #[.string ⟨#[]⟩, .int .i64 12]) ∧ Below w.heap.size w w' := by
  obtain ⟨sure, wet, dead, left⟩ := d
  dsimp only at hd
  subst hd
  obtain ⟨A, n, c, A', m, c', rfl, hn, hm, -⟩ := hv.open_
  dsimp only at *
  rw [← hn] at h2
  have hh : (decide (0 ≤ at_) && decide (at_ < (n : Int))) = true := by simp [h1, h2]
  have HH := Lib.hid hh
  clear hv hn hm h1 h2 hh
  go_enter Try.func23, Try.ntmps23
  go_wp2_with fail
  refine (has_any A n c A' m c' true left at_ _).mono ?_
  rintro e w1 ⟨rfl, hb1⟩
  rw [HH.out]
  obtain ⟨g1, g2, g3, g4, hbw⟩ := four_boxes hb1
  obtain ⟨⟨_, _, p2, _⟩, _⟩ := box4 g1
  have c3 := Boxed.cell g3
  have c4 := Boxed.cell g4
  have f3 := Boxed.frozen g3
  have f4 := Boxed.frozen g4
  have HB := Lib.hid hbw
  clear hb1 g1 g2 g3 g4 hbw
  go_wp2_with fail
  refine bodyPost_ret (v := .tuple #[.string ⟨#[]⟩, .int .i64 12]) (by simp [results, Try.results23, go_sem, c3, c4, f3, f4]) rfl ⟨rfl, ?_⟩
  exact (HB.out.setCell (p := ⟨w.heap.size + 1 + 1, 0, none⟩) (by simp; omega) _).setCell (p := ⟨w.heap.size + 1 + 1 + 1, 0, none⟩) (by simp; omega) _

/-- What Read comes to, in the words of what came. -/
def ReadsAs (wet : List Wt) (sure : List ByteArray) (j m : Nat) (s : ByteArray) : Prop :=
  (∃ (k : Nat) (ini : List Pw) (x : Pw), k ≤ m ∧ upW wet k = ini ++ [x] ∧ (∀ p ∈ ini, p.2.1 ≠ (j : Int)) ∧ x.2.1 = (j : Int) ∧ s = x.2.2) ∨ ((∀ p ∈ upW wet m, p.2.1 ≠ (j : Int)) ∧ s = sure.getD j ByteArray.empty)

/-- A block of cells is as it was where only what is no cells has turned. -/
theorem heap_own {X Y : World} {row : Option Nat} {g : Nat} {cur : Array Value} {t : TypeId} {fr : Nat × Nat} (h : X.heap[g]? = some (.cells cur t fr)) (hg : X.grownBy Y row) (hr : ∀ r, row = some r → ∃ o : Obj, X.heap[r]? = some o ∧ o.isCells = false) : Y.heap[g]? = some (.cells cur t fr) :=
  (hg.block g (Array.getElem?_eq_some_iff.1 h).1 (fun e => by obtain ⟨o, ho, hc⟩ := hr g e.symm; rw [h] at ho; cases ho; cases hc)).trans h

set_option maxRecDepth 100000 in
set_option maxHeartbeats 4000000 in
theorem read_walk (A : Option Addr) (n c : Nat) (A' : Option Addr) (m c' : Nat) (left : Int) (sure : List ByteArray) (wet : List Wt) (j : Nat) (w : World) (hj : j < n) (hn : n = sure.length) (hm : m = wet.length) (hm2 : m ≤ 1000000)
    (h1 : Reads w 9 1 A n (sure.map Value.string)) (h2 : Reads w 52 2 A' m (wetCells wet)) :
    Calls Try.prog 23 #[.agg #[.slice A n c, .slice A' m c', .bool false, .int .i64 left], .int .i64 j] w fun e w' => ∃ s, e = .returned (.tuple #[.string s, .int .i64 0]) ∧ Below w.heap.size w w' ∧ ReadsAs wet sure j m s := by
  have hh : (decide (0 ≤ (j : Int)) && decide ((j : Int) < (n : Int))) = true := by simp; omega
  have HH := Lib.hid hh
  have HN := Lib.hid hn
  have HM := Lib.hid hm
  have H1 := Lib.hid h1
  have H2 := Lib.hid h2
  clear hh hn hm h1 h2
  refine (callsIn_wide (n := 5)).1 ?_
  refine callsIn_of_wp_marks Try.func23 rfl trivial ?_ rfl
  simp only [Try.ntmps23, List.size_toArray, List.length_cons, List.length_nil, Nat.reduceAdd, Nat.reduceSub, Array.replicate_succ, Array.replicate_zero, List.push_toArray, List.append_toArray, List.nil_append, List.cons_append]
  gi_wp2_with fail
  refine ⟨trivial, ((callsIn_wide (n := 4)).2 (has_any A n c A' m c' false left j _)).mono ?_⟩
  rintro e w1 ⟨rfl, hb1⟩
  rw [HH.out]
  obtain ⟨g1, g2, g3, g4, hbw⟩ := four_boxes hb1
  obtain ⟨⟨p0, p1, p2, p3⟩, _⟩ := box4 g1
  have G1 := Lib.hid g1
  have G2 := Lib.hid g2
  have G3 := Lib.hid g3
  have G4 := Lib.hid g4
  have HB := Lib.hid hbw
  clear hb1 g1 g2 g3 g4 hbw
  gi_wp2_with fail
  refine ⟨trivial, (back_in Fence.wide 4 trivial rfl A' m c' w1).mono ?_⟩
  rintro e w2 ⟨rfl, rfl⟩
  gi_wp2_with fail
  have hsz : (w1.alloc (.cells #[.slice A' m c'] 26)).heap.size = w1.heap.size + 1 := World.size_alloc _ _
  have hs4 : w.heap.size + 1 + 1 + 1 < w1.heap.size := Boxed.lt G4.out
  have gD := box_alloc G1.out (.cells #[.slice A' m c'] 26)
  have bA : Boxed (w1.alloc (.cells #[.slice A' m c'] 26)) (w.heap.size + 1) 3 (.int .i64 j) := box_alloc G2.out _
  have bS : Boxed (w1.alloc (.cells #[.slice A' m c'] 26)) (w.heap.size + 1 + 1) 9 (.string ⟨#[]⟩) := box_alloc G3.out _
  have bE : Boxed (w1.alloc (.cells #[.slice A' m c'] 26)) (w.heap.size + 1 + 1 + 1) 29 (.int .i64 0) := box_alloc G4.out _
  have bN := Boxed.new w1 26 (.slice A' m c')
  have hB0 : Below w.heap.size w (w1.alloc (.cells #[.slice A' m c'] 26)) := HB.out.alloc HB.out.size _
  obtain ⟨W0, hW0⟩ : ∃ W0, w1.alloc (.cells #[.slice A' m c'] 26) = W0 := ⟨_, rfl⟩
  rw [hW0] at gD bA bS bE bN hB0 hsz ⊢
  clear hW0 p0 p1 p2 p3 G1 G2 G3 G4 HB
  have hA : 0 < m → ∃ b off, A' = some ⟨b, off, none⟩ ∧ b < w1.heap.size + 1 := fun h => by
    obtain ⟨b, off, e, hb, _⟩ := H2.out.at_ h
    exact ⟨b, off, e, by omega⟩
  have hR : Reads W0 52 2 A' m (wetCells wet) := H2.out.keep fun b _ _ hh => (hB0.block b (Array.getElem?_eq_some_iff.1 hh).1).trans hh
  refine wpIn_rangeFunc_ownH rfl (by omega) (gf := 38) (lb := #[.pointer (some ⟨w1.heap.size, 0, none⟩)]) rfl trivial (enters_of Try.func38 (by kernel_rfl) rfl)
    (back_stops Fence.wide (5 - 1) trivial rfl (by omega) w1.heap.size (w1.heap.size + 1) A' m c' wet HM.out hm2 W0 (by omega) (by omega) hA bN.cell hR) belowK_t (belowK_b (by omega)) (Below.refl _ _) (fun _ => rfl)
    (fun pre W => ((∀ p ∈ pre, p.2.1 ≠ (j : Int)) ∧ W.heap[w.heap.size]? = some (.cells #[.slice A n c, .slice A' m c', .bool false, .int .i64 left] 28 (0, 0)) ∧ Boxed W (w.heap.size + 1) 3 (.int .i64 j) ∧ Boxed W (w.heap.size + 1 + 1) 9 (.string ⟨#[]⟩) ∧ Boxed W (w.heap.size + 1 + 1 + 1) 29 (.int .i64 0) ∧ w1.heap.size + 1 ≤ W.heap.size) ∧ Below w.heap.size w W)
    (fun cd pre W => (cd = .ret ∧ ∃ ini x, pre = ini ++ [x] ∧ (∀ p ∈ ini, p.2.1 ≠ (j : Int)) ∧ x.2.1 = (j : Int) ∧ Boxed W (w.heap.size + 1 + 1) 9 (.string x.2.2) ∧ Boxed W (w.heap.size + 1 + 1 + 1) 29 (.int .i64 0)) ∧ Below w.heap.size w W)
    (OwnFrom.and (Own.from (fun s X Y row hs hg hr => ⟨hs.1, heap_own hs.2.1 hg hr, heap_own hs.2.2.1 hg hr, heap_own hs.2.2.2.1 hg hr, heap_own hs.2.2.2.2.1 hg hr, Nat.le_trans hs.2.2.2.2.2 hg.size⟩) _) (ownFrom_below (Nat.le_refl _) (by omega)))
    (fun cd => OwnFrom.and (Own.from (fun s X Y row hs hg hr => by obtain ⟨hc, ini, x, e1, e2, e3, e4, e5⟩ := hs; exact ⟨hc, ini, x, e1, e2, e3, heap_own e4 hg hr, heap_own e5 hg hr⟩) _) (ownFrom_below (Nat.le_refl _) (by omega)))
    ⟨⟨by simp, gD, bA, bS, bE, by omega⟩, hB0⟩
    (fun x a' W => ∃ Bx, w.heap.size + 1 + 1 + 1 < Bx ∧ W.heap[Bx]? = some (.cells #[.int .i64 x.2.1, .string x.2.2] 52 (0, 0)) ∧ a' = { tmps := #[.agg #[.slice A n c, .slice A' m c', .bool false, .int .i64 left], .int .i64 j, .pointer (some ⟨w.heap.size, 0, none⟩), .pointer (some ⟨w.heap.size + 1, 0, none⟩), .pointer (some ⟨w.heap.size + 1 + 1, 0, none⟩), .pointer (some ⟨w.heap.size + 1 + 1 + 1, 0, none⟩), undef, .pointer (some ⟨Bx, 0, none⟩), .agg #[.slice A n c, .slice A' m c', .bool false, .int .i64 left], .int .i64 j, .bool true, .bool false, .pointer (some ⟨w.heap.size, 2, none⟩), .bool false, .pointer (some ⟨w.heap.size, 1, none⟩), .slice A' m c', .func (.func 38) #[] #[.pointer (some ⟨w1.heap.size, 0, none⟩)], .int .i64 (x.1 : Int), .agg #[.int .i64 x.2.1, .string x.2.2], undef, undef, undef, undef, undef, undef, undef, undef, undef, undef, undef], defers := [] })
    (fun x a' _ X Y row hs hg hr => by obtain ⟨Bx, h1, h2, h3⟩ := hs; exact ⟨Bx, h1, heap_own h2 hg (fun r e => (hr r e).2), h3⟩)
    ?assign ?body ?done ?stop
  case assign =>
    rintro l pre ⟨xi, xa, xd⟩ W K ⟨⟨i1, i2, i3, i4, i5, i7⟩, i6⟩ hK
    dsimp only [encP]
    clear hR hA bN bE bS bA gD
    gi_wp2
    exact hK _ _ ((KeepsOthers.alloc _ _).from _) ((Below.refl _ W).alloc i7 _) ⟨⟨i1, box_alloc i2 _, i3.alloc _, i4.alloc _, i5.alloc _, by rw [World.size_alloc]; omega⟩, i6.alloc i6.size _⟩ ⟨W.heap.size, i5.lt, heap_alloc_new W _, rfl⟩
  case body =>
    rintro l pre ⟨xi, xa, xd⟩ a' W hl ⟨r, hr⟩ ⟨⟨i1, i2, i3, i4, i5, i7⟩, i6⟩ ⟨Bx, hBx, bX, rfl⟩ hlt
    dsimp only at bX ⊢
    have cA := i3.cell
    obtain ⟨⟨cX0, cX1⟩, _⟩ := box2 bX
    have cS := i4.cell
    have fS := i4.frozen
    have cE := i5.cell
    have fE := i5.frozen
    clear hR hA bN bE bS bA gD
    by_cases he : xa = (j : Int)
    · have heb : (xa == (j : Int)) = true := by simp [he]
      have HE := Lib.hid he
      clear he
      gi_wp2
      exact ⟨((KeepsOthers.setCell _ _ _).trans (KeepsOthers.setCell _ _ _)).from _, ⟨rfl, pre, _, rfl, i1, HE.out, (i4.set _).other (by omega) _, (i5.other (by omega) _).set _⟩, (i6.setCell (p := ⟨w.heap.size + 1 + 1, 0, none⟩) (by simp; omega) _).setCell (p := ⟨w.heap.size + 1 + 1 + 1, 0, none⟩) (by simp; omega) _⟩
    · have heb : (xa == (j : Int)) = false := by simp [he]
      have HE := Lib.hid he
      clear he
      gi_wp2
      exact ⟨KeepsFrom.refl _ _, Below.refl _ _, ⟨fun p hp => (List.mem_append.1 hp).elim (i1 p) (fun e => by simp at e; subst e; exact HE.out), i2, i3, i4, i5, i7⟩, i6⟩
  case done =>
    rintro D ys W hD rfl ⟨⟨i1, i2, i3, i4, i5, i7⟩, i6⟩ hK
    have cA := i3.cell
    obtain ⟨⟨cD0, _⟩, _⟩ := box4 i2
    have cS := i4.cell
    have fS := i4.frozen
    have cE := i5.cell
    have fE := i5.frozen
    obtain ⟨b, off, rfl, hbl, hcell⟩ := H1.out.at_ (by omega)
    have hcj : W.cell? ⟨b, off + j, none⟩ = some (.string (sure.getD j ByteArray.empty)) := (i6.cell (p := ⟨b, off + j, none⟩) hbl).trans (hcell j _ (by have := HN.out; rw [List.getElem?_map, List.getElem?_eq_getElem (by omega)]; simp [List.getD, List.getElem?_eq_getElem (show j < sure.length by omega)]))
    have I1 := Lib.hid i1
    obtain ⟨t, ht⟩ : ∃ t, t = sure.getD j ByteArray.empty := ⟨_, rfl⟩
    rw [← ht] at hcj
    have HT := Lib.hid ht
    have HBL := Lib.hid hbl
    clear hR hA bN bE bS bA gD hcell i1 ht
    gi_wp2
    have hK' := ((KeepsOthers.setCell W ⟨w.heap.size + 1 + 1, 0, none⟩ (.string t)).trans (KeepsOthers.setCell _ ⟨w.heap.size + 1 + 1 + 1, 0, none⟩ (.int .i64 0))).same D _ hK rfl
    refine ⟨by simp, .inl ⟨_, _, rfl, run_takeDeferred hK', ?_⟩⟩
    have b5 : Boxed _ (w.heap.size + 1 + 1) 9 (.string t) := heap_own ((i4.set (.string t)).other (B' := w.heap.size + 1 + 1 + 1) (by omega) (.int .i64 0)) (grownBy_putObj' _ D (.deferred none)) (fun r e => by cases e; exact ⟨_, hK', rfl⟩)
    have b6 : Boxed _ (w.heap.size + 1 + 1 + 1) 29 (.int .i64 0) := heap_own ((i5.other (B' := w.heap.size + 1 + 1) (by omega) (.string t)).set (.int .i64 0)) (grownBy_putObj' _ D (.deferred none)) (fun r e => by cases e; exact ⟨_, hK', rfl⟩)
    have c5 := b5.cell
    have c6 := b6.cell
    refine ⟨.tuple #[.string t, .int .i64 0], ?_, t, rfl, ?_, .inr ⟨I1.out, HT.out⟩⟩
    · simp [results, Try.f23, go_sem, c5, c6]
    · exact ((i6.setCell (p := ⟨w.heap.size + 1 + 1, 0, none⟩) (by simp; omega) _).setCell (p := ⟨w.heap.size + 1 + 1 + 1, 0, none⟩) (by simp; omega) _).trans (belowK_b (w := w) (Nat.le_refl _) _ D _ _ (by omega) hK' rfl rfl)
  case stop =>
    rintro D cd pre W hD ⟨k, hk, rfl⟩ ⟨⟨rfl, ini, x, e1, e2, e3, bS1, bE1⟩, i6⟩ hK
    have I1 := Lib.hid e1
    have I2 := Lib.hid e2
    have I3 := Lib.hid e3
    clear hR hA bN bE bS bA gD e1 e2 e3
    gi_wp2
    refine ⟨by simp, .inl ⟨_, _, rfl, run_takeDeferred hK, ?_⟩⟩
    have b5 : Boxed _ (w.heap.size + 1 + 1) 9 (.string x.2.2) := heap_own bS1 (grownBy_putObj' _ D (.deferred none)) (fun r e => by cases e; exact ⟨_, hK, rfl⟩)
    have b6 : Boxed _ (w.heap.size + 1 + 1 + 1) 29 (.int .i64 0) := heap_own bE1 (grownBy_putObj' _ D (.deferred none)) (fun r e => by cases e; exact ⟨_, hK, rfl⟩)
    have c5 := b5.cell
    have c6 := b6.cell
    refine ⟨.tuple #[.string x.2.2, .int .i64 0], ?_, _, rfl, ?_, .inl ⟨k, ini, x, hk, I1.out, I2.out, I3.out, rfl⟩⟩
    · simp [results, Try.f23, go_sem, c5, c6]
    · exact i6.trans (belowK_b (w := w) (Nat.le_refl _) W D _ _ (by omega) hK rfl rfl)

/-- What came behind k rounds are the last k of the list, the last one first. -/
theorem upW_eq (wet : List Wt) : ∀ k, k ≤ wet.length → (upW wet k).map (·.2) = (wet.reverse).take k := by
  intro k hk
  apply List.ext_getElem
  · simp [upW, hk]
  · intro i h1 h2
    simp only [upW, List.length_map, List.length_range] at h1
    have hi : i < wet.length := by omega
    simp [upW, List.getElem_reverse, List.getD, List.getElem?_eq_getElem (show wet.length - 1 - i < wet.length by omega)]

theorem readsAs_eq (wet : List Wt) (sure : List ByteArray) (j : Nat) (s : ByteArray) (h : ReadsAs wet sure j wet.length s) : s = readF wet sure j := by
  unfold readF
  rcases h with ⟨k, ini, x, hk, he, hi, hx, rfl⟩ | ⟨hi, rfl⟩
  · have e := upW_eq wet k hk
    rw [he, List.map_append] at e
    have hf : wet.reverse.find? (fun o => o.1 == (j : Int)) = some x.2 := by
      have e2 : wet.reverse = (ini.map (·.2) ++ [x.2]) ++ wet.reverse.drop k := by
        have := (List.take_append_drop k wet.reverse).symm
        rw [← e] at this
        simpa using this
      rw [e2, List.append_assoc, List.find?_append, List.find?_eq_none.2]
      · simp [hx]
      · intro o ho
        obtain ⟨p, hp, rfl⟩ := List.mem_map.1 ho
        simpa using hi p hp
    rw [hf]
  · have e := upW_eq wet wet.length (Nat.le_refl _)
    have hf : wet.reverse.find? (fun o => o.1 == (j : Int)) = none := by
      rw [List.find?_eq_none]
      intro o ho
      have : o ∈ (upW wet wet.length).map (·.2) := by rw [e, List.take_of_length_le (by simp)]; exact ho
      obtain ⟨p, hp, rfl⟩ := List.mem_map.1 this
      simpa using hi p hp
    rw [hf]
    simp

/-- disk.Read of a sector that is there, with power. -/
theorem read_ok (v : Value) (d : DK) (at_ : Int) (w : World) (hv : IsDisk w v d) (hd : d.ok) (h1 : 0 ≤ at_) (h2 : at_ < d.sure.length) (hde : d.dead = false) :
    Calls Try.prog 23 #[v, .int .i64 at_] w fun e w' => e = .returned (.tuple #[.string (readF d.wet d.sure at_), .int .i64 0]) ∧ Below w.heap.size w w' := by
  obtain ⟨sure, wet, dead, left⟩ := d
  dsimp only at hde
  subst hde
  obtain ⟨_, _, rfl, h3, h4⟩ := hv
  obtain ⟨A, c, rfl, _, hr⟩ := h3
  obtain ⟨A', c', rfl, _, hr'⟩ := h4
  dsimp only at *
  obtain ⟨j, rfl⟩ := Int.eq_ofNat_of_zero_le h1
  refine (read_walk A sure.length c A' wet.length c' left sure wet j w (by omega) rfl rfl (by have := hd.wet; dsimp only at this; omega) hr hr').mono ?_
  rintro e w' ⟨s, rfl, hb, hs⟩
  exact ⟨by rw [readsAs_eq wet sure j s hs], hb⟩
end Go.Proofs.Ytnnbbkfdijionaa
