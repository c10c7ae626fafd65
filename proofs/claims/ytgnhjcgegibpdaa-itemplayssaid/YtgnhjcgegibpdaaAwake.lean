/- The law's own examples. No statement is proved here. -/
import Derived.Test.YtgnhjcgegibpdaaSame
import Derived.Deep.Cut
namespace Go.Proofs.Ytgnhjcgegibpdaa
open Go.RowKit

def mk (k : List UInt8) (s : Int) : It := ⟨k, s, 0, false, [], [48, 49, 50, 51, 52, 53, 54, 55, 56, 57, 97, 98, 99, 100, 101, 102], [120]⟩

theorem box7 {W : World} {g : Nat} {t : TypeId} {v0 v1 v2 v3 v4 v5 v6 : Value} (h : W.heap[g]? = some (.cells #[v0, v1, v2, v3, v4, v5, v6] t (0, 0))) :
    W.cell? ⟨g, 0, none⟩ = some v0 ∧ W.cell? ⟨g, 1, none⟩ = some v1 ∧ W.cell? ⟨g, 2, none⟩ = some v2 ∧ W.cell? ⟨g, 3, none⟩ = some v3 ∧ W.cell? ⟨g, 4, none⟩ = some v4 ∧ W.cell? ⟨g, 5, none⟩ = some v5 ∧ W.cell? ⟨g, 6, none⟩ = some v6 := by
  refine ⟨?_, ?_, ?_, ?_, ?_, ?_, ?_⟩ <;> simp [World.cell?, h]

set_option maxHeartbeats 1000000 in
theorem some_calls (k : List UInt8) (s : Int) (w : World) :
    Calls Try.prog 22 #[.string (strB k), .int .i64 s] w fun e w' => e = .returned (itV (mk k s)) ∧ Below w.heap.size w w' := by
  unfold itV mk
  go_enter Try.func22, Try.ntmps22
  go_wp2_with fail
  have hb := heap_alloc_new w (.cells #[.string (strB k), .int .i64 s, .int .i64 0, .bool false, .string ⟨#[]⟩, .string ⟨#[48, 49, 50, 51, 52, 53, 54, 55, 56, 57, 97, 98, 99, 100, 101, 102]⟩, .string ⟨#[120]⟩] 24)
  obtain ⟨c0, c1, c2, c3, c4, c5, c6⟩ := box7 hb
  exact bodyPost_ret (v := .agg #[.string (strB k), .int .i64 s, .int .i64 0, .bool false, .string ⟨#[]⟩, .string ⟨#[48, 49, 50, 51, 52, 53, 54, 55, 56, 57, 97, 98, 99, 100, 101, 102]⟩, .string ⟨#[120]⟩]) (by simp [results, Try.results22, go_sem, c0, c1, c2, c3, c4, c5, c6]) rfl ⟨rfl, below_one _ _⟩

theorem some_at (b : UInt8) (s : Int) (w : World) : Calls Try.prog 22 #[.string ⟨#[b]⟩, .int .i64 s] w fun e w' => e = .returned (itV (mk [b] s)) ∧ Below w.heap.size w w' := some_calls [b] s w
theorem put_one (x : It) (w : World) : Calls Try.prog 18 #[.slice none 0 0, itV x] w fun e w' => ∃ v', e = .returned v' ∧ Its w' v' (putL x []) ∧ Below w.heap.size w w' :=
  (put_calls _ [] x w (Its.nil w) (by simp)).mono fun e w' ⟨v', h1, h2, h3⟩ => ⟨v', h1, h2.its, h3⟩
theorem put_its (v : Value) (l : List It) (x : It) (w : World) (hv : Its w v l) (hl : l.length ≤ 1000) : Calls Try.prog 18 #[v, itV x] w fun e w' => ∃ v', e = .returned v' ∧ Its w' v' (putL x l) ∧ Below w.heap.size w w' :=
  (put_calls v l x w hv hl).mono fun e w' ⟨v', h1, h2, h3⟩ => ⟨v', h1, h2.its, h3⟩
theorem drop_at (v : Value) (l : List It) (b : UInt8) (s : Int) (w : World) (hv : Its w v l) (hl : l.length ≤ 1000) : Calls Try.prog 20 #[v, .string ⟨#[b]⟩, .int .i64 s] w fun e w' => ∃ v', e = .returned v' ∧ Its w' v' (dropL [b] s l) ∧ Below w.heap.size w w' :=
  (drop_calls v l [b] s w hv hl).mono fun e w' ⟨v', h1, h2, h3⟩ => ⟨v', h1, h2.its, h3⟩
theorem of_at (v : Value) (l : List It) (b : UInt8) (w : World) (hv : Its w v l) (hl : l.length ≤ 1000) : Calls Try.prog 16 #[v, .string ⟨#[b]⟩] w fun e w' => ∃ v', e = .returned v' ∧ Its w' v' (ofL [b] l) ∧ Below w.heap.size w w' :=
  (of_calls v l [b] w hv hl).mono fun e w' ⟨v', h1, h2, h3⟩ => ⟨v', h1, h2.its, h3⟩

theorem aw1 : putL (mk [98] 1) [] = [mk [98] 1] := by decide
theorem aw2 : putL (mk [97] 2) [mk [98] 1] = [mk [97] 2, mk [98] 1] := by decide
theorem aw3 : putL (mk [98] 3) [mk [97] 2, mk [98] 1] = [mk [97] 2, mk [98] 3, mk [98] 1] := by decide
theorem aw4 : dropL [98] 3 [mk [97] 2, mk [98] 3, mk [98] 1] = [mk [97] 2, mk [98] 1] := by decide
theorem aw5 : ofL [98] [mk [97] 2, mk [98] 3, mk [98] 1] = [mk [98] 3, mk [98] 1] := by decide
theorem aw6 : orderedB [mk [97] 2, mk [98] 3, mk [98] 1] = true := by decide
theorem aw7 : orderedB [mk [98] 1, mk [97] 1] = false := by decide
theorem aw8 : rightB ⟨[97], 1, 0, true, [], [], []⟩ = true := by decide
theorem aw9 : rightB { mk [97] 1 with mark := true } = false := by decide
theorem aw10 : rightB ⟨[], 0, 0, false, [], [], []⟩ = false := by decide
theorem aw11 : less (mk [98] 3) (mk [98] 1) = true := by decide
theorem aw12 : less (mk [98] 1) (mk [97] 1) = false := by decide

theorem right_mark (w : World) : Calls Try.prog 9 #[.agg #[.string ⟨#[97]⟩, .int .i64 1, .int .i64 0, .bool true, .string ⟨#[]⟩, .string ⟨#[]⟩, .string ⟨#[]⟩]] w fun e w' => e = .returned (.bool true) ∧ Below w.heap.size w w' := by
  have h := right_calls ⟨[97], 1, 0, true, [], [], []⟩ w
  rw [aw8] at h
  exact h
theorem right_bad (w : World) : Calls Try.prog 9 #[.agg #[.string ⟨#[97]⟩, .int .i64 1, .int .i64 0, .bool true, .string ⟨#[]⟩, .string ⟨#[48, 49, 50, 51, 52, 53, 54, 55, 56, 57, 97, 98, 99, 100, 101, 102]⟩, .string ⟨#[120]⟩]] w fun e w' => e = .returned (.bool false) ∧ Below w.heap.size w w' := by
  have h := right_calls { mk [97] 1 with mark := true } w
  rw [aw9] at h
  exact h
theorem right_zero (w : World) : Calls Try.prog 9 #[.agg #[.string ⟨#[]⟩, .int .i64 0, .int .i64 0, .bool false, .string ⟨#[]⟩, .string ⟨#[]⟩, .string ⟨#[]⟩]] w fun e w' => e = .returned (.bool false) ∧ Below w.heap.size w w' := by
  have h := right_calls ⟨[], 0, 0, false, [], [], []⟩ w
  rw [aw10] at h
  exact h

/-- Items laid side by side. -/
theorem build_its (w : World) (l : List It) : Its (w.alloc (.cells (itsC l).toArray 24)) (.slice (some ⟨w.heap.size, 0, none⟩) l.length l.length) l := by
  refine ⟨_, _, rfl, Nat.le_refl _, fun _ => ⟨w.heap.size, 0, rfl, by simp, fun j x hj => ?_⟩⟩
  refine at7_row (heap_alloc_new w _) _ x fun f hf => ?_
  rw [← itsC_at l j x hj f hf, Nat.zero_add]
  simp
theorem build2 (w : World) (x y : It) : Its (w.alloc (.cells #[.string (strB x.key), .int .i64 x.seq, .int .i64 x.ver, .bool x.mark, .string (strB x.mt), .string (strB x.tag), .string (strB x.body), .string (strB y.key), .int .i64 y.seq, .int .i64 y.ver, .bool y.mark, .string (strB y.mt), .string (strB y.tag), .string (strB y.body)] 24)) (.slice (some ⟨w.heap.size, 0, none⟩) 2 2) [x, y] := build_its w [x, y]
theorem build1 (w : World) (x : It) : Its (w.alloc (.cells #[.string (strB x.key), .int .i64 x.seq, .int .i64 x.ver, .bool x.mark, .string (strB x.mt), .string (strB x.tag), .string (strB x.body)] 24)) (.slice (some ⟨w.heap.size, 0, none⟩) 1 1) [x] := build_its w [x]

theorem its_len {w : World} {v : Value} {l : List It} (h : Its w v l) (n : Nat) (hn : l.length = n) : ∃ A c, v = .slice A n c := by
  subst hn
  exact h.form

set_option maxRecDepth 100000 in
set_option maxHeartbeats 8000000 in
theorem awake_true (w : World) : Calls Try.prog 8 #[] w fun e w' => e = .returned (.bool true) ∧ Below w.heap.size w w' := by
  go_enter Try.func8, Try.ntmps8
  go_wp2_with fail
  with_reducible refine (some_at 98 1 _).mono ?_
  rintro e w1 ⟨rfl, hB1⟩
  have HB := Lib.hid hB1
  clear hB1
  go_wp2_with fail
  with_reducible refine (put_one (mk [98] 1) _).mono ?_
  rintro e w2 ⟨v2, rfl, hv2, hB2⟩
  rw [aw1] at hv2
  replace HB := Lib.hid (below_trans' HB.out hB2)
  clear hB2
  go_wp2_with fail
  with_reducible refine (some_at 97 2 _).mono ?_
  rintro e w3 ⟨rfl, hB3⟩
  replace hv2 := hv2.below hB3
  replace HB := Lib.hid (below_trans' HB.out hB3)
  clear hB3
  go_wp2_with fail
  with_reducible refine (put_its _ _ (mk [97] 2) _ hv2 (by decide)).mono ?_
  rintro e w4 ⟨v4, rfl, hv4, hB4⟩
  rw [aw2] at hv4
  replace HB := Lib.hid (below_trans' HB.out hB4)
  clear hB4 hv2
  go_wp2_with fail
  with_reducible refine (some_at 98 3 _).mono ?_
  rintro e w5 ⟨rfl, hB5⟩
  replace hv4 := hv4.below hB5
  replace HB := Lib.hid (below_trans' HB.out hB5)
  clear hB5
  go_wp2_with fail
  with_reducible refine (put_its _ _ (mk [98] 3) _ hv4 (by decide)).mono ?_
  rintro e w6 ⟨v6, rfl, hv6, hB6⟩
  rw [aw3] at hv6
  replace HB := Lib.hid (below_trans' HB.out hB6)
  clear hB6 hv4
  obtain ⟨A, c, rfl⟩ := its_len hv6 3 rfl
  go_wp2_with fail
  with_reducible refine (drop_at _ _ 98 3 _ hv6 (by decide)).mono ?_
  rintro e w7 ⟨v7, rfl, hv7, hB7⟩
  rw [aw4] at hv7
  obtain ⟨A7, c7, rfl⟩ := its_len hv7 2 rfl
  replace hv6 := hv6.below hB7
  replace HB := Lib.hid (below_trans' HB.out hB7)
  clear hB7 hv7
  have hB8 := below_one w7 (.cells #[.string ⟨#[97]⟩, .int .i64 1, .int .i64 0, .bool true, .string ⟨#[]⟩, .string ⟨#[]⟩, .string ⟨#[]⟩] 24)
  have hm8 := heap_alloc_new w7 (.cells #[.string ⟨#[97]⟩, .int .i64 1, .int .i64 0, .bool true, .string ⟨#[]⟩, .string ⟨#[]⟩, .string ⟨#[]⟩] 24)
  replace hv6 := hv6.below hB8
  replace HB := Lib.hid (below_trans' HB.out hB8)
  clear hB8
  go_wp2_with fail
  with_reducible refine (some_at 97 1 _).mono ?_
  rintro e w9 ⟨rfl, hB9⟩
  have hm9 : Box w9 w7.heap.size ⟨[97], 1, 0, true, [], [], []⟩ := Box.below hm8 hB9
  replace hv6 := hv6.below hB9
  replace HB := Lib.hid (below_trans' HB.out hB9)
  clear hB9 hm8
  have hit : itV (mk [97] 1) = .agg #[.string ⟨#[97]⟩, .int .i64 1, .int .i64 0, .bool false, .string ⟨#[]⟩, .string ⟨#[48, 49, 50, 51, 52, 53, 54, 55, 56, 57, 97, 98, 99, 100, 101, 102]⟩, .string ⟨#[120]⟩] := rfl
  have hit2 : itV (mk [98] 1) = .agg #[.string ⟨#[98]⟩, .int .i64 1, .int .i64 0, .bool false, .string ⟨#[]⟩, .string ⟨#[48, 49, 50, 51, 52, 53, 54, 55, 56, 57, 97, 98, 99, 100, 101, 102]⟩, .string ⟨#[120]⟩] := rfl
  rw [hit]
  obtain ⟨Y, hY, hbY, hBY⟩ : ∃ Y, Y = w9.alloc (.cells #[.string ⟨#[97]⟩, .int .i64 1, .int .i64 0, .bool true, .string ⟨#[]⟩, .string ⟨#[48, 49, 50, 51, 52, 53, 54, 55, 56, 57, 97, 98, 99, 100, 101, 102]⟩, .string ⟨#[120]⟩] 24) ∧ Box Y w9.heap.size { mk [97] 1 with mark := true } ∧ Below w9.heap.size w9 Y := ⟨_, rfl, heap_alloc_new w9 (.cells #[.string ⟨#[97]⟩, .int .i64 1, .int .i64 0, .bool true, .string ⟨#[]⟩, .string ⟨#[48, 49, 50, 51, 52, 53, 54, 55, 56, 57, 97, 98, 99, 100, 101, 102]⟩, .string ⟨#[120]⟩] 24), below_one _ _⟩
  have HY := Lib.hid hY
  replace hv6 := hv6.below hBY
  have hm := hm9.below hBY
  replace HB := Lib.hid (below_trans' HB.out hBY)
  clear hBY hm9 hY
  go_upto_region 6 with (fail)
  rw [← HY.out]
  clear HY
  have HV := Lib.hid hv6
  have HM := Lib.hid hm
  have HD := Lib.hid hbY
  obtain ⟨b, off, rfl, hbl, hcell⟩ := hv6.at_.2.2 (by decide)
  have p0 : Y.cell? ⟨b, off, none⟩ = some (.string ⟨#[97]⟩) := (hcell 0 (mk [97] 2) rfl).c0
  have p1 : Y.cell? ⟨b, off + 7 + 1, none⟩ = some (.int .i64 3) := (hcell 1 (mk [98] 3) rfl).c1
  have p1' : Y.cell? ⟨b, off + 8, none⟩ = some (.int .i64 3) := (hcell 1 (mk [98] 3) rfl).c1
  clear hcell hv6 hm hbY
  go_wp2_with fail
  with_reducible refine (of_at _ _ 98 _ HV.out (by decide)).mono ?_
  rintro e x1 ⟨u1, rfl, hu1, hB1⟩
  rw [aw5] at hu1
  obtain ⟨A1, c1, rfl⟩ := its_len hu1 2 rfl
  replace HV := Lib.hid (HV.out.below hB1)
  replace HM := Lib.hid (HM.out.below hB1)
  replace HD := Lib.hid (HD.out.below hB1)
  replace HB := Lib.hid (below_trans' HB.out hB1)
  clear hu1 hB1 p0 p1 p1'
  go_wp2_with fail
  with_reducible refine (ordered_calls _ _ _ HV.out (by decide)).mono ?_
  rintro e x2 ⟨rfl, hB2⟩
  rw [aw6]
  replace HM := Lib.hid (HM.out.below hB2)
  replace HD := Lib.hid (HD.out.below hB2)
  replace HB := Lib.hid (below_trans' HB.out hB2)
  clear hB2 HV
  go_wp2_with fail
  with_reducible refine (some_at 98 1 _).mono ?_
  rintro e x3 ⟨rfl, hB3⟩
  replace HM := Lib.hid (HM.out.below hB3)
  replace HD := Lib.hid (HD.out.below hB3)
  replace HB := Lib.hid (below_trans' HB.out hB3)
  clear hB3
  go_wp2_with fail
  with_reducible refine (some_at 97 1 _).mono ?_
  rintro e x4 ⟨rfl, hB4⟩
  replace HM := Lib.hid (HM.out.below hB4)
  replace HD := Lib.hid (HD.out.below hB4)
  replace HB := Lib.hid (below_trans' HB.out hB4)
  clear hB4
  rw [hit]
  have hbs := build2 x4 (mk [98] 1) (mk [97] 1)
  have hB5 := below_one x4 (.cells #[.string ⟨#[98]⟩, .int .i64 1, .int .i64 0, .bool false, .string ⟨#[]⟩, .string ⟨#[48, 49, 50, 51, 52, 53, 54, 55, 56, 57, 97, 98, 99, 100, 101, 102]⟩, .string ⟨#[120]⟩, .string ⟨#[97]⟩, .int .i64 1, .int .i64 0, .bool false, .string ⟨#[]⟩, .string ⟨#[48, 49, 50, 51, 52, 53, 54, 55, 56, 57, 97, 98, 99, 100, 101, 102]⟩, .string ⟨#[120]⟩] 24)
  have HS : Hid (Its (x4.alloc (.cells #[.string ⟨#[98]⟩, .int .i64 1, .int .i64 0, .bool false, .string ⟨#[]⟩, .string ⟨#[48, 49, 50, 51, 52, 53, 54, 55, 56, 57, 97, 98, 99, 100, 101, 102]⟩, .string ⟨#[120]⟩, .string ⟨#[97]⟩, .int .i64 1, .int .i64 0, .bool false, .string ⟨#[]⟩, .string ⟨#[48, 49, 50, 51, 52, 53, 54, 55, 56, 57, 97, 98, 99, 100, 101, 102]⟩, .string ⟨#[120]⟩] 24)) (.slice (some ⟨x4.heap.size, 0, none⟩) 2 2) [mk [98] 1, mk [97] 1]) := Lib.hid hbs
  replace HM := Lib.hid (HM.out.below hB5)
  replace HD := Lib.hid (HD.out.below hB5)
  replace HB := Lib.hid (below_trans' HB.out hB5)
  clear hbs hB5
  go_wp2_with fail
  with_reducible refine (ordered_calls _ _ _ HS.out (by decide)).mono ?_
  rintro e x6 ⟨rfl, hB6⟩
  rw [aw7]
  replace HM := Lib.hid (HM.out.below hB6)
  replace HD := Lib.hid (HD.out.below hB6)
  replace HB := Lib.hid (below_trans' HB.out hB6)
  clear hB6 HS hit hit2
  have hm0 := box7 HM.out
  have hm1 : x6.cell? ⟨w7.heap.size, 0, none⟩ = some (.string ⟨#[97]⟩) ∧ x6.cell? ⟨w7.heap.size, 1, none⟩ = some (.int .i64 1) ∧ x6.cell? ⟨w7.heap.size, 2, none⟩ = some (.int .i64 0) ∧ x6.cell? ⟨w7.heap.size, 3, none⟩ = some (.bool true) ∧ x6.cell? ⟨w7.heap.size, 4, none⟩ = some (.string ⟨#[]⟩) ∧ x6.cell? ⟨w7.heap.size, 5, none⟩ = some (.string ⟨#[]⟩) ∧ x6.cell? ⟨w7.heap.size, 6, none⟩ = some (.string ⟨#[]⟩) := hm0
  obtain ⟨q0, q1, q2, q3, q4, q5, q6⟩ := hm1
  clear hm0
  go_wp2_with fail
  with_reducible refine (right_mark _).mono ?_
  rintro e x7 ⟨rfl, hB7⟩
  replace HD := Lib.hid (HD.out.below hB7)
  replace HB := Lib.hid (below_trans' HB.out hB7)
  clear hB7 HM q0 q1 q2 q3 q4 q5 q6
  have hm0 := box7 HD.out
  have hm1 : x7.cell? ⟨w9.heap.size, 0, none⟩ = some (.string ⟨#[97]⟩) ∧ x7.cell? ⟨w9.heap.size, 1, none⟩ = some (.int .i64 1) ∧ x7.cell? ⟨w9.heap.size, 2, none⟩ = some (.int .i64 0) ∧ x7.cell? ⟨w9.heap.size, 3, none⟩ = some (.bool true) ∧ x7.cell? ⟨w9.heap.size, 4, none⟩ = some (.string ⟨#[]⟩) ∧ x7.cell? ⟨w9.heap.size, 5, none⟩ = some (.string ⟨#[48, 49, 50, 51, 52, 53, 54, 55, 56, 57, 97, 98, 99, 100, 101, 102]⟩) ∧ x7.cell? ⟨w9.heap.size, 6, none⟩ = some (.string ⟨#[120]⟩) := hm0
  obtain ⟨q0, q1, q2, q3, q4, q5, q6⟩ := hm1
  clear hm0
  go_wp2_with fail
  with_reducible refine (right_bad _).mono ?_
  rintro e x8 ⟨rfl, hB8⟩
  replace HB := Lib.hid (below_trans' HB.out hB8)
  clear hB8 HD q0 q1 q2 q3 q4 q5 q6
  go_wp2_with fail
  with_reducible refine (right_zero _).mono ?_
  rintro e x9 ⟨rfl, hB9⟩
  replace HB := Lib.hid (below_trans' HB.out hB9)
  clear hB9
  go_wp2_with fail
  with_reducible refine (some_at 98 3 _).mono ?_
  rintro e x10 ⟨rfl, hB10⟩
  replace HB := Lib.hid (below_trans' HB.out hB10)
  clear hB10
  go_wp2_with fail
  with_reducible refine (some_at 98 1 _).mono ?_
  rintro e x11 ⟨rfl, hB11⟩
  replace HB := Lib.hid (below_trans' HB.out hB11)
  clear hB11
  go_wp2_with fail
  with_reducible refine (less_calls (mk [98] 3) (mk [98] 1) _).mono ?_
  rintro e x12 ⟨rfl, hB12⟩
  rw [aw11]
  replace HB := Lib.hid (below_trans' HB.out hB12)
  clear hB12
  go_wp2_with fail
  with_reducible refine (some_at 98 1 _).mono ?_
  rintro e x13 ⟨rfl, hB13⟩
  replace HB := Lib.hid (below_trans' HB.out hB13)
  clear hB13
  go_wp2_with fail
  with_reducible refine (some_at 97 1 _).mono ?_
  rintro e x14 ⟨rfl, hB14⟩
  replace HB := Lib.hid (below_trans' HB.out hB14)
  clear hB14
  go_wp2_with fail
  with_reducible refine (less_calls (mk [98] 1) (mk [97] 1) _).mono ?_
  rintro e x15 ⟨rfl, hB15⟩
  rw [aw12]
  replace HB := Lib.hid (below_trans' HB.out hB15)
  clear hB15
  go_wp2_with fail
  go_ret
  exact ⟨rfl, HB.out⟩

end Go.Proofs.Ytgnhjcgegibpdaa
