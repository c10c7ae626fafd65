/- ItemTells: the walk. No statement is proved here. -/
import Derived.Test.YtgnhjcgegibpdaaAwake
import Derived.Test.YtgnhjcgegibpdaaROrd
import Derived.Deep.RegionHeld3
namespace Go.Proofs.Ytgnhjcgegibpdaa
open Go.RowKit
open Go.Sort (grow)

theorem Its.drew' {w : World} {v : Value} {l : List It} (h : Its w v l) : Its w.drew v l := h.below (Below.refl _ _).drew
theorem of_its' (v : Value) (l : List It) (k : List UInt8) (w : World) (hv : Its w v l) (hl : l.length ≤ 1000) : Calls Try.prog 16 #[v, .string (strB k)] w fun e w' => ∃ v', e = .returned v' ∧ Its w' v' (ofL k l) ∧ Below w.heap.size w w' :=
  (of_calls v l k w hv hl).mono fun _ _ ⟨v', h1, h2, h3⟩ => ⟨v', h1, h2.its, h3⟩
theorem rof_its (v : Value) (l : List It) (k : List UInt8) (w : World) (hv : Its w v l) (hl : l.length ≤ 1000) : Calls Try.prog 17 #[v, .string (strB k)] w fun e w' => ∃ v', e = .returned v' ∧ Its w' v' (ofL k l) ∧ Below w.heap.size w w' :=
  (rof_calls v l k w hv hl).mono fun _ _ ⟨v', h1, h2, h3⟩ => ⟨v', h1, h2.its, h3⟩

/-- What lies in W: the items, and the two. -/
structure TW (w : World) (x y : It) (l : List It) (v : Value) (W : World) : Prop where
  l : Its W v l
  x : Box W w.heap.size x
  y : Box W (w.heap.size + 1) y
  below : Below w.heap.size w W
theorem TW.more {w : World} {x y : It} {l : List It} {v : Value} {W W' : World} (h : TW w x y l v W) (hb : Below W.heap.size W W') : TW w x y l v W' :=
  ⟨h.l.below hb, h.x.below hb, h.y.below hb, below_trans' h.below hb⟩

set_option maxRecDepth 100000 in
set_option maxHeartbeats 32000000 in
theorem tells_calls (v : Value) (l : List It) (x y : It) (w : World) (hv : Its w v l) (hlm : l.length ≤ 9223372036854775000)
    (hsz : ∀ x ∈ l, x.key.length ≤ 1000000000000000 ∧ x.mt.length ≤ 1000000000000000 ∧ x.tag.length ≤ 1000000000000000 ∧ x.body.length ≤ 1000000000000000)
    (hsx : x.key.length ≤ 1000000000000000 ∧ x.mt.length ≤ 1000000000000000 ∧ x.tag.length ≤ 1000000000000000 ∧ x.body.length ≤ 1000000000000000)
    (hsy : y.key.length ≤ 1000000000000000 ∧ y.mt.length ≤ 1000000000000000 ∧ y.tag.length ≤ 1000000000000000 ∧ y.body.length ≤ 1000000000000000) :
    Calls Try.prog 3 #[v, itV x, itV y] w fun e w' => e = .returned (.bool true) ∧ Below w.heap.size w w' := by
  have hb0 := below_two w (.cells #[.string (strB x.key), .int .i64 x.seq, .int .i64 x.ver, .bool x.mark, .string (strB x.mt), .string (strB x.tag), .string (strB x.body)] 24) (.cells #[.string (strB y.key), .int .i64 y.seq, .int .i64 y.ver, .bool y.mark, .string (strB y.mt), .string (strB y.tag), .string (strB y.body)] 24)
  have hS0 := small_calls v l _ (hv.below hb0) hlm hsz
  have htw : TW w x y l v ((w.alloc (.cells #[.string (strB x.key), .int .i64 x.seq, .int .i64 x.ver, .bool x.mark, .string (strB x.mt), .string (strB x.tag), .string (strB x.body)] 24)).alloc (.cells #[.string (strB y.key), .int .i64 y.seq, .int .i64 y.ver, .bool y.mark, .string (strB y.mt), .string (strB y.tag), .string (strB y.body)] 24)) := by
    refine ⟨hv.below hb0, Box.below (heap_alloc_new w _) (below_one _ _), ?_, hb0⟩
    have h := heap_alloc_new (w.alloc (.cells #[.string (strB x.key), .int .i64 x.seq, .int .i64 x.ver, .bool x.mark, .string (strB x.mt), .string (strB x.tag), .string (strB x.body)] 24)) (.cells #[.string (strB y.key), .int .i64 y.seq, .int .i64 y.ver, .bool y.mark, .string (strB y.mt), .string (strB y.tag), .string (strB y.body)] 24)
    rw [World.size_alloc] at h
    exact h
  have hS1 : ∀ W : World, Calls Try.prog 7 #[.slice (some ⟨W.heap.size, 0, none⟩) 2 2] (W.alloc (.cells #[.string (strB x.key), .int .i64 x.seq, .int .i64 x.ver, .bool x.mark, .string (strB x.mt), .string (strB x.tag), .string (strB x.body), .string (strB y.key), .int .i64 y.seq, .int .i64 y.ver, .bool y.mark, .string (strB y.mt), .string (strB y.tag), .string (strB y.body)] 24)) fun e w' => ∃ b, e = .returned (.bool b) ∧ (b = true → [x, y].length ≤ 60 ∧ ∀ z ∈ [x, y], z.key.length ≤ 2500) ∧ Below (W.alloc (.cells #[.string (strB x.key), .int .i64 x.seq, .int .i64 x.ver, .bool x.mark, .string (strB x.mt), .string (strB x.tag), .string (strB x.body), .string (strB y.key), .int .i64 y.seq, .int .i64 y.ver, .bool y.mark, .string (strB y.mt), .string (strB y.tag), .string (strB y.body)] 24)).heap.size (W.alloc (.cells #[.string (strB x.key), .int .i64 x.seq, .int .i64 x.ver, .bool x.mark, .string (strB x.mt), .string (strB x.tag), .string (strB x.body), .string (strB y.key), .int .i64 y.seq, .int .i64 y.ver, .bool y.mark, .string (strB y.mt), .string (strB y.tag), .string (strB y.body)] 24)) w' := fun W => by
    refine small_calls _ [x, y] _ (build2 W x y) (by simp) (fun z hz => ?_)
    rcases List.mem_cons.1 hz with rfl | hz
    · exact hsx
    · rw [List.mem_singleton.1 hz]; exact hsy
  have HS0 := Lib.hid hS0
  have HS1 := Lib.hid hS1
  have HTW := Lib.hid htw
  obtain ⟨A, c, rfl⟩ := hv.form
  obtain ⟨n, hn⟩ : ∃ n, n = l.length := ⟨_, rfl⟩
  rw [← hn] at hlm HS0 HTW ⊢
  have HN := Lib.hid hn
  clear hn hv hsz hsx hsy hS0 hS1 hb0 htw
  have hR := right_calls x
  have hRR := rright_calls x
  have hL := less_calls x y
  have hRL := rless_calls x y
  unfold itV at hR hRR hL hRL
  have HR := Lib.hid hR
  have HRR := Lib.hid hRR
  have HL := Lib.hid hL
  have HRL := Lib.hid hRL
  clear hR hRR hL hRL
  unfold itV
  go_enter Try.func3, Try.ntmps3
  go_wp2_with fail
  with_reducible refine HS0.out.mono ?_
  rintro e w1 ⟨b, rfl, hb, hB1⟩
  replace HTW := Lib.hid (HTW.out.more hB1)
  clear HS0 hB1
  cases b with
  | false =>
    clear hb HS1
    go_wp2_with fail
    with_reducible refine (awake_true _).mono ?_
    rintro e w2 ⟨rfl, hB2⟩
    go_wp2_with fail
    go_ret
    exact ⟨rfl, below_trans' HTW.out.below hB2⟩
  | true =>
    have h60 := (hb rfl).1
    have HKL := Lib.hid (hb rfl).2
    clear hb hlm
    obtain ⟨p0, p1, p2, p3, p4, p5, p6⟩ := box7 HTW.out.x
    obtain ⟨q0, q1, q2, q3, q4, q5, q6⟩ := box7 HTW.out.y
    go_wp2_with fail
    with_reducible refine (HS1.out _).mono ?_
    rintro e w2 ⟨b, rfl, hb, hB2⟩
    replace HTW := Lib.hid ((HTW.out.more (below_one _ _)).more hB2)
    clear HS1 hB2 p0 p1 p2 p3 p4 p5 p6 q0 q1 q2 q3 q4 q5 q6
    cases b with
    | false =>
      clear hb
      go_wp2_with fail
      with_reducible refine (awake_true _).mono ?_
      rintro e w3 ⟨rfl, hB3⟩
      go_wp2_with fail
      go_ret
      exact ⟨rfl, below_trans' HTW.out.below hB3⟩
    | true =>
      have hkx := (hb rfl).2 x (by simp)
      have HKX := Lib.hid hkx
      have hln : l.length ≤ 1000 := by have := HN.out; omega
      have HLN := Lib.hid hln
      have hol : (ofL x.key l).length ≤ 1000 := Nat.le_trans (List.length_filter_le _ _) hln
      have HOL := Lib.hid hol
      clear hb hkx hln hol
      replace HTW := Lib.hid (HTW.out.more (Below.refl _ _).drew)
      obtain ⟨b1, hb1⟩ : ∃ b1, b1 = rightB x := ⟨_, rfl⟩
      obtain ⟨b2, hb2⟩ : ∃ b2, b2 = less x y := ⟨_, rfl⟩
      obtain ⟨b3, hb3⟩ : ∃ b3, b3 = orderedB l := ⟨_, rfl⟩
      have HO := Lib.hid (ordered_calls (.slice A n c) l)
      have HRO := Lib.hid (rordered_calls (.slice A n c) l)
      rw [← hb1] at HR HRR
      rw [← hb2] at HL HRL
      rw [← hb3] at HO HRO
      clear hb1 hb2 hb3
      have k1 : (b1 == b1) = true := by simp
      have k2 : (b2 == b2) = true := by simp
      have k3 : (b3 == b3) = true := by simp
      go_wp2_with fail
      go_region_held3 (fun W => (W.cell? ⟨w.heap.size, 0, none⟩ = some (.string (strB x.key)) ∧ W.cell? ⟨w.heap.size, 1, none⟩ = some (.int .i64 x.seq) ∧ W.cell? ⟨w.heap.size, 2, none⟩ = some (.int .i64 x.ver) ∧ W.cell? ⟨w.heap.size, 3, none⟩ = some (.bool x.mark) ∧ W.cell? ⟨w.heap.size, 4, none⟩ = some (.string (strB x.mt)) ∧ W.cell? ⟨w.heap.size, 5, none⟩ = some (.string (strB x.tag)) ∧ W.cell? ⟨w.heap.size, 6, none⟩ = some (.string (strB x.body))) ∧
        (W.cell? ⟨w.heap.size + 1, 0, none⟩ = some (.string (strB y.key)) ∧ W.cell? ⟨w.heap.size + 1, 1, none⟩ = some (.int .i64 y.seq) ∧ W.cell? ⟨w.heap.size + 1, 2, none⟩ = some (.int .i64 y.ver) ∧ W.cell? ⟨w.heap.size + 1, 3, none⟩ = some (.bool y.mark) ∧ W.cell? ⟨w.heap.size + 1, 4, none⟩ = some (.string (strB y.mt)) ∧ W.cell? ⟨w.heap.size + 1, 5, none⟩ = some (.string (strB y.tag)) ∧ W.cell? ⟨w.heap.size + 1, 6, none⟩ = some (.string (strB y.body)))) (exact ⟨box7 HTW.out.x, box7 HTW.out.y⟩) (first
        | (go_at_call 8; (with_reducible refine (awake_true _).mono ?_); rintro e wa ⟨rfl, hBa⟩; replace HTW := Lib.hid (HTW.out.more hBa); clear hBa)
        | (go_at_call 9; (with_reducible refine (HR.out _).mono ?_); rintro e wa ⟨rfl, hBa⟩; replace HTW := Lib.hid (HTW.out.more hBa); clear hBa)
        | (go_at_call 10; (with_reducible refine (HRR.out _ HKX.out).mono ?_); rintro e wa ⟨rfl, hBa⟩; replace HTW := Lib.hid (HTW.out.more hBa); clear hBa)
        | (go_at_call 11; (with_reducible refine (HL.out _).mono ?_); rintro e wa ⟨rfl, hBa⟩; replace HTW := Lib.hid (HTW.out.more hBa); clear hBa)
        | (go_at_call 12; (with_reducible refine (HRL.out _).mono ?_); rintro e wa ⟨rfl, hBa⟩; replace HTW := Lib.hid (HTW.out.more hBa); clear hBa)
        | (go_at_call 13; (with_reducible refine (HO.out _ HTW.out.l HLN.out).mono ?_); rintro e wa ⟨rfl, hBa⟩; replace HTW := Lib.hid (HTW.out.more hBa); clear hBa)
        | (go_at_call 14; (with_reducible refine (HRO.out _ HTW.out.l HLN.out HKL.out).mono ?_); rintro e wa ⟨rfl, hBa⟩; replace HTW := Lib.hid (HTW.out.more hBa); clear hBa)
        | (go_at_call 16; (with_reducible refine (of_its' _ l x.key _ HTW.out.l HLN.out).mono ?_); rintro e wa ⟨va, rfl, hva, hBa⟩; replace HTW := Lib.hid (HTW.out.more hBa); (try replace HV17 := Lib.hid (HV17.out.below hBa)); have HV16 := Lib.hid hva; clear hva hBa)
        | (go_at_call 17; (with_reducible refine (rof_its _ l x.key _ HTW.out.l HLN.out).mono ?_); rintro e wa ⟨va, rfl, hva, hBa⟩; replace HTW := Lib.hid (HTW.out.more hBa); (try replace HV16 := Lib.hid (HV16.out.below hBa)); have HV17 := Lib.hid hva; clear hva hBa)
        | (go_at_call 15; (with_reducible refine (same_calls _ _ (ofL x.key l) (ofL x.key l) _ HV16.out HV17.out HOL.out).mono ?_); rintro e wa ⟨rfl, hBa⟩; replace HTW := Lib.hid (HTW.out.more hBa); clear hBa))
      all_goals
        go_wp2_with fail
        go_ret
        exact ⟨rfl, HTW.out.below⟩

end Go.Proofs.Ytgnhjcgegibpdaa
