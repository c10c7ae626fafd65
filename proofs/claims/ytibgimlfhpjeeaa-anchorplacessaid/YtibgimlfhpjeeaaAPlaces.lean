/- AnchorPlaces: the walk. No statement is proved here. -/
import Derived.Test.YtibgimlfhpjeeaaAApart
import Derived.BigRegion
import Derived.IntWalk
namespace Go.Proofs.Ytibgimlfhpjeeaa
open Go.RowKit Go.Sort
open Crc (Only RowB bur oth bur_len bur_at bur_step bur_zero bur_getD bur_opens getD_of)

theorem conv_bytes (w : World) (l : List UInt8) : ∃ (cap : Nat) (Y : World), (convert 9 35 (.string (strB l))).run Try.prog w = .ok (.slice (some ⟨w.heap.size, 0, none⟩) l.length cap) Y ∧ RowB Y w.heap.size l ∧ Below w.heap.size w Y ∧ w.heap.size < Y.heap.size := by
  have h := run_bytes_of_string (P := Try.prog) w 9 35 5 (strB l) Try.underlying9 Try.underlying35 Try.underlying5
  rw [strB_size] at h
  have hR := RowB.new w l (grownCap w l.length 0 5)
  exact ⟨_, _, h, hR.keep rfl, (Below.refl w.heap.size w).drew.alloc (Nat.le_refl _) _, (hR.keep rfl).lt⟩

theorem set_is {l : List UInt8} {k : Nat} (h : k < l.length) : l.set k (l.getD k 0 + 1) = bur l k [l.getD k 0 ^^^ (l.getD k 0 + 1)] 1 := by
  have h1 := bur_step (x := l) (k := k) (f := [l.getD k 0 ^^^ (l.getD k 0 + 1)]) (i := 0) (by simp) (by simpa using h)
  rw [bur_zero (by omega)] at h1
  have e : [l.getD k 0 ^^^ (l.getD k 0 + 1)].getD 0 0 = l.getD k 0 ^^^ (l.getD k 0 + 1) := rfl
  rw [e] at h1
  have e2 : l.getD (k + 0) 0 ^^^ (l.getD k 0 ^^^ (l.getD k 0 + 1)) = l.getD k 0 + 1 := by
    rw [Nat.add_zero, ← UInt8.xor_assoc, UInt8.xor_self, UInt8.zero_xor]
  rw [e2] at h1
  exact h1.symm
theorem xor_ne (a : UInt8) : a ^^^ (a + 1) ≠ 0 := by
  intro h
  rw [UInt8.xor_eq_zero_iff] at h
  have := congrArg UInt8.toNat h
  rw [UInt8.toNat_add] at this
  have h1 : (1 : UInt8).toNat = 1 := rfl
  rw [h1] at this
  have := a.toNat_lt
  omega
theorem turned_set {x : Sh} {k : Nat} (h : k < 256) : isS ((printL x).set k ((printL x).getD k 0 + 1)) = false := by
  rw [set_is (by rw [print_len]; exact h)]
  exact turned (xor_ne _) h

/-- What lies when the shape and the numbers are there. -/
structure PL (w W : World) (x : Sh) (n0 n1 : Nat) : Prop where
  x : SBox W w.heap.size x
  y : W.heap[w.heap.size + 1]? = some (.cells #[.int .u16 n0, .int .u16 n1] 34 (0, 0))
  below : Below w.heap.size w W
section
variable {w W W' : World} {x : Sh} {n0 n1 : Nat}
theorem PL.more (h : PL w W x n0 n1) (hb : Below W.heap.size W W') : PL w W' x n0 n1 :=
  ⟨h.x.below hb, (hb.block _ (Array.getElem?_eq_some_iff.1 h.y).1).trans h.y, below_trans' h.below hb⟩
theorem PL.only {g : Nat} (h : PL w W x n0 n1) (k : Only g W W') (hg : w.heap.size + 1 < g) : PL w W' x n0 n1 :=
  ⟨h.x.only k (by omega), (k.block _ (by omega)).trans h.y, Only.after h.below k (by omega)⟩
theorem PL.new (w : World) (x : Sh) (n0 n1 : Nat) : PL w ((w.alloc (.cells #[.int .i64 x.pages, .int .i64 x.journal] 23)).alloc (.cells #[.int .u16 n0, .int .u16 n1] 34)) x n0 n1 := by
  refine ⟨(SBox.new w x).below (below_one _ _), ?_, below_trans' (below_one _ _) (below_one _ _)⟩
  have := heap_alloc_new (w.alloc (.cells #[.int .i64 x.pages, .int .i64 x.journal] 23)) (.cells #[.int .u16 n0, .int .u16 n1] 34)
  rw [show (w.alloc (.cells #[.int .i64 x.pages, .int .i64 x.journal] 23)).heap.size = w.heap.size + 1 by simp] at this
  exact this
theorem PL.c0 (h : PL w W x n0 n1) : W.cell? ⟨w.heap.size + 1, 0, none⟩ = some (.int .u16 n0) := by rw [cell_of_row W _ _ _ _ _ h.y]; rfl
theorem PL.c1 (h : PL w W x n0 n1) : W.cell? ⟨w.heap.size + 1, 1, none⟩ = some (.int .u16 n1) := by rw [cell_of_row W _ _ _ _ _ h.y]; rfl
end

theorem parseP {x : Sh} (h : rightS x = true) (w : World) : Calls Try.prog 8 #[.string (strB (printL x))] w fun e w' => e = .returned (.tuple #[shV x, .bool true]) ∧ Below w.heap.size w w' := by
  have k := parse_calls (printL x) w
  rw [parse_print h, is_print h] at k
  exact k
theorem parseN {l : List UInt8} (h : isS l = false) (w : World) : Calls Try.prog 8 #[.string (strB l)] w fun e w' => e = .returned (.tuple #[.agg #[.int .i64 0, .int .i64 0], .bool false]) ∧ Below w.heap.size w w' := by
  have k := parse_calls l w
  have e : parseS l = zeroS := by unfold parseS; rw [h]; rfl
  rw [e, h] at k
  exact k

set_option maxRecDepth 100000 in
set_option maxHeartbeats 32000000 in
theorem places_calls (x : Sh) (n0 n1 a : Nat) (w : World) (h0 : n0 < 65536) (h1 : n1 < 65536) (ha : a < 65536) :
    Calls Try.prog 4 #[shV x, .agg #[.int .u16 n0, .int .u16 n1], .int .u16 a] w fun e w' => e = .returned (.bool true) ∧ Below w.heap.size w w' := by
  have CX := Lib.hid (right_calls x)
  have PX := Lib.hid (print_calls x)
  unfold shV at CX PX
  obtain ⟨Y, hY, hAP⟩ : ∃ Y, Y = (w.alloc (.cells #[.int .i64 x.pages, .int .i64 x.journal] 23)).alloc (.cells #[.int .u16 n0, .int .u16 n1] 34) ∧ PL w Y x n0 n1 := ⟨_, rfl, PL.new w x n0 n1⟩
  have HY := Lib.hid hY
  have HP := Lib.hid hAP
  have k0 := hAP.x.c0
  have k1 := hAP.x.c1
  rw [hY] at k0 k1
  clear hY hAP
  cases rx : rightS x with
  | false =>
    unfold shV
    go_enter Try.func4, Try.ntmps4
    go_wp2_with fail
    rw [← HY.out]
    (with_reducible refine (CX.out _).mono ?_)
    rintro e w1 ⟨rfl, hB1⟩
    rw [rx]
    go_wp2_with fail
    (with_reducible refine (awake_true _).mono ?_)
    rintro e w2 ⟨rfl, hB2⟩
    go_wp2_with fail
    go_ret
    exact ⟨rfl, ((HP.out.more hB1).more hB2).below⟩
  | true =>
    obtain ⟨S, hS⟩ : ∃ S, S = printL x := ⟨_, rfl⟩
    obtain ⟨k, hk⟩ : ∃ k : Nat, (a : Int) % 256 = (k : Int) := ⟨a % 256, by omega⟩
    have hk2 : k < 256 := by omega
    have HPP := Lib.hid (parseP rx)
    have HSL : Hid (S.length = 256) := Lib.hid (by rw [hS]; exact print_len x)
    have HNN := Lib.hid (parseN (turned_set (x := x) hk2))
    rw [← hS] at HPP HNN PX
    have HRX := Lib.hid rx
    clear hS
    have q := neq23 x x
    rw [decide_eq_true rfl] at q
    unfold shV at HPP q
    unfold shV
    go_enter Try.func4, Try.ntmps4
    go_wp2_with fail
    rw [← HY.out]
    (with_reducible refine (CX.out _).mono ?_)
    rintro e w1 ⟨rfl, hB1⟩
    rw [rx]
    replace HP := Lib.hid (HP.out.more hB1)
    clear hB1 HY CX rx k0 k1
    have k0 := HP.out.x.c0
    have k1 := HP.out.x.c1
    go_wp2_with fail
    (with_reducible refine (PX.out _).mono ?_)
    rintro e w2 ⟨rfl, hB2⟩
    replace HP := Lib.hid (HP.out.more hB2)
    clear hB2 PX k0 k1
    go_wp2_with fail
    (with_reducible refine (HPP.out _).mono ?_)
    rintro e w3 ⟨rfl, hB3⟩
    replace HP := Lib.hid (HP.out.more (below_trans' hB3 (below_one w3 (.cells #[.int .i64 x.pages, .int .i64 x.journal] 23))))
    have HZ := Lib.hid (SBox.new w3 x)
    obtain ⟨W4, hW4⟩ : ∃ W4, W4 = w3.alloc (.cells #[.int .i64 x.pages, .int .i64 x.journal] 23) := ⟨_, rfl⟩
    rw [← hW4] at HP HZ
    have k0 := HP.out.x.c0
    have k1 := HP.out.x.c1
    rw [hW4] at k0 k1
    have HW4 := Lib.hid hW4
    obtain ⟨c1, Y1, v1, r1, s1, t1⟩ := conv_bytes W4 S
    have hz1 : (strB S).size = 256 := by rw [strB_size]; exact HSL.out
    rw [HSL.out] at v1
    have HR1 := Lib.hid r1
    have HP1 := Lib.hid (HP.out.more s1)
    have HG : Hid (w.heap.size + 1 < W4.heap.size) := Lib.hid (Array.getElem?_eq_some_iff.1 HP.out.y).1
    have j1 : k < S.length := by rw [HSL.out]; exact hk2
    have cc := r1.cell j1
    have cf := r1.free j1
    have e4 : W4.heap.size = w3.heap.size + 1 := by rw [hW4]; simp
    obtain ⟨c, hc⟩ : ∃ c, c = S.getD k 0 := ⟨_, rfl⟩
    obtain ⟨T, hT⟩ : ∃ T, T = S.set k (c + 1) := ⟨_, rfl⟩
    rw [← hc] at cc HNN
    rw [← hT] at HNN
    obtain ⟨X, hX⟩ : ∃ X, X = Y1.setCell ⟨w3.heap.size + 1, k, none⟩ (.int .u8 ((((c.toNat : Nat) : Int) + 1) % 256)) := ⟨_, rfl⟩
    have hR2 : RowB X (w3.heap.size + 1) T := by
      rw [hX, hT, ← e4]
      have := r1.set j1 (c + 1)
      rw [show (((c + 1).toNat : Nat) : Int) = (((c.toNat : Nat) : Int) + 1) % 256 by rw [UInt8.toNat_add]; simp] at this
      exact this
    have hTl : T.length = 256 := by rw [hT, List.length_set]; exact HSL.out
    have v2 := hR2.back c1
    rw [hTl] at v2
    have HO : Hid (Only W4.heap.size Y1 X) := Lib.hid (by rw [hX, ← e4]; exact (Only.refl W4.heap.size Y1).setCell _ rfl _)
    rw [e4] at v1 cc cf
    rw [hW4] at v1
    rw [hX] at v2
    have HX := Lib.hid hX
    replace HP1 : Hid (PL w X x n0 n1) := Lib.hid (HP1.out.only HO.out HG.out)
    clear hB3 hW4 HPP r1 s1 t1 j1 e4 hc hT hTl hR2 hX
    go_wp2_with fail
    rw [← HX.out]
    clear HX v1 v2 cc cf k0 k1 q hz1 HO HR1 HP HZ HW4
    (with_reducible refine (HNN.out _).mono ?_)
    rintro e w5 ⟨rfl, hB5⟩
    have HP := Lib.hid (HP1.out.more (below_trans' hB5 (below_one w5 (.cells #[.int .i64 0, .int .i64 0] 23))))
    obtain ⟨W6, hW6⟩ : ∃ W6, W6 = w5.alloc (.cells #[.int .i64 0, .int .i64 0] 23) := ⟨_, rfl⟩
    rw [← hW6] at HP
    have HW6 := Lib.hid hW6
    clear hB5 hW6 HNN HP1
    go_wp2_with fail
    rw [← HW6.out]
    clear HW6
    have k0 := HP.out.x.c0
    have k1 := HP.out.x.c1
    have l0 := HP.out.c0
    have l1 := HP.out.c1
    obtain ⟨b1, b2, b3, b4⟩ := right_iff.1 HRX.out
    have d1 : x.journal ≠ 0 := by omega
    have d2 : x.pages ≠ 0 := by omega
    obtain ⟨i, hi⟩ : ∃ i, i = (n0 : Int) % x.journal := ⟨_, rfl⟩
    obtain ⟨p, hp⟩ : ∃ p, p = (n1 : Int) % x.pages := ⟨_, rfl⟩
    have i1 : 0 ≤ i := by rw [hi]; exact Int.emod_nonneg _ d1
    have i2 : i < x.journal := by rw [hi]; exact Int.emod_lt_of_pos _ (by omega)
    have p1 : 0 ≤ p := by rw [hp]; exact Int.emod_nonneg _ d2
    have p2 : p < x.pages := by rw [hp]; exact Int.emod_lt_of_pos _ (by omega)
    have HI := Lib.hid hi
    have HQ := Lib.hid hp
    obtain ⟨A, hA⟩ : ∃ A, A = logN i := ⟨_, rfl⟩
    obtain ⟨B, hB⟩ : ∃ B, B = placeN x 0 := ⟨_, rfl⟩
    obtain ⟨C, hC⟩ : ∃ C, C = placeN x p := ⟨_, rfl⟩
    obtain ⟨E, hE⟩ : ∃ E, E = placeN x x.pages := ⟨_, rfl⟩
    obtain ⟨F, hF⟩ : ∃ F, F = logN (x.journal - 1) := ⟨_, rfl⟩
    obtain ⟨G, hG⟩ : ∃ G, G = placeN x (x.pages - 1) := ⟨_, rfl⟩
    have vA : A = 1 + i := by rw [hA]; exact log_in (by omega) (by omega)
    have vB : B = 1 + x.journal + 0 := by rw [hB]; exact place_in HRX.out (by omega) (by omega)
    have vC : C = 1 + x.journal + p := by rw [hC]; exact place_in HRX.out (by omega) (by omega)
    have vE : E = 1 + x.journal + x.pages := by rw [hE]; exact place_in HRX.out (by omega) (by omega)
    have vF : F = 1 + (x.journal - 1) := by rw [hF]; exact log_in (by omega) (by omega)
    have vG : G = 1 + x.journal + (x.pages - 1) := by rw [hG]; exact place_in HRX.out (by omega) (by omega)
    have f1 := Lib.hid (show (1 : Int) ≤ A by omega)
    have f2 := Lib.hid (show A < B by omega)
    have f3 := Lib.hid (show B ≤ C by omega)
    have f4 := Lib.hid (show C < E by omega)
    have f5 := Lib.hid (show wrap64 (F + 1) = B by unfold wrap64; omega)
    have f6 := Lib.hid (show wrap64 (G + 1) = E by unfold wrap64; omega)
    have f7 := Lib.hid (show wrap64 (x.journal - 1) = x.journal - 1 by unfold wrap64; omega)
    have f8 := Lib.hid (show wrap64 (x.pages - 1) = x.pages - 1 by unfold wrap64; omega)
    have CA := log_calls i
    have CB := place_calls x 0
    have CC := place_calls x p
    have CE := size_calls x
    have CF := log_calls (x.journal - 1)
    have CG := place_calls x (x.pages - 1)
    rw [← hA] at CA
    rw [← hB] at CB
    rw [← hC] at CC
    rw [← hE] at CE
    rw [← hF] at CF
    rw [← hG] at CG
    clear vA vB vC vE vF vG hA hB hC hE hF hG i1 i2 p1 p2 b1 b2 b3 b4 hi hp
    go_quiet (fail)
    rw [← HI.out, ← HQ.out]
    have HP7 : Hid (PL w (W6.drewN nq) x n0 n1) := Lib.hid ⟨HP.out.x.keep rfl, HP.out.y, ⟨HP.out.below.os, HP.out.below.tape, HP.out.below.output, HP.out.below.size, HP.out.below.block⟩⟩
    generalize W6.drewN nq = W7 at *
    clear HP HI HQ k0 k1 l0 l1 d1 d2
    have g := fun d os => HP7.out.more (below_regrown W7 d os)
    have i0 := fun d os => (g d os).x.c0
    have i1 := fun d os => (g d os).x.c1
    unfold shV at CB CC CE CG
    have D0 := Lib.hid (rg awake_true W7)
    have D1 := Lib.hid (rg0 CA W7)
    have D2 := Lib.hid (rg CB W7)
    have D3 := Lib.hid (rg CC W7)
    have D4 := Lib.hid (rg CE W7)
    have D5 := Lib.hid (rg0 CF W7)
    have D6 := Lib.hid (rg CG W7)
    have f1 := f1.out
    have f2 := f2.out
    have f3 := f3.out
    have f4 := f4.out
    have f5 := f5.out
    have f6 := f6.out
    have f7 := f7.out
    have f8 := f8.out
    clear g CA CB CC CE CF CG
    go_wp2_with fail
    refine wp_region_quiet_below (by kernel_rfl) (by kernel_rfl) ?_
    (try simp only [List.append_eq, List.cons_append, List.nil_append])
    repeat (first | go_big_quiet_step (first | (with_reducible exact D0.out _ _) | (with_reducible exact D1.out _ _) | (with_reducible exact D2.out _ _) | (with_reducible exact D3.out _ _) | (with_reducible exact D4.out _ _) | (with_reducible exact D5.out _ _) | (with_reducible exact D6.out _ _)))
    refine wpQuiet_nil ?_
    intro _ hw'
    obtain ⟨⟨dq, osq⟩, hw''⟩ := hw'
    subst hw''
    go_wp2_with fail
    go_ret
    exact ⟨rfl, (HP7.out.more (below_regrown W7 dq osq)).below⟩

end Go.Proofs.Ytibgimlfhpjeeaa
