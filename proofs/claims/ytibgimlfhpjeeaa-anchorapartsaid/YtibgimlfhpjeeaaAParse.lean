/- anchor.guess, Parse: what each call does. No statement is proved here. -/
import Derived.Test.YtibgimlfhpjeeaaAMem
import Derived.Test.YtibgimlfhpjeeaaWMark
namespace Go.Proofs.Ytibgimlfhpjeeaa
open Go.RowKit Go.Sort
open Wire (TK TP But twoL numS numV markS)
open Crc (sealB Only)

/-- What lies while a shape is guessed. -/
structure GS (ty : TypeId) (w W : World) (t : TK) : Prop where
  z : SBox W w.heap.size zeroS
  t : TP ty W (w.heap.size + 1) t
  below : Below w.heap.size w W
section
variable {ty : TypeId} {w W W' : World} {t u : TK}
theorem GS.but (h : GS ty w W t) (ht : TP ty W' (w.heap.size + 1) u) (hb : But (w.heap.size + 1) W W') : GS ty w W' u :=
  ⟨h.z.but hb (by omega), ht, h.below.trans (hb.below (by omega) h.below.size)⟩
theorem GS.new (ty : TypeId) (w : World) (s : List UInt8) : ∃ Y, Y = (w.alloc (.cells #[.int .i64 0, .int .i64 0] 23)).alloc (.cells #[.string (strB s), .bool false] ty) ∧ GS ty w Y ⟨s, false⟩ := by
  refine ⟨_, rfl, ?_, ?_, below_trans' (below_one _ _) (below_one _ _)⟩
  · exact (SBox.new w zeroS).below (below_one _ _)
  · have := TP.new ty (w.alloc (.cells #[.int .i64 0, .int .i64 0] 23)) s false
    rw [show (w.alloc (.cells #[.int .i64 0, .int .i64 0] 23)).heap.size = w.heap.size + 1 by simp] at this
    exact this
end

set_option maxRecDepth 100000 in
set_option maxHeartbeats 8000000 in
theorem guess_calls (s : List UInt8) (w : World) :
    Calls Try.prog 19 #[.string (strB s)] w fun e w' => e = .returned (shV (guessS s)) ∧ Below w.heap.size w w' := by
  obtain ⟨Y, hY, hG⟩ := GS.new 47 w s
  have HY := Lib.hid hY
  have HG := Lib.hid hG
  have CM := Lib.hid (fun W => Wire.mark_calls (w.heap.size + 1) archK ⟨s, false⟩ W)
  rw [show strB archK = ⟨#[65, 82, 67, 72, 73, 86, 69, 49]⟩ from rfl] at CM
  clear hY hG
  go_enter Try.func19, Try.ntmps19
  go_wp2_with fail
  rw [← HY.out]
  (with_reducible refine (CM.out _ HG.out.t).mono ?_)
  rintro e w2 ⟨rfl, hT2, hB2⟩
  replace HG : Hid (GS 47 w w2 (g0 s)) := Lib.hid (HG.out.but hT2 hB2)
  clear hT2 hB2 HY CM
  go_wp2_with fail
  (with_reducible refine (Wire.ttwo_calls (w.heap.size + 1) 16 512 (g0 s) _ HG.out.t).mono ?_)
  rintro e w3 ⟨rfl, hT3, hB3⟩
  replace HG : Hid (GS 47 w w3 (g1 s)) := Lib.hid (HG.out.but hT3 hB3)
  clear hT3 hB3
  go_wp2_with fail
  (with_reducible refine (Wire.ttwo_calls (w.heap.size + 1) 8 256 (g1 s) _ HG.out.t).mono ?_)
  rintro e w4 ⟨rfl, hT4, hB4⟩
  replace HG := Lib.hid (HG.out.but hT4 hB4)
  clear hT4 hB4
  have c0 := HG.out.z.c0
  have c1 := HG.out.z.c1
  have kf := HG.out.z.free
  obtain ⟨X, hX, hXb, hXo⟩ := store2 HG.out.z (guessS s)
  have HX : Hid ((w4.setCell ⟨w.heap.size, 0, none⟩ (.int .i64 (numV 2 16 512 (g0 s) : Nat))).setCell ⟨w.heap.size, 1, none⟩ (.int .i64 (numV 2 8 256 (g1 s) : Nat)) = X) := Lib.hid hX
  have HB := Lib.hid (Only.after HG.out.below hXo (Nat.le_refl _))
  clear hX hXo HG
  go_wp2_with fail
  rw [HX.out]
  clear c0 c1 kf HX
  have k0 := hXb.c0
  have k1 := hXb.c1
  exact bodyPost_ret (v := shV (guessS s)) (by simp [results, Try.results19, go_sem, shV, k0, k1]) rfl ⟨rfl, HB.out⟩

theorem eq_spell (a b : List UInt8) : ((strB a).toList == (strB b).toList) = (a == b) := by rw [strB_toList, strB_toList]

/-- The two boxes of Parse. -/
structure PS (w W : World) (x : Sh) (g : Nat) : Prop where
  z : SBox W w.heap.size zeroS
  x : SBox W g x
  ne : w.heap.size ≠ g
  below : Below w.heap.size w W
theorem PS.more {w W W' : World} {x : Sh} {g : Nat} (h : PS w W x g) (hb : Below W.heap.size W W') : PS w W' x g := ⟨h.z.below hb, h.x.below hb, h.ne, below_trans' h.below hb⟩
theorem PS.new {w w1 : World} (x : Sh) (hB : Below (w.alloc (.cells #[.int .i64 0, .int .i64 0] 23)).heap.size (w.alloc (.cells #[.int .i64 0, .int .i64 0] 23)) w1) :
    PS w (w1.alloc (.cells #[.int .i64 x.pages, .int .i64 x.journal] 23)) x w1.heap.size := by
  have hz : w.heap.size + 1 ≤ w1.heap.size := by simpa using hB.size
  exact ⟨((SBox.new w zeroS).below hB).below (below_one _ _), SBox.new w1 x, by omega, below_trans' (below_trans' (below_one _ _) hB) (below_one _ _)⟩

theorem parse_end {s : List UInt8} {b : Bool} {R : Sh} (hR : R = parseS s) (hb : b = isS s) : Ending.returned (.tuple #[shV R, .bool b]) = .returned (.tuple #[shV (parseS s), .bool (isS s)]) := by rw [hR, hb]

set_option maxRecDepth 100000 in
set_option maxHeartbeats 8000000 in
theorem parse_calls (s : List UInt8) (w : World) :
    Calls Try.prog 8 #[.string (strB s)] w fun e w' => e = .returned (.tuple #[shV (parseS s), .bool (isS s)]) ∧ Below w.heap.size w w' := by
  obtain ⟨R, hR⟩ : ∃ R, R = guessS s := ⟨_, rfl⟩
  have HG := guess_calls s
  rw [← hR] at HG
  replace HG := Lib.hid HG
  have HR := Lib.hid hR
  clear hR
  go_enter Try.func8, Try.ntmps8
  go_wp2_with fail
  (with_reducible refine (HG.out _).mono ?_)
  rintro e w1 ⟨rfl, hB1⟩
  have HP := Lib.hid (PS.new R hB1)
  have C1 := Lib.hid (fun W => right_calls R W)
  have C2 := Lib.hid (fun W => print_calls R W)
  unfold shV at C1 C2
  clear hB1 HG
  unfold shV
  go_wp2_with fail
  (with_reducible refine (C1.out _).mono ?_)
  rintro e w2 ⟨rfl, hB2⟩
  replace HP := Lib.hid (PS.more (x := R) HP.out hB2)
  clear hB2 C1
  cases hr : rightS R with
  | false =>
    have e1 : false = isS s := by unfold isS; rw [← HR.out, hr, Bool.false_and]
    have e2 : zeroS = parseS s := by unfold parseS; rw [← e1]; rfl
    have k0 := HP.out.z.c0
    have k1 := HP.out.z.c1
    have kf := HP.out.z.free
    obtain ⟨X, hX, hXb, hXo⟩ := store2 HP.out.z zeroS
    have HXX : Hid ((w2.setCell ⟨w.heap.size, 0, none⟩ (.int .i64 0)).setCell ⟨w.heap.size, 1, none⟩ (.int .i64 0) = X) := Lib.hid hX
    have HXB := Lib.hid hXb
    have HXO := Lib.hid (Only.after HP.out.below hXo (Nat.le_refl _))
    have E1 := Lib.hid e1
    have E2 := Lib.hid e2
    clear hX hXb hXo e1 e2
    go_wp2_with fail
    rw [HXX.out]
    clear k0 k1 kf HXX
    have k0 := HXB.out.c0
    have k1 := HXB.out.c1
    exact bodyPost_ret (v := .tuple #[shV zeroS, .bool false]) (by simp [results, Try.results8, go_sem, shV, k0, k1]) rfl ⟨parse_end E2.out E1.out, HXO.out⟩
  | true =>
    have c0 := HP.out.x.c0
    have c1 := HP.out.x.c1
    go_wp2_with fail
    (with_reducible refine (C2.out _).mono ?_)
    rintro e w3 ⟨rfl, hB3⟩
    replace HP := Lib.hid (HP.out.more hB3)
    have HE := Lib.hid (eq_spell (printL R) s)
    clear hB3 C2 c0 c1
    cases hp : printL R == s with
    | false =>
      have hp' := HE.out.trans hp
      have e1 : false = isS s := by unfold isS; rw [← HR.out, hr, hp]; rfl
      have e2 : zeroS = parseS s := by unfold parseS; rw [← e1]; rfl
      have k0 := HP.out.z.c0
      have k1 := HP.out.z.c1
      have kf := HP.out.z.free
      obtain ⟨X, hX, hXb, hXo⟩ := store2 HP.out.z zeroS
      have HXX : Hid ((w3.setCell ⟨w.heap.size, 0, none⟩ (.int .i64 0)).setCell ⟨w.heap.size, 1, none⟩ (.int .i64 0) = X) := Lib.hid hX
      have HXB := Lib.hid hXb
      have HXO := Lib.hid (Only.after HP.out.below hXo (Nat.le_refl _))
      have E1 := Lib.hid e1
      have E2 := Lib.hid e2
      clear hX hXb hXo e1 e2 hp
      go_wp2_with fail
      rw [HXX.out]
      clear k0 k1 kf HXX
      have k0 := HXB.out.c0
      have k1 := HXB.out.c1
      exact bodyPost_ret (v := .tuple #[shV zeroS, .bool false]) (by simp [results, Try.results8, go_sem, shV, k0, k1]) rfl ⟨parse_end E2.out E1.out, HXO.out⟩
    | true =>
      have hp' := HE.out.trans hp
      have e1 : true = isS s := by unfold isS; rw [← HR.out, hr, hp]; rfl
      have e2 : R = parseS s := by unfold parseS; rw [← e1, if_pos rfl]; exact HR.out
      have c0 := HP.out.x.c0
      have c1 := HP.out.x.c1
      have k0 := HP.out.z.c0
      have k1 := HP.out.z.c1
      have kf := HP.out.z.free
      obtain ⟨X, hX, hXb, hXo⟩ := store2 HP.out.z R
      have HXX := Lib.hid hX
      have HXB := Lib.hid hXb
      have HXO := Lib.hid (Only.after HP.out.below hXo (Nat.le_refl _))
      have E1 := Lib.hid e1
      have E2 := Lib.hid e2
      clear hX hXb hXo e1 e2 hp
      go_wp2_with fail
      rw [HXX.out]
      clear k0 k1 kf HXX c0 c1
      have k0 := HXB.out.c0
      have k1 := HXB.out.c1
      exact bodyPost_ret (v := .tuple #[shV R, .bool true]) (by simp [results, Try.results8, go_sem, shV, k0, k1]) rfl ⟨parse_end E2.out E1.out, HXO.out⟩

end Go.Proofs.Ytibgimlfhpjeeaa
