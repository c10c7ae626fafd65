/- Contracts and plain mathematics that the statement's proof wants: no statement is proved here, nothing is assumed. -/
import Derived.BigRegion
import Derived.Deep.RegionWith
import Derived.Test.YtnbbijpmkhdgpaaGreatMg00
import Derived.Test.YtnbbijpmkhdgpaaGreatMg11
import Derived.Test.YtnbbijpmkhdgpaaGreatMg12
/- EGuess -/
namespace Go.Proofs.YtnbbijpmkhdgpaaGreat.Ent
open Go.RowKit Go.Sort
open Wire (TK TP But twoL fourL numV numS markS)
open Crc (sealB Only)

theorem last_calls (s : List UInt8) (w : World) : Calls Tryz.prog 98 #[.string (strB s), .string ⟨#[74, 69, 78, 68]⟩] w fun e w' => e = .returned (.bool (lastB s)) ∧ w' = w := Nm.prefix_calls s endK w

theorem set1 {w : World} {g i : Nat} {v : Value} {y : En} (h : EBox (w.setCell ⟨g, i, none⟩ v) g y) : ∃ w2, w.setCell ⟨g, i, none⟩ v = w2 ∧ EBox w2 g y ∧ Only g w w2 :=
  ⟨_, rfl, h, (Only.refl g w).setCell _ rfl _⟩
theorem TP.only {ty : TypeId} {w w' : World} {b g : Nat} {t : TK} (h : TP ty w b t) (k : Only g w w') (hb : b ≠ g) : TP ty w' b t := h.keep (k.block b hb)

/-- What lies while an entry is guessed. -/
structure GS (w W : World) (x : En) (t : TK) : Prop where
  z : EBox W w.heap.size zeroE
  x : EBox W (w.heap.size + 1) x
  t : TP 114 W (w.heap.size + 2) t
  below : Below w.heap.size w W
section
variable {w W W' : World} {x y : En} {t u : TK}
theorem GS.but (h : GS w W x t) (ht : TP 114 W' (w.heap.size + 2) u) (hb : But (w.heap.size + 2) W W') : GS w W' x u :=
  ⟨h.z.but hb (by omega), h.x.but hb (by omega), ht, h.below.trans (hb.below (by omega) h.below.size)⟩
theorem GS.only (h : GS w W x t) (hx : EBox W' (w.heap.size + 1) y) (hb : Only (w.heap.size + 1) W W') : GS w W' y t :=
  ⟨h.z.only hb (by omega), hx, TP.only h.t hb (by omega), Only.after h.below hb (by omega)⟩
theorem GS.new (w : World) (b : Bool) (s : List UInt8) : ∃ Y, Y = ((w.alloc (.cells #[.int .i64 0, .int .i64 0, .bool false, .int .i64 0, .string ⟨#[]⟩] 55)).alloc (.cells #[.int .i64 0, .int .i64 0, .bool b, .int .i64 0, .string ⟨#[]⟩] 55)).alloc (.cells #[.string (strB s), .bool false] 114) ∧ GS w Y ⟨0, 0, b, 0, []⟩ ⟨s, false⟩ := by
  refine ⟨_, rfl, ?_, ?_, ?_, below_trans' (below_trans' (below_one _ _) (below_one _ _)) (below_one _ _)⟩
  · exact ((EBox.new w zeroE).below (below_one _ _)).below (below_one _ _)
  · have := EBox.new (w.alloc (.cells #[.int .i64 0, .int .i64 0, .bool false, .int .i64 0, .string ⟨#[]⟩] 55)) ⟨0, 0, b, 0, []⟩
    rw [show (w.alloc (.cells #[.int .i64 0, .int .i64 0, .bool false, .int .i64 0, .string ⟨#[]⟩] 55)).heap.size = w.heap.size + 1 by simp] at this
    exact this.below (below_one _ _)
  · have := TP.new 114 ((w.alloc (.cells #[.int .i64 0, .int .i64 0, .bool false, .int .i64 0, .string ⟨#[]⟩] 55)).alloc (.cells #[.int .i64 0, .int .i64 0, .bool b, .int .i64 0, .string ⟨#[]⟩] 55)) s false
    rw [show ((w.alloc (.cells #[.int .i64 0, .int .i64 0, .bool false, .int .i64 0, .string ⟨#[]⟩] 55)).alloc (.cells #[.int .i64 0, .int .i64 0, .bool b, .int .i64 0, .string ⟨#[]⟩] 55)).heap.size = w.heap.size + 2 by simp] at this
    exact this
end

set_option maxRecDepth 100000 in
set_option maxHeartbeats 8000000 in
theorem guess_calls (s : List UInt8) (w : World) :
    Calls Tryz.prog 111 #[.string (strB s)] w fun e w' => e = .returned (enV (guessE s)) ∧ Below w.heap.size w w' := by
  obtain ⟨Y, hY, hG⟩ := GS.new w (lastB s) s
  have HY := Lib.hid hY
  have HG := Lib.hid hG
  clear hY hG
  go_enter Tryz.func111, Tryz.ntmps111
  go_wp2_with fail
  (with_reducible refine (last_calls s _).mono ?_)
  rintro e w1 ⟨rfl, rfl⟩
  go_wp2_with fail
  (with_reducible refine (kind_calls (lastB s) _).mono ?_)
  rintro e w1 ⟨rfl, rfl⟩
  rw [← HY.out]
  go_wp2_with fail
  (with_reducible refine (Wire.mark_calls (w.heap.size + 2) (kindL (lastB s)) ⟨s, false⟩ _ HG.out.t).mono ?_)
  rintro e w2 ⟨rfl, hT2, hB2⟩
  replace HG : Hid (GS w w2 ⟨0, 0, lastB s, 0, []⟩ (tapeG s)) := Lib.hid (HG.out.but hT2 hB2)
  clear hT2 hB2 HY
  go_wp2_with fail
  (with_reducible refine (Wire.tfour_calls (w.heap.size + 2) 1 2147483647 (tapeG s) _ HG.out.t).mono ?_)
  rintro e w3 ⟨rfl, hT3, hB3⟩
  replace HG : Hid (GS w w3 ⟨0, 0, lastB s, 0, []⟩ (g1 (tapeG s))) := Lib.hid (HG.out.but hT3 hB3)
  obtain ⟨c0, c1, c2, c3, c4⟩ := HG.out.x.at_
  have kf := HG.out.x.free
  obtain ⟨X, hX, hXb, hXo⟩ := set1 (HG.out.x.setSeq (numV 4 1 2147483647 (tapeG s) : Nat))
  have HX := Lib.hid hX
  have HG' := Lib.hid (HG.out.only hXb hXo)
  clear hT3 hB3 hX hXb hXo
  go_wp2_with fail
  rw [HX.out]
  replace HG := HG'
  clear c0 c1 c2 c3 c4 kf HX HG'
  (with_reducible refine (Wire.ttwo_calls (w.heap.size + 2) 0 255 (g1 (tapeG s)) _ HG.out.t).mono ?_)
  rintro e w4 ⟨rfl, hT4, hB4⟩
  replace HG : Hid (GS w w4 ⟨(numV 4 1 2147483647 (tapeG s) : Nat), 0, lastB s, 0, []⟩ (g2 (tapeG s))) := Lib.hid (HG.out.but hT4 hB4)
  obtain ⟨c0, c1, c2, c3, c4⟩ := HG.out.x.at_
  have kf := HG.out.x.free
  obtain ⟨X, hX, hXb, hXo⟩ := set1 (HG.out.x.setIndex (numV 2 0 255 (g1 (tapeG s)) : Nat))
  have HX := Lib.hid hX
  have HG' := Lib.hid (HG.out.only hXb hXo)
  clear hT4 hB4 hX hXb hXo
  go_wp2_with fail
  rw [HX.out]
  replace HG := HG'
  clear c0 c1 c2 c3 c4 kf HX HG'
  (with_reducible refine (Wire.ttwo_calls (w.heap.size + 2) 0 511 (g2 (tapeG s)) _ HG.out.t).mono ?_)
  rintro e w5 ⟨rfl, hT5, hB5⟩
  replace HG : Hid (GS w w5 ⟨(numV 4 1 2147483647 (tapeG s) : Nat), (numV 2 0 255 (g1 (tapeG s)) : Nat), lastB s, 0, []⟩ (g3 (tapeG s))) := Lib.hid (HG.out.but hT5 hB5)
  obtain ⟨c0, c1, c2, c3, c4⟩ := HG.out.x.at_
  have kf := HG.out.x.free
  obtain ⟨X, hX, hXb, hXo⟩ := set1 (HG.out.x.setNo (numV 2 0 511 (g2 (tapeG s)) : Nat))
  have HX := Lib.hid hX
  have HG' := Lib.hid (HG.out.only hXb hXo)
  clear hT5 hB5 hX hXb hXo
  go_wp2_with fail
  rw [HX.out]
  replace HG : Hid (GS w X ⟨(numV 4 1 2147483647 (tapeG s) : Nat), (numV 2 0 255 (g1 (tapeG s)) : Nat), lastB s, (numV 2 0 511 (g2 (tapeG s)) : Nat), []⟩ (g3 (tapeG s))) := HG'
  clear c0 c1 c2 c3 c4 kf HX HG'
  obtain ⟨c0, c1, c2, c3, c4⟩ := HG.out.x.at_
  have kf := HG.out.x.free
  have t0 := HG.out.t.rest
  obtain ⟨X2, hX2, hb2, ho2⟩ := set1 (HG.out.x.setData ((g3 (tapeG s)).rest.take (dataN (lastB s))))
  have HX2 := Lib.hid hX2
  obtain ⟨R, hR⟩ : ∃ R, R = guessE s := ⟨_, rfl⟩
  have HG2 : Hid (GS w X2 R (g3 (tapeG s))) := Lib.hid (by rw [hR]; exact HG.out.only hb2 ho2)
  have HR := Lib.hid hR
  obtain ⟨X3, hX3, hb3, ho3⟩ := store5 HG2.out.z R
  have HX3 := Lib.hid hX3
  have HZ3 := Lib.hid hb3
  have HB3 : Hid (Below w.heap.size w X3) := Lib.hid (Only.after HG2.out.below ho3 (Nat.le_refl _))
  clear hX2 hb2 ho2 hX3 hb3 ho3 hR
  go_region_with (first | (go_at_call 126; (with_reducible refine (dataBytes_calls _ _).mono ?_); rintro e w' ⟨rfl, rfl⟩) | (go_at_call 84; (with_reducible refine (first_calls _ _ _ (Nat.le_trans (dataN_le _) (by omega))).mono ?_); rintro e w' ⟨rfl, rfl⟩))
  all_goals
    rw [HX2.out]
    clear c0 c1 c2 c3 c4 kf t0
    obtain ⟨c0, c1, c2, c3, c4⟩ := HG2.out.x.at_
    obtain ⟨z0, z1, z2, z3, z4⟩ := HG2.out.z.at_
    have kf := HG2.out.z.free
    go_wp2_with fail
    rw [HX3.out]
    clear c0 c1 c2 c3 c4 z0 z1 z2 z3 z4 kf
    obtain ⟨k0, k1, k2, k3, k4⟩ := HZ3.out.at_
    exact bodyPost_ret (v := enV R) (by simp [results, Tryz.results111, go_sem, enV, k0, k1, k2, k3, k4]) rfl ⟨congrArg (fun r => Ending.returned (enV r)) HR.out, bdrew HB3.out⟩

end Go.Proofs.YtnbbijpmkhdgpaaGreat.Ent

/- EParse -/
namespace Go.Proofs.YtnbbijpmkhdgpaaGreat.Ent
open Go.RowKit Go.Sort
open Wire (TK TP But twoL fourL numV numS markS)
open Crc (sealB Only)

theorem guess_data (s : List UInt8) : (guessE s).data.length ≤ 208 := by
  show ((g3 (tapeG s)).rest.take (dataN (lastB s))).length ≤ 208
  rw [List.length_take]
  have := dataN_le (lastB s)
  omega
theorem eq_spell (a b : List UInt8) : ((strB a).toList == (strB b).toList) = (a == b) := by rw [strB_toList, strB_toList]

/-- The two boxes of Parse. -/
structure PS (w W : World) (x : En) (g : Nat) : Prop where
  z : EBox W w.heap.size zeroE
  x : EBox W g x
  ne : w.heap.size ≠ g
  below : Below w.heap.size w W
theorem PS.more {w W W' : World} {x : En} {g : Nat} (h : PS w W x g) (hb : Below W.heap.size W W') : PS w W' x g := ⟨h.z.below hb, h.x.below hb, h.ne, below_trans' h.below hb⟩
theorem PS.new {w w1 : World} (x : En) (hB : Below (w.alloc (.cells #[.int .i64 0, .int .i64 0, .bool false, .int .i64 0, .string ⟨#[]⟩] 55)).heap.size (w.alloc (.cells #[.int .i64 0, .int .i64 0, .bool false, .int .i64 0, .string ⟨#[]⟩] 55)) w1) :
    PS w (w1.alloc (.cells (enC x) 55)) x w1.heap.size := by
  have hz : w.heap.size + 1 ≤ w1.heap.size := by simpa using hB.size
  exact ⟨((EBox.new w zeroE).below hB).below (below_one _ _), EBox.new w1 x, by omega, below_trans' (below_trans' (below_one _ _) hB) (below_one _ _)⟩

theorem parse_end {s : List UInt8} {b : Bool} {R : En} (hR : R = parseE s) (hb : b = isE s) : Ending.returned (.tuple #[enV R, .bool b]) = .returned (.tuple #[enV (parseE s), .bool (isE s)]) := by rw [hR, hb]

set_option maxRecDepth 100000 in
set_option maxHeartbeats 8000000 in
theorem parse_calls (s : List UInt8) (w : World) :
    Calls Tryz.prog 88 #[.string (strB s)] w fun e w' => e = .returned (.tuple #[enV (parseE s), .bool (isE s)]) ∧ Below w.heap.size w w' := by
  obtain ⟨R, hR⟩ : ∃ R, R = guessE s := ⟨_, rfl⟩
  have HD : Hid (R.data.length ≤ 208) := Lib.hid (by rw [hR]; exact guess_data s)
  have HG := guess_calls s
  rw [← hR] at HG
  replace HG := Lib.hid HG
  have HR := Lib.hid hR
  clear hR
  go_enter Tryz.func88, Tryz.ntmps88
  go_wp2_with fail
  (with_reducible refine (HG.out _).mono ?_)
  rintro e w1 ⟨rfl, hB1⟩
  have HP := Lib.hid (PS.new R hB1)
  have C1 := Lib.hid (fun W => right_calls R W)
  have C2 := Lib.hid (fun W => print_calls R W (by have := HD.out; omega))
  unfold enC at HP
  unfold enV at C1 C2
  clear hB1 HG
  unfold enV
  go_wp2_with fail
  (with_reducible refine (C1.out _).mono ?_)
  rintro e w2 ⟨rfl, hB2⟩
  replace HP := Lib.hid (PS.more (x := R) HP.out hB2)
  clear hB2 C1
  cases hr : rightE R with
  | false =>
    have e1 : false = isE s := by unfold isE; rw [← HR.out, hr, Bool.false_and]
    have e2 : zeroE = parseE s := by unfold parseE; rw [← e1]; rfl
    obtain ⟨k0, k1, k2, k3, k4⟩ := HP.out.z.at_
    have kf := HP.out.z.free
    obtain ⟨X, hX, hXb, hXo⟩ := store5 HP.out.z zeroE
    have HXX := Lib.hid hX
    have HXB := Lib.hid hXb
    have HXO := Lib.hid (Only.after HP.out.below hXo (Nat.le_refl _))
    have E1 := Lib.hid e1
    have E2 := Lib.hid e2
    clear hX hXb hXo e1 e2
    unfold zeroE at HXX
    go_wp2_with fail
    first | rw [HXX.out] | (have hx := HXX.out; simp only [strB] at hx; rw [hx])
    clear k0 k1 k2 k3 k4 kf HXX
    obtain ⟨k0, k1, k2, k3, k4⟩ := HXB.out.at_
    exact bodyPost_ret (v := .tuple #[enV zeroE, .bool false]) (by simp [results, Tryz.results88, go_sem, enV, k0, k1, k2, k3, k4]) rfl ⟨parse_end E2.out E1.out, HXO.out⟩
  | true =>
    obtain ⟨c0, c1, c2, c3, c4⟩ := HP.out.x.at_
    go_wp2_with fail
    (with_reducible refine (C2.out _).mono ?_)
    rintro e w3 ⟨rfl, hB3⟩
    replace HP := Lib.hid (HP.out.more hB3)
    have HE := Lib.hid (eq_spell (printL R) s)
    clear hB3 C2 c0 c1 c2 c3 c4
    cases hp : printL R == s with
    | false =>
      have hp' := HE.out.trans hp
      have e1 : false = isE s := by unfold isE; rw [← HR.out, hr, hp]; rfl
      have e2 : zeroE = parseE s := by unfold parseE; rw [← e1]; rfl
      obtain ⟨k0, k1, k2, k3, k4⟩ := HP.out.z.at_
      have kf := HP.out.z.free
      obtain ⟨X, hX, hXb, hXo⟩ := store5 HP.out.z zeroE
      have HXX := Lib.hid hX
      have HXB := Lib.hid hXb
      have HXO := Lib.hid (Only.after HP.out.below hXo (Nat.le_refl _))
      have E1 := Lib.hid e1
      have E2 := Lib.hid e2
      clear hX hXb hXo e1 e2 hp
      unfold zeroE at HXX
      go_wp2_with fail
      first | rw [HXX.out] | (have hx := HXX.out; simp only [strB] at hx; rw [hx])
      clear k0 k1 k2 k3 k4 kf HXX
      obtain ⟨k0, k1, k2, k3, k4⟩ := HXB.out.at_
      exact bodyPost_ret (v := .tuple #[enV zeroE, .bool false]) (by simp [results, Tryz.results88, go_sem, enV, k0, k1, k2, k3, k4]) rfl ⟨parse_end E2.out E1.out, HXO.out⟩
    | true =>
      have hp' := HE.out.trans hp
      have e1 : true = isE s := by unfold isE; rw [← HR.out, hr, hp]; rfl
      have e2 : R = parseE s := by unfold parseE; rw [← e1, if_pos rfl]; exact HR.out
      obtain ⟨c0, c1, c2, c3, c4⟩ := HP.out.x.at_
      obtain ⟨k0, k1, k2, k3, k4⟩ := HP.out.z.at_
      have kf := HP.out.z.free
      obtain ⟨X, hX, hXb, hXo⟩ := store5 HP.out.z R
      have HXX := Lib.hid hX
      have HXB := Lib.hid hXb
      have HXO := Lib.hid (Only.after HP.out.below hXo (Nat.le_refl _))
      have E1 := Lib.hid e1
      have E2 := Lib.hid e2
      clear hX hXb hXo e1 e2 hp
      go_wp2_with fail
      rw [HXX.out]
      clear k0 k1 k2 k3 k4 kf HXX c0 c1 c2 c3 c4
      obtain ⟨k0, k1, k2, k3, k4⟩ := HXB.out.at_
      exact bodyPost_ret (v := .tuple #[enV R, .bool true]) (by simp [results, Tryz.results88, go_sem, enV, k0, k1, k2, k3, k4]) rfl ⟨parse_end E2.out E1.out, HXO.out⟩

end Go.Proofs.YtnbbijpmkhdgpaaGreat.Ent

/- AParse -/
namespace Go.Proofs.YtnbbijpmkhdgpaaGreat
open Go.RowKit Go.Sort
open Wire (TK TP But twoL numS numV markS)
open Crc (sealB Only)

/-- What lies while a shape is guessed. -/
structure GS (ty : TypeId) (w W : World) (t : TK) : Prop where
  z : SBox W w.heap.size zeroS
  t : TP ty W (w.heap.size + 1) t
  below : Below w.heap.size w W
section
variable {ty : TypeId} {w W W' : World} {t u : TK}
theorem GS.but (h : GS ty w W t) (ht : TP ty W' (w.heap.size + 1) u) (hb : But (w.heap.size + 1) W W') : GS ty w W' u :=
  ⟨h.z.but hb (by omega), ht, h.below.trans (hb.below (by omega) h.below.size)⟩
theorem GS.new (ty : TypeId) (w : World) (s : List UInt8) : ∃ Y, Y = (w.alloc (.cells #[.int .i64 0, .int .i64 0] 30)).alloc (.cells #[.string (strB s), .bool false] ty) ∧ GS ty w Y ⟨s, false⟩ := by
  refine ⟨_, rfl, ?_, ?_, below_trans' (below_one _ _) (below_one _ _)⟩
  · exact (SBox.new w zeroS).below (below_one _ _)
  · have := TP.new ty (w.alloc (.cells #[.int .i64 0, .int .i64 0] 30)) s false
    rw [show (w.alloc (.cells #[.int .i64 0, .int .i64 0] 30)).heap.size = w.heap.size + 1 by simp] at this
    exact this
end

set_option maxRecDepth 100000 in
set_option maxHeartbeats 8000000 in
theorem guess_calls (s : List UInt8) (w : World) :
    Calls Tryz.prog 110 #[.string (strB s)] w fun e w' => e = .returned (shV (guessS s)) ∧ Below w.heap.size w w' := by
  obtain ⟨Y, hY, hG⟩ := GS.new 114 w s
  have HY := Lib.hid hY
  have HG := Lib.hid hG
  have CM := Lib.hid (fun W => Wire.mark_calls (w.heap.size + 1) archK ⟨s, false⟩ W)
  rw [show strB archK = ⟨#[65, 82, 67, 72, 73, 86, 69, 49]⟩ from rfl] at CM
  clear hY hG
  go_enter Tryz.func110, Tryz.ntmps110
  go_wp2_with fail
  rw [← HY.out]
  (with_reducible refine (CM.out _ HG.out.t).mono ?_)
  rintro e w2 ⟨rfl, hT2, hB2⟩
  replace HG : Hid (GS 114 w w2 (g0 s)) := Lib.hid (HG.out.but hT2 hB2)
  clear hT2 hB2 HY CM
  go_wp2_with fail
  (with_reducible refine (Wire.ttwo_calls (w.heap.size + 1) 16 512 (g0 s) _ HG.out.t).mono ?_)
  rintro e w3 ⟨rfl, hT3, hB3⟩
  replace HG : Hid (GS 114 w w3 (g1 s)) := Lib.hid (HG.out.but hT3 hB3)
  clear hT3 hB3
  go_wp2_with fail
  (with_reducible refine (Wire.ttwo_calls (w.heap.size + 1) 8 256 (g1 s) _ HG.out.t).mono ?_)
  rintro e w4 ⟨rfl, hT4, hB4⟩
  replace HG := Lib.hid (HG.out.but hT4 hB4)
  clear hT4 hB4
  have c0 := HG.out.z.c0
  have c1 := HG.out.z.c1
  have kf := HG.out.z.free
  obtain ⟨X, hX, hXb, hXo⟩ := store2 HG.out.z (guessS s)
  have HX : Hid ((w4.setCell ⟨w.heap.size, 0, none⟩ (.int .i64 (numV 2 16 512 (g0 s) : Nat))).setCell ⟨w.heap.size, 1, none⟩ (.int .i64 (numV 2 8 256 (g1 s) : Nat)) = X) := Lib.hid hX
  have HB := Lib.hid (Only.after HG.out.below hXo (Nat.le_refl _))
  clear hX hXo HG
  go_wp2_with fail
  rw [HX.out]
  clear c0 c1 kf HX
  have k0 := hXb.c0
  have k1 := hXb.c1
  exact bodyPost_ret (v := shV (guessS s)) (by simp [results, Tryz.results110, go_sem, shV, k0, k1]) rfl ⟨rfl, HB.out⟩

theorem eq_spell (a b : List UInt8) : ((strB a).toList == (strB b).toList) = (a == b) := by rw [strB_toList, strB_toList]

/-- The two boxes of Parse. -/
structure PS (w W : World) (x : Sh) (g : Nat) : Prop where
  z : SBox W w.heap.size zeroS
  x : SBox W g x
  ne : w.heap.size ≠ g
  below : Below w.heap.size w W
theorem PS.more {w W W' : World} {x : Sh} {g : Nat} (h : PS w W x g) (hb : Below W.heap.size W W') : PS w W' x g := ⟨h.z.below hb, h.x.below hb, h.ne, below_trans' h.below hb⟩
theorem PS.new {w w1 : World} (x : Sh) (hB : Below (w.alloc (.cells #[.int .i64 0, .int .i64 0] 30)).heap.size (w.alloc (.cells #[.int .i64 0, .int .i64 0] 30)) w1) :
    PS w (w1.alloc (.cells #[.int .i64 x.pages, .int .i64 x.journal] 30)) x w1.heap.size := by
  have hz : w.heap.size + 1 ≤ w1.heap.size := by simpa using hB.size
  exact ⟨((SBox.new w zeroS).below hB).below (below_one _ _), SBox.new w1 x, by omega, below_trans' (below_trans' (below_one _ _) hB) (below_one _ _)⟩

theorem parse_end {s : List UInt8} {b : Bool} {R : Sh} (hR : R = parseS s) (hb : b = isS s) : Ending.returned (.tuple #[shV R, .bool b]) = .returned (.tuple #[shV (parseS s), .bool (isS s)]) := by rw [hR, hb]

set_option maxRecDepth 100000 in
set_option maxHeartbeats 8000000 in
theorem parse_calls (s : List UInt8) (w : World) :
    Calls Tryz.prog 87 #[.string (strB s)] w fun e w' => e = .returned (.tuple #[shV (parseS s), .bool (isS s)]) ∧ Below w.heap.size w w' := by
  obtain ⟨R, hR⟩ : ∃ R, R = guessS s := ⟨_, rfl⟩
  have HG := guess_calls s
  rw [← hR] at HG
  replace HG := Lib.hid HG
  have HR := Lib.hid hR
  clear hR
  go_enter Tryz.func87, Tryz.ntmps87
  go_wp2_with fail
  (with_reducible refine (HG.out _).mono ?_)
  rintro e w1 ⟨rfl, hB1⟩
  have HP := Lib.hid (PS.new R hB1)
  have C1 := Lib.hid (fun W => right_calls R W)
  have C2 := Lib.hid (fun W => print_calls R W)
  unfold shV at C1 C2
  clear hB1 HG
  unfold shV
  go_wp2_with fail
  (with_reducible refine (C1.out _).mono ?_)
  rintro e w2 ⟨rfl, hB2⟩
  replace HP := Lib.hid (PS.more (x := R) HP.out hB2)
  clear hB2 C1
  cases hr : rightS R with
  | false =>
    have e1 : false = isS s := by unfold isS; rw [← HR.out, hr, Bool.false_and]
    have e2 : zeroS = parseS s := by unfold parseS; rw [← e1]; rfl
    have k0 := HP.out.z.c0
    have k1 := HP.out.z.c1
    have kf := HP.out.z.free
    obtain ⟨X, hX, hXb, hXo⟩ := store2 HP.out.z zeroS
    have HXX : Hid ((w2.setCell ⟨w.heap.size, 0, none⟩ (.int .i64 0)).setCell ⟨w.heap.size, 1, none⟩ (.int .i64 0) = X) := Lib.hid hX
    have HXB := Lib.hid hXb
    have HXO := Lib.hid (Only.after HP.out.below hXo (Nat.le_refl _))
    have E1 := Lib.hid e1
    have E2 := Lib.hid e2
    clear hX hXb hXo e1 e2
    go_wp2_with fail
    rw [HXX.out]
    clear k0 k1 kf HXX
    have k0 := HXB.out.c0
    have k1 := HXB.out.c1
    exact bodyPost_ret (v := .tuple #[shV zeroS, .bool false]) (by simp [results, Tryz.results87, go_sem, shV, k0, k1]) rfl ⟨parse_end E2.out E1.out, HXO.out⟩
  | true =>
    have c0 := HP.out.x.c0
    have c1 := HP.out.x.c1
    go_wp2_with fail
    (with_reducible refine (C2.out _).mono ?_)
    rintro e w3 ⟨rfl, hB3⟩
    replace HP := Lib.hid (HP.out.more hB3)
    have HE := Lib.hid (eq_spell (printL R) s)
    clear hB3 C2 c0 c1
    cases hp : printL R == s with
    | false =>
      have hp' := HE.out.trans hp
      have e1 : false = isS s := by unfold isS; rw [← HR.out, hr, hp]; rfl
      have e2 : zeroS = parseS s := by unfold parseS; rw [← e1]; rfl
      have k0 := HP.out.z.c0
      have k1 := HP.out.z.c1
      have kf := HP.out.z.free
      obtain ⟨X, hX, hXb, hXo⟩ := store2 HP.out.z zeroS
      have HXX : Hid ((w3.setCell ⟨w.heap.size, 0, none⟩ (.int .i64 0)).setCell ⟨w.heap.size, 1, none⟩ (.int .i64 0) = X) := Lib.hid hX
      have HXB := Lib.hid hXb
      have HXO := Lib.hid (Only.after HP.out.below hXo (Nat.le_refl _))
      have E1 := Lib.hid e1
      have E2 := Lib.hid e2
      clear hX hXb hXo e1 e2 hp
      go_wp2_with fail
      rw [HXX.out]
      clear k0 k1 kf HXX
      have k0 := HXB.out.c0
      have k1 := HXB.out.c1
      exact bodyPost_ret (v := .tuple #[shV zeroS, .bool false]) (by simp [results, Tryz.results87, go_sem, shV, k0, k1]) rfl ⟨parse_end E2.out E1.out, HXO.out⟩
    | true =>
      have hp' := HE.out.trans hp
      have e1 : true = isS s := by unfold isS; rw [← HR.out, hr, hp]; rfl
      have e2 : R = parseS s := by unfold parseS; rw [← e1, if_pos rfl]; exact HR.out
      have c0 := HP.out.x.c0
      have c1 := HP.out.x.c1
      have k0 := HP.out.z.c0
      have k1 := HP.out.z.c1
      have kf := HP.out.z.free
      obtain ⟨X, hX, hXb, hXo⟩ := store2 HP.out.z R
      have HXX := Lib.hid hX
      have HXB := Lib.hid hXb
      have HXO := Lib.hid (Only.after HP.out.below hXo (Nat.le_refl _))
      have E1 := Lib.hid e1
      have E2 := Lib.hid e2
      clear hX hXb hXo e1 e2 hp
      go_wp2_with fail
      rw [HXX.out]
      clear k0 k1 kf HXX c0 c1
      have k0 := HXB.out.c0
      have k1 := HXB.out.c1
      exact bodyPost_ret (v := .tuple #[shV R, .bool true]) (by simp [results, Tryz.results87, go_sem, shV, k0, k1]) rfl ⟨parse_end E2.out E1.out, HXO.out⟩

end Go.Proofs.YtnbbijpmkhdgpaaGreat

/- VJour -/
namespace Go.Proofs.YtnbbijpmkhdgpaaGreat.Vlt
open Go.RowKit
open Ent (isE parseE En)

/-- What is known of a journal behind k sectors: the pages so far, the first entry's number, the greatest one, whether a transaction is whole, whether one may still be. -/
structure Jst (n : Int) (S : Nat → List UInt8) (k : Nat) (l : List Lf) (seq most : Int) (whole op : Bool) : Prop where
  imost : most = mostF S k
  iseq : 0 < k → seq = (parseE (S 0)).seq
  iop : op = true → whole = false ∧ l.length = k ∧ ∀ j, j < k → PageAt n (parseE (S 0)).seq j (S j) (l.getD j ⟨0, []⟩)
  iyes : whole = true → op = false ∧ ∀ J, k ≤ J → Whole n J S l
  ino : op = false → whole = false → ∀ J m, ¬ Whole n J S m
  ipos : op = false → 0 < k

theorem Jst.start (n : Int) (S : Nat → List UInt8) : Jst n S 0 [] 0 0 false true :=
  ⟨rfl, fun h => absurd h (by omega), fun _ => ⟨rfl, rfl, fun j h => absurd h (by omega)⟩, fun h => (by cases h), fun h => (by cases h), fun h => (by cases h)⟩

section
variable {n : Int} {S : Nat → List UInt8} {k : Nat} {l : List Lf} {seq most : Int} {whole op : Bool}

theorem most_next (S : Nat → List UInt8) (k : Nat) : mostF S (k + 1) = if isE (S k) = true then max (mostF S k) (parseE (S k)).seq else mostF S k := rfl

/-- No transaction may be any more: nothing turns but the greatest number. -/
theorem Jst.skip (h : Jst n S k l seq most whole false) (hk : 0 < k) : Jst n S (k + 1) l seq (if isE (S k) = true then max most (parseE (S k)).seq else most) whole false :=
  ⟨by rw [most_next, h.imost], fun _ => h.iseq hk, fun g => (by cases g), fun g => ⟨rfl, fun J hJ => (h.iyes g).2 J (by omega)⟩, h.ino, fun _ => Nat.succ_pos _⟩

/-- The next sector has a page of it. -/
theorem Jst.page (h : Jst n S k l seq most false true) {q : Int} (hq : q = if k = 0 then (parseE (S 0)).seq else seq) (hp : PageAt n q k (S k) ⟨(parseE (S k)).no, (parseE (S k)).data⟩) :
    Jst n S (k + 1) (l ++ [⟨(parseE (S k)).no, (parseE (S k)).data⟩]) q (if isE (S k) = true then max most (parseE (S k)).seq else most) false true := by
  obtain ⟨_, h2, h3⟩ := h.iop rfl
  have hq0 : q = (parseE (S 0)).seq := by
    rw [hq]
    split
    · rfl
    · exact h.iseq (by omega)
  refine ⟨by rw [most_next, h.imost], fun _ => hq0, fun _ => ⟨rfl, by simp [h2], fun j hj => ?_⟩, fun g => (by cases g), fun g => (by cases g), fun g => (by cases g)⟩
  rw [← hq0]
  by_cases e : j < k
  · have := h3 j e
    rw [← hq0] at this
    rw [List.getD_eq_getElem?_getD, List.getElem?_append_left (by omega), ← List.getD_eq_getElem?_getD]
    exact this
  · have : j = k := by omega
    subst this
    rw [List.getD_eq_getElem?_getD, List.getElem?_append_right (by omega), h2]
    simpa using hp

/-- It has its last entry. -/
theorem Jst.last (h : Jst n S k l seq most false true) {q : Int} (hq : q = if k = 0 then (parseE (S 0)).seq else seq) (hp : LastAt q k (S k)) :
    Jst n S (k + 1) l q (if isE (S k) = true then max most (parseE (S k)).seq else most) true false := by
  obtain ⟨_, h2, h3⟩ := h.iop rfl
  have hq0 : q = (parseE (S 0)).seq := by
    rw [hq]
    split
    · rfl
    · exact h.iseq (by omega)
  refine ⟨by rw [most_next, h.imost], fun _ => hq0, fun g => (by cases g), fun _ => ⟨rfl, fun J hJ => ⟨q, by omega, fun j hj => ?_, by rw [h2]; exact hp⟩⟩, fun _ g => (by cases g), fun _ => Nat.succ_pos _⟩
  rw [hq0]
  exact h3 j (by omega)

/-- It has neither. -/
theorem Jst.none_ (h : Jst n S k l seq most false true) {q : Int} (hq : q = if k = 0 then (parseE (S 0)).seq else seq)
    (hp : ¬ PageAt n q k (S k) ⟨(parseE (S k)).no, (parseE (S k)).data⟩) (hl : ¬ LastAt q k (S k)) :
    Jst n S (k + 1) l q (if isE (S k) = true then max most (parseE (S k)).seq else most) false false := by
  obtain ⟨_, h2, h3⟩ := h.iop rfl
  have hq0 : q = (parseE (S 0)).seq := by
    rw [hq]
    split
    · rfl
    · exact h.iseq (by omega)
  refine ⟨by rw [most_next, h.imost], fun _ => hq0, fun g => (by cases g), fun g => (by cases g), fun _ _ J m hw => ?_, fun _ => Nat.succ_pos _⟩
  obtain ⟨a1, a2, a3⟩ := hw.seq0
  rw [← hq0] at a2 a3
  rcases Nat.lt_trichotomy m.length k with g | g | g
  · have x := (h3 _ g).2.2.2.1
    rw [a3.2.2.2.1] at x
    cases x
  · rw [g] at a3
    exact hl a3
  · have x := a2 k g
    have y := x.2.2.2.2.2
    rw [y] at x
    exact hp x

/-- One sector more, while a transaction may still be. -/
theorem Jst.step (h : Jst n S k l seq most whole true) {y : En} (hy : parseE (S k) = y) {ok : Bool} (hok : isE (S k) = ok) {q : Int} (hq : q = if k = 0 then y.seq else seq) :
    (ok = true ∧ y.seq = q ∧ y.index = k ∧ y.last = false ∧ y.no < n → Jst n S (k + 1) (l ++ [⟨y.no, y.data⟩]) q (if ok = true then max most y.seq else most) false true) ∧
    (ok = true ∧ y.seq = q ∧ y.index = k ∧ y.last = true ∧ y.no = l.length → Jst n S (k + 1) l q (if ok = true then max most y.seq else most) true false) ∧
    (¬ (ok = true ∧ y.seq = q ∧ y.index = k ∧ y.last = false ∧ y.no < n) → ¬ (ok = true ∧ y.seq = q ∧ y.index = k ∧ y.last = true ∧ y.no = l.length) → Jst n S (k + 1) l q (if ok = true then max most y.seq else most) false false) := by
  obtain ⟨rfl, h2, _⟩ := h.iop rfl
  have hq' : q = if k = 0 then (parseE (S 0)).seq else seq := by
    rw [hq]
    by_cases e : k = 0
    · subst e
      rw [if_pos rfl, if_pos rfl, hy]
    · rw [if_neg e, if_neg e]
  subst hy hok
  refine ⟨fun ⟨a, b, c, d, e⟩ => h.page hq' ⟨a, b, c, d, e, rfl⟩, fun ⟨a, b, c, d, e⟩ => h.last hq' ⟨a, b, c, d, by rw [e, h2]⟩, fun a b => h.none_ hq' (fun ⟨c, d, e, f, g, _⟩ => a ⟨c, d, e, f, g⟩) (fun ⟨c, d, e, f, g⟩ => b ⟨c, d, e, f, by rw [g, h2]⟩)⟩

/-- What is known in the end. -/
theorem Jst.done (h : Jst n S k l seq most whole op) : most = mostF S k ∧ (if whole = true then l else []) = jl n k S := by
  refine ⟨h.imost, ?_⟩
  cases hw : whole with
  | true =>
    rw [if_pos rfl]
    exact (jl_is ((h.iyes hw).2 k (Nat.le_refl _))).symm
  | false =>
    rw [if_neg (by simp)]
    symm
    refine jl_none fun m hm => ?_
    cases ho : op with
    | false => exact h.ino ho hw k m hm
    | true =>
      obtain ⟨_, h2, h3⟩ := h.iop ho
      obtain ⟨a1, a2, a3⟩ := hm.seq0
      have x := (h3 _ a1).2.2.2.1
      rw [a3.2.2.2.1] at x
      cases x
end

end Go.Proofs.YtnbbijpmkhdgpaaGreat.Vlt

/- EHome -/
namespace Go.Proofs.YtnbbijpmkhdgpaaGreat.Ent
open Go.RowKit Go.Sort
open Wire (TK TP But twoL fourL numV numS markS)
open Crc (sealB Only)

theorem noughts256 (w : World) : Calls Tryz.prog 81 #[.int .i64 256] w fun e w' => e = .returned (.string (strB (zer 256))) ∧ Below w.heap.size w w' := noughts_calls 256 w (by omega)
theorem noughts208 (w : World) : Calls Tryz.prog 81 #[.int .i64 208] w fun e w' => e = .returned (.string (strB (zer 208))) ∧ Below w.heap.size w w' := noughts_calls 208 w (by omega)
theorem first208 (l : List UInt8) (w : World) : Calls Tryz.prog 84 #[.string (strB l), .int .i64 208] w fun e w' => e = .returned (.string (strB (l.take 208))) ∧ w' = w := first_calls l 208 w (by omega)
theorem mark_leaf (b : Nat) (t : TK) (w : World) (ht : TP 114 w b t) :
    Calls Tryz.prog 82 #[.pointer (some ⟨b, 0, none⟩), .string ⟨#[76, 69, 65, 70]⟩] w fun e w' => e = .returned (.tuple #[]) ∧ TP 114 w' b (markS leafK t) ∧ But b w w' := Wire.mark_calls b leafK t w ht
theorem eqs_spell (a b : List UInt8) : ((strB a).toList == (strB b).toList) = (a == b) := by rw [strB_toList, strB_toList]
theorem home_end {s : List UInt8} {no : Int} {b : Bool} {d : List UInt8} (hd : d = homeV s no) (hb : b = homeB s no) : Ending.returned (.tuple #[.string (strB d), .bool b]) = .returned (.tuple #[.string (strB (homeV s no)), .bool (homeB s no)]) := by rw [hd, hb]

set_option maxRecDepth 100000 in
set_option maxHeartbeats 8000000 in
theorem home_calls (s : List UInt8) (no : Int) (w : World) :
    Calls Tryz.prog 46 #[.string (strB s), .int .i64 no] w fun e w' => e = .returned (.tuple #[.string (strB (homeV s no)), .bool (homeB s no)]) ∧ Below w.heap.size w w' := by
  have HE := Lib.hid (eqs_spell s (zer 256))
  go_enter Tryz.func46, Tryz.ntmps46
  go_wp2_with fail
  (with_reducible refine (noughts256 _).mono ?_)
  rintro e w1 ⟨rfl, hB1⟩
  cases hz : s == zer 256 with
  | true =>
    have hz' := HE.out.trans hz
    have e1 : true = homeB s no := by unfold homeB; rw [hz]; rfl
    have e2 : zer 208 = homeV s no := by unfold homeV; rw [hz]; rfl
    have E := Lib.hid (home_end e2 e1)
    clear e1 e2 hz
    go_wp2_with fail
    (with_reducible refine (noughts208 _).mono ?_)
    rintro e w2 ⟨rfl, hB2⟩
    go_wp2_with fail
    go_ret2
    exact ⟨E.out, below_trans' hB1 hB2⟩
  | false =>
    have hz' := HE.out.trans hz
    have HZ := Lib.hid hz
    have HT : Hid (TP 114 (w1.alloc (.cells #[.string (strB s), .bool false] 114)) w1.heap.size ⟨s, false⟩) := Lib.hid (TP.new 114 w1 s false)
    have HB : Hid (Below w.heap.size w (w1.alloc (.cells #[.string (strB s), .bool false] 114))) := Lib.hid (below_trans' hB1 (below_one _ _))
    have hw1 : w.heap.size ≤ w1.heap.size := hB1.size
    have HW := Lib.hid hw1
    clear hB1 hz hw1
    go_wp2_with fail
    (with_reducible refine (mark_leaf w1.heap.size ⟨s, false⟩ _ HT.out).mono ?_)
    rintro e w2 ⟨rfl, hT2, hB2⟩
    replace HT := Lib.hid hT2
    replace HB := Lib.hid (HB.out.trans (hB2.below HW.out HB.out.size))
    clear hT2 hB2 hz' HE
    go_wp2_with fail
    (with_reducible refine (Wire.ttwo_calls w1.heap.size no no (markS leafK ⟨s, false⟩) _ HT.out).mono ?_)
    rintro e w3 ⟨rfl, hT3, hB3⟩
    replace HT : Hid (TP 114 w3 w1.heap.size (tapeH s no)) := Lib.hid hT3
    replace HB := Lib.hid (HB.out.trans (hB3.below HW.out HB.out.size))
    clear hT3 hB3
    have t0 := HT.out.rest
    have t1 := HT.out.bad
    go_wp2_with fail
    (with_reducible refine (first208 _ _).mono ?_)
    rintro e w4 ⟨rfl, rfl⟩
    obtain ⟨D, hD⟩ : ∃ D, D = dataH s no := ⟨_, rfl⟩
    rw [show (tapeH s no).rest.take 208 = D from hD.symm]
    have HD := Lib.hid hD
    have CL := Lib.hid (fun W => leaf_calls no D W (by rw [hD]; unfold dataH; rw [List.length_take]; omega))
    unfold lfV at CL
    clear hD
    cases hb : (tapeH s no).bad with
    | true =>
      rw [hb] at t1
      have e1 : false = homeB s no := by unfold homeB; rw [HZ.out, hb]; rfl
      have e2 : [] = homeV s no := by unfold homeV; rw [HZ.out, hb]; rfl
      have E := Lib.hid (home_end e2 e1)
      clear e1 e2 hb
      go_wp2_with fail
      go_ret2
      exact ⟨E.out, HB.out⟩
    | false =>
      rw [hb] at t1
      have HBB := Lib.hid hb
      clear hb
      go_wp2_with fail
      (with_reducible refine (CL.out _).mono ?_)
      rintro e w5 ⟨rfl, hB5⟩
      have HE2 := Lib.hid (eqs_spell (leafL no D) s)
      clear CL
      cases hp : leafL no D == s with
      | true =>
        have hp' := HE2.out.trans hp
        have e1 : true = homeB s no := by unfold homeB; rw [HZ.out, HBB.out, ← HD.out, hp]; rfl
        have e2 : D = homeV s no := by unfold homeV; rw [HZ.out, HBB.out, ← HD.out, hp]; rfl
        have E := Lib.hid (home_end e2 e1)
        clear e1 e2 hp
        go_wp2_with fail
        go_ret2
        exact ⟨E.out, below_trans' HB.out hB5⟩
      | false =>
        have hp' := HE2.out.trans hp
        have e1 : false = homeB s no := by unfold homeB; rw [HZ.out, HBB.out, ← HD.out, hp]; rfl
        have e2 : [] = homeV s no := by unfold homeV; rw [HZ.out, HBB.out, ← HD.out, hp]; rfl
        have E := Lib.hid (home_end e2 e1)
        clear e1 e2 hp
        go_wp2_with fail
        go_ret2
        exact ⟨E.out, below_trans' HB.out hB5⟩

end Go.Proofs.YtnbbijpmkhdgpaaGreat.Ent
