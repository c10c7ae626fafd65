/- Contracts and plain mathematics that the statement's proof wants: no statement is proved here, nothing is assumed. -/
import Derived.BigRegion
import Derived.Deep.RegionWith
import Derived.Test.YtnbbijpmkhdgpaaGreatMg00
import Derived.Test.YtnbbijpmkhdgpaaGreatMg04
import Derived.Test.YtnbbijpmkhdgpaaGreatMg05
import Derived.Test.YtnbbijpmkhdgpaaGreatMg10
import Derived.Test.YtnbbijpmkhdgpaaGreatMg12
/- EGuess -/
namespace Go.Proofs.YtnbbijpmkhdgpaaGreat.Ent
open Go.RowKit Go.Sort
open Wire (TK TP But twoL fourL numV numS markS)
open Crc (sealB Only)

theorem last_calls (s : List UInt8) (w : World) : Calls Tryz.prog 98 #[.string (strB s), .string ⟨#[74, 69, 78, 68]⟩] w fun e w' => e = .returned (.bool (lastB s)) ∧ w' = w := Nm.prefix_calls s endK w

theorem set1 {w : World} {g i : Nat} {v : Value} {y : En} (h : EBox (w.setCell ⟨g, i, none⟩ v) g y) : ∃ w2, w.setCell ⟨g, i, none⟩ v = w2 ∧ EBox w2 g y ∧ Only g w w2 :=
  ⟨_, rfl, h, (Only.refl g w).setCell _ rfl _⟩
theorem TP.only {ty : TypeId} {w w' : World} {b g : Nat} {t : TK} (h : TP ty w b t) (k : Only g w w') (hb : b ≠ g) : TP ty w' b t := h.keep (k.block b hb)

/-- What lies while an entry is guessed. -/
structure GS (w W : World) (x : En) (t : TK) : Prop where
  z : EBox W w.heap.size zeroE
  x : EBox W (w.heap.size + 1) x
  t : TP 114 W (w.heap.size + 2) t
  below : Below w.heap.size w W
section
variable {w W W' : World} {x y : En} {t u : TK}
theorem GS.but (h : GS w W x t) (ht : TP 114 W' (w.heap.size + 2) u) (hb : But (w.heap.size + 2) W W') : GS w W' x u :=
  ⟨h.z.but hb (by omega), h.x.but hb (by omega), ht, h.below.trans (hb.below (by omega) h.below.size)⟩
theorem GS.only (h : GS w W x t) (hx : EBox W' (w.heap.size + 1) y) (hb : Only (w.heap.size + 1) W W') : GS w W' y t :=
  ⟨h.z.only hb (by omega), hx, TP.only h.t hb (by omega), Only.after h.below hb (by omega)⟩
theorem GS.new (w : World) (b : Bool) (s : List UInt8) : ∃ Y, Y = ((w.alloc (.cells #[.int .i64 0, .int .i64 0, .bool false, .int .i64 0, .string ⟨#[]⟩] 55)).alloc (.cells #[.int .i64 0, .int .i64 0, .bool b, .int .i64 0, .string ⟨#[]⟩] 55)).alloc (.cells #[.string (strB s), .bool false] 114) ∧ GS w Y ⟨0, 0, b, 0, []⟩ ⟨s, false⟩ := by
  refine ⟨_, rfl, ?_, ?_, ?_, below_trans' (below_trans' (below_one _ _) (below_one _ _)) (below_one _ _)⟩
  · exact ((EBox.new w zeroE).below (below_one _ _)).below (below_one _ _)
  · have := EBox.new (w.alloc (.cells #[.int .i64 0, .int .i64 0, .bool false, .int .i64 0, .string ⟨#[]⟩] 55)) ⟨0, 0, b, 0, []⟩
    rw [show (w.alloc (.cells #[.int .i64 0, .int .i64 0, .bool false, .int .i64 0, .string ⟨#[]⟩] 55)).heap.size = w.heap.size + 1 by simp] at this
    exact this.below (below_one _ _)
  · have := TP.new 114 ((w.alloc (.cells #[.int .i64 0, .int .i64 0, .bool false, .int .i64 0, .string ⟨#[]⟩] 55)).alloc (.cells #[.int .i64 0, .int .i64 0, .bool b, .int .i64 0, .string ⟨#[]⟩] 55)) s false
    rw [show ((w.alloc (.cells #[.int .i64 0, .int .i64 0, .bool false, .int .i64 0, .string ⟨#[]⟩] 55)).alloc (.cells #[.int .i64 0, .int .i64 0, .bool b, .int .i64 0, .string ⟨#[]⟩] 55)).heap.size = w.heap.size + 2 by simp] at this
    exact this
end

set_option maxRecDepth 100000 in
set_option maxHeartbeats 8000000 in
theorem guess_calls (s : List UInt8) (w : World) :
    Calls Tryz.prog 111 #[.string (strB s)] w fun e w' => e = .returned (enV (guessE s)) ∧ Below w.heap.size w w' := by
  obtain ⟨Y, hY, hG⟩ := GS.new w (lastB s) s
  have HY := Lib.hid hY
  have HG := Lib.hid hG
  clear hY hG
  go_enter Tryz.func111, Tryz.ntmps111
  go_wp2_with fail
  (with_reducible refine (last_calls s _).mono ?_)
  rintro e w1 ⟨rfl, rfl⟩
  go_wp2_with fail
  (with_reducible refine (kind_calls (lastB s) _).mono ?_)
  rintro e w1 ⟨rfl, rfl⟩
  rw [← HY.out]
  go_wp2_with fail
  (with_reducible refine (Wire.mark_calls (w.heap.size + 2) (kindL (lastB s)) ⟨s, false⟩ _ HG.out.t).mono ?_)
  rintro e w2 ⟨rfl, hT2, hB2⟩
  replace HG : Hid (GS w w2 ⟨0, 0, lastB s, 0, []⟩ (tapeG s)) := Lib.hid (HG.out.but hT2 hB2)
  clear hT2 hB2 HY
  go_wp2_with fail
  (with_reducible refine (Wire.tfour_calls (w.heap.size + 2) 1 2147483647 (tapeG s) _ HG.out.t).mono ?_)
  rintro e w3 ⟨rfl, hT3, hB3⟩
  replace HG : Hid (GS w w3 ⟨0, 0, lastB s, 0, []⟩ (g1 (tapeG s))) := Lib.hid (HG.out.but hT3 hB3)
  obtain ⟨c0, c1, c2, c3, c4⟩ := HG.out.x.at_
  have kf := HG.out.x.free
  obtain ⟨X, hX, hXb, hXo⟩ := set1 (HG.out.x.setSeq (numV 4 1 2147483647 (tapeG s) : Nat))
  have HX := Lib.hid hX
  have HG' := Lib.hid (HG.out.only hXb hXo)
  clear hT3 hB3 hX hXb hXo
  go_wp2_with fail
  rw [HX.out]
  replace HG := HG'
  clear c0 c1 c2 c3 c4 kf HX HG'
  (with_reducible refine (Wire.ttwo_calls (w.heap.size + 2) 0 255 (g1 (tapeG s)) _ HG.out.t).mono ?_)
  rintro e w4 ⟨rfl, hT4, hB4⟩
  replace HG : Hid (GS w w4 ⟨(numV 4 1 2147483647 (tapeG s) : Nat), 0, lastB s, 0, []⟩ (g2 (tapeG s))) := Lib.hid (HG.out.but hT4 hB4)
  obtain ⟨c0, c1, c2, c3, c4⟩ := HG.out.x.at_
  have kf := HG.out.x.free
  obtain ⟨X, hX, hXb, hXo⟩ := set1 (HG.out.x.setIndex (numV 2 0 255 (g1 (tapeG s)) : Nat))
  have HX := Lib.hid hX
  have HG' := Lib.hid (HG.out.only hXb hXo)
  clear hT4 hB4 hX hXb hXo
  go_wp2_with fail
  rw [HX.out]
  replace HG := HG'
  clear c0 c1 c2 c3 c4 kf HX HG'
  (with_reducible refine (Wire.ttwo_calls (w.heap.size + 2) 0 511 (g2 (tapeG s)) _ HG.out.t).mono ?_)
  rintro e w5 ⟨rfl, hT5, hB5⟩
  replace HG : Hid (GS w w5 ⟨(numV 4 1 2147483647 (tapeG s) : Nat), (numV 2 0 255 (g1 (tapeG s)) : Nat), lastB s, 0, []⟩ (g3 (tapeG s))) := Lib.hid (HG.out.but hT5 hB5)
  obtain ⟨c0, c1, c2, c3, c4⟩ := HG.out.x.at_
  have kf := HG.out.x.free
  obtain ⟨X, hX, hXb, hXo⟩ := set1 (HG.out.x.setNo (numV 2 0 511 (g2 (tapeG s)) : Nat))
  have HX := Lib.hid hX
  have HG' := Lib.hid (HG.out.only hXb hXo)
  clear hT5 hB5 hX hXb hXo
  go_wp2_with fail
  rw [HX.out]
  replace HG : Hid (GS w X ⟨(numV 4 1 2147483647 (tapeG s) : Nat), (numV 2 0 255 (g1 (tapeG s)) : Nat), lastB s, (numV 2 0 511 (g2 (tapeG s)) : Nat), []⟩ (g3 (tapeG s))) := HG'
  clear c0 c1 c2 c3 c4 kf HX HG'
  obtain ⟨c0, c1, c2, c3, c4⟩ := HG.out.x.at_
  have kf := HG.out.x.free
  have t0 := HG.out.t.rest
  obtain ⟨X2, hX2, hb2, ho2⟩ := set1 (HG.out.x.setData ((g3 (tapeG s)).rest.take (dataN (lastB s))))
  have HX2 := Lib.hid hX2
  obtain ⟨R, hR⟩ : ∃ R, R = guessE s := ⟨_, rfl⟩
  have HG2 : Hid (GS w X2 R (g3 (tapeG s))) := Lib.hid (by rw [hR]; exact HG.out.only hb2 ho2)
  have HR := Lib.hid hR
  obtain ⟨X3, hX3, hb3, ho3⟩ := store5 HG2.out.z R
  have HX3 := Lib.hid hX3
  have HZ3 := Lib.hid hb3
  have HB3 : Hid (Below w.heap.size w X3) := Lib.hid (Only.after HG2.out.below ho3 (Nat.le_refl _))
  clear hX2 hb2 ho2 hX3 hb3 ho3 hR
  go_region_with (first | (go_at_call 126; (with_reducible refine (dataBytes_calls _ _).mono ?_); rintro e w' ⟨rfl, rfl⟩) | (go_at_call 84; (with_reducible refine (first_calls _ _ _ (Nat.le_trans (dataN_le _) (by omega))).mono ?_); rintro e w' ⟨rfl, rfl⟩))
  all_goals
    rw [HX2.out]
    clear c0 c1 c2 c3 c4 kf t0
    obtain ⟨c0, c1, c2, c3, c4⟩ := HG2.out.x.at_
    obtain ⟨z0, z1, z2, z3, z4⟩ := HG2.out.z.at_
    have kf := HG2.out.z.free
    go_wp2_with fail
    rw [HX3.out]
    clear c0 c1 c2 c3 c4 z0 z1 z2 z3 z4 kf
    obtain ⟨k0, k1, k2, k3, k4⟩ := HZ3.out.at_
    exact bodyPost_ret (v := enV R) (by simp [results, Tryz.results111, go_sem, enV, k0, k1, k2, k3, k4]) rfl ⟨congrArg (fun r => Ending.returned (enV r)) HR.out, bdrew HB3.out⟩

end Go.Proofs.YtnbbijpmkhdgpaaGreat.Ent

/- EParse -/
namespace Go.Proofs.YtnbbijpmkhdgpaaGreat.Ent
open Go.RowKit Go.Sort
open Wire (TK TP But twoL fourL numV numS markS)
open Crc (sealB Only)

theorem guess_data (s : List UInt8) : (guessE s).data.length ≤ 208 := by
  show ((g3 (tapeG s)).rest.take (dataN (lastB s))).length ≤ 208
  rw [List.length_take]
  have := dataN_le (lastB s)
  omega
theorem eq_spell (a b : List UInt8) : ((strB a).toList == (strB b).toList) = (a == b) := by rw [strB_toList, strB_toList]

/-- The two boxes of Parse. -/
structure PS (w W : World) (x : En) (g : Nat) : Prop where
  z : EBox W w.heap.size zeroE
  x : EBox W g x
  ne : w.heap.size ≠ g
  below : Below w.heap.size w W
theorem PS.more {w W W' : World} {x : En} {g : Nat} (h : PS w W x g) (hb : Below W.heap.size W W') : PS w W' x g := ⟨h.z.below hb, h.x.below hb, h.ne, below_trans' h.below hb⟩
theorem PS.new {w w1 : World} (x : En) (hB : Below (w.alloc (.cells #[.int .i64 0, .int .i64 0, .bool false, .int .i64 0, .string ⟨#[]⟩] 55)).heap.size (w.alloc (.cells #[.int .i64 0, .int .i64 0, .bool false, .int .i64 0, .string ⟨#[]⟩] 55)) w1) :
    PS w (w1.alloc (.cells (enC x) 55)) x w1.heap.size := by
  have hz : w.heap.size + 1 ≤ w1.heap.size := by simpa using hB.size
  exact ⟨((EBox.new w zeroE).below hB).below (below_one _ _), EBox.new w1 x, by omega, below_trans' (below_trans' (below_one _ _) hB) (below_one _ _)⟩

theorem parse_end {s : List UInt8} {b : Bool} {R : En} (hR : R = parseE s) (hb : b = isE s) : Ending.returned (.tuple #[enV R, .bool b]) = .returned (.tuple #[enV (parseE s), .bool (isE s)]) := by rw [hR, hb]

set_option maxRecDepth 100000 in
set_option maxHeartbeats 8000000 in
theorem parse_calls (s : List UInt8) (w : World) :
    Calls Tryz.prog 88 #[.string (strB s)] w fun e w' => e = .returned (.tuple #[enV (parseE s), .bool (isE s)]) ∧ Below w.heap.size w w' := by
  obtain ⟨R, hR⟩ : ∃ R, R = guessE s := ⟨_, rfl⟩
  have HD : Hid (R.data.length ≤ 208) := Lib.hid (by rw [hR]; exact guess_data s)
  have HG := guess_calls s
  rw [← hR] at HG
  replace HG := Lib.hid HG
  have HR := Lib.hid hR
  clear hR
  go_enter Tryz.func88, Tryz.ntmps88
  go_wp2_with fail
  (with_reducible refine (HG.out _).mono ?_)
  rintro e w1 ⟨rfl, hB1⟩
  have HP := Lib.hid (PS.new R hB1)
  have C1 := Lib.hid (fun W => right_calls R W)
  have C2 := Lib.hid (fun W => print_calls R W (by have := HD.out; omega))
  unfold enC at HP
  unfold enV at C1 C2
  clear hB1 HG
  unfold enV
  go_wp2_with fail
  (with_reducible refine (C1.out _).mono ?_)
  rintro e w2 ⟨rfl, hB2⟩
  replace HP := Lib.hid (PS.more (x := R) HP.out hB2)
  clear hB2 C1
  cases hr : rightE R with
  | false =>
    have e1 : false = isE s := by unfold isE; rw [← HR.out, hr, Bool.false_and]
    have e2 : zeroE = parseE s := by unfold parseE; rw [← e1]; rfl
    obtain ⟨k0, k1, k2, k3, k4⟩ := HP.out.z.at_
    have kf := HP.out.z.free
    obtain ⟨X, hX, hXb, hXo⟩ := store5 HP.out.z zeroE
    have HXX := Lib.hid hX
    have HXB := Lib.hid hXb
    have HXO := Lib.hid (Only.after HP.out.below hXo (Nat.le_refl _))
    have E1 := Lib.hid e1
    have E2 := Lib.hid e2
    clear hX hXb hXo e1 e2
    unfold zeroE at HXX
    go_wp2_with fail
    first | rw [HXX.out] | (have hx := HXX.out; simp only [strB] at hx; rw [hx])
    clear k0 k1 k2 k3 k4 kf HXX
    obtain ⟨k0, k1, k2, k3, k4⟩ := HXB.out.at_
    exact bodyPost_ret (v := .tuple #[enV zeroE, .bool false]) (by simp [results, Tryz.results88, go_sem, enV, k0, k1, k2, k3, k4]) rfl ⟨parse_end E2.out E1.out, HXO.out⟩
  | true =>
    obtain ⟨c0, c1, c2, c3, c4⟩ := HP.out.x.at_
    go_wp2_with fail
    (with_reducible refine (C2.out _).mono ?_)
    rintro e w3 ⟨rfl, hB3⟩
    replace HP := Lib.hid (HP.out.more hB3)
    have HE := Lib.hid (eq_spell (printL R) s)
    clear hB3 C2 c0 c1 c2 c3 c4
    cases hp : printL R == s with
    | false =>
      have hp' := HE.out.trans hp
      have e1 : false = isE s := by unfold isE; rw [← HR.out, hr, hp]; rfl
      have e2 : zeroE = parseE s := by unfold parseE; rw [← e1]; rfl
      obtain ⟨k0, k1, k2, k3, k4⟩ := HP.out.z.at_
      have kf := HP.out.z.free
      obtain ⟨X, hX, hXb, hXo⟩ := store5 HP.out.z zeroE
      have HXX := Lib.hid hX
      have HXB := Lib.hid hXb
      have HXO := Lib.hid (Only.after HP.out.below hXo (Nat.le_refl _))
      have E1 := Lib.hid e1
      have E2 := Lib.hid e2
      clear hX hXb hXo e1 e2 hp
      unfold zeroE at HXX
      go_wp2_with fail
      first | rw [HXX.out] | (have hx := HXX.out; simp only [strB] at hx; rw [hx])
      clear k0 k1 k2 k3 k4 kf HXX
      obtain ⟨k0, k1, k2, k3, k4⟩ := HXB.out.at_
      exact bodyPost_ret (v := .tuple #[enV zeroE, .bool false]) (by simp [results, Tryz.results88, go_sem, enV, k0, k1, k2, k3, k4]) rfl ⟨parse_end E2.out E1.out, HXO.out⟩
    | true =>
      have hp' := HE.out.trans hp
      have e1 : true = isE s := by unfold isE; rw [← HR.out, hr, hp]; rfl
      have e2 : R = parseE s := by unfold parseE; rw [← e1, if_pos rfl]; exact HR.out
      obtain ⟨c0, c1, c2, c3, c4⟩ := HP.out.x.at_
      obtain ⟨k0, k1, k2, k3, k4⟩ := HP.out.z.at_
      have kf := HP.out.z.free
      obtain ⟨X, hX, hXb, hXo⟩ := store5 HP.out.z R
      have HXX := Lib.hid hX
      have HXB := Lib.hid hXb
      have HXO := Lib.hid (Only.after HP.out.below hXo (Nat.le_refl _))
      have E1 := Lib.hid e1
      have E2 := Lib.hid e2
      clear hX hXb hXo e1 e2 hp
      go_wp2_with fail
      rw [HXX.out]
      clear k0 k1 k2 k3 k4 kf HXX c0 c1 c2 c3 c4
      obtain ⟨k0, k1, k2, k3, k4⟩ := HXB.out.at_
      exact bodyPost_ret (v := .tuple #[enV R, .bool true]) (by simp [results, Tryz.results88, go_sem, enV, k0, k1, k2, k3, k4]) rfl ⟨parse_end E2.out E1.out, HXO.out⟩

end Go.Proofs.YtnbbijpmkhdgpaaGreat.Ent

/- AParse -/
namespace Go.Proofs.YtnbbijpmkhdgpaaGreat
open Go.RowKit Go.Sort
open Wire (TK TP But twoL numS numV markS)
open Crc (sealB Only)

/-- What lies while a shape is guessed. -/
structure GS (ty : TypeId) (w W : World) (t : TK) : Prop where
  z : SBox W w.heap.size zeroS
  t : TP ty W (w.heap.size + 1) t
  below : Below w.heap.size w W
section
variable {ty : TypeId} {w W W' : World} {t u : TK}
theorem GS.but (h : GS ty w W t) (ht : TP ty W' (w.heap.size + 1) u) (hb : But (w.heap.size + 1) W W') : GS ty w W' u :=
  ⟨h.z.but hb (by omega), ht, h.below.trans (hb.below (by omega) h.below.size)⟩
theorem GS.new (ty : TypeId) (w : World) (s : List UInt8) : ∃ Y, Y = (w.alloc (.cells #[.int .i64 0, .int .i64 0] 30)).alloc (.cells #[.string (strB s), .bool false] ty) ∧ GS ty w Y ⟨s, false⟩ := by
  refine ⟨_, rfl, ?_, ?_, below_trans' (below_one _ _) (below_one _ _)⟩
  · exact (SBox.new w zeroS).below (below_one _ _)
  · have := TP.new ty (w.alloc (.cells #[.int .i64 0, .int .i64 0] 30)) s false
    rw [show (w.alloc (.cells #[.int .i64 0, .int .i64 0] 30)).heap.size = w.heap.size + 1 by simp] at this
    exact this
end

set_option maxRecDepth 100000 in
set_option maxHeartbeats 8000000 in
theorem guess_calls (s : List UInt8) (w : World) :
    Calls Tryz.prog 110 #[.string (strB s)] w fun e w' => e = .returned (shV (guessS s)) ∧ Below w.heap.size w w' := by
  obtain ⟨Y, hY, hG⟩ := GS.new 114 w s
  have HY := Lib.hid hY
  have HG := Lib.hid hG
  have CM := Lib.hid (fun W => Wire.mark_calls (w.heap.size + 1) archK ⟨s, false⟩ W)
  rw [show strB archK = ⟨#[65, 82, 67, 72, 73, 86, 69, 49]⟩ from rfl] at CM
  clear hY hG
  go_enter Tryz.func110, Tryz.ntmps110
  go_wp2_with fail
  rw [← HY.out]
  (with_reducible refine (CM.out _ HG.out.t).mono ?_)
  rintro e w2 ⟨rfl, hT2, hB2⟩
  replace HG : Hid (GS 114 w w2 (g0 s)) := Lib.hid (HG.out.but hT2 hB2)
  clear hT2 hB2 HY CM
  go_wp2_with fail
  (with_reducible refine (Wire.ttwo_calls (w.heap.size + 1) 16 512 (g0 s) _ HG.out.t).mono ?_)
  rintro e w3 ⟨rfl, hT3, hB3⟩
  replace HG : Hid (GS 114 w w3 (g1 s)) := Lib.hid (HG.out.but hT3 hB3)
  clear hT3 hB3
  go_wp2_with fail
  (with_reducible refine (Wire.ttwo_calls (w.heap.size + 1) 8 256 (g1 s) _ HG.out.t).mono ?_)
  rintro e w4 ⟨rfl, hT4, hB4⟩
  replace HG := Lib.hid (HG.out.but hT4 hB4)
  clear hT4 hB4
  have c0 := HG.out.z.c0
  have c1 := HG.out.z.c1
  have kf := HG.out.z.free
  obtain ⟨X, hX, hXb, hXo⟩ := store2 HG.out.z (guessS s)
  have HX : Hid ((w4.setCell ⟨w.heap.size, 0, none⟩ (.int .i64 (numV 2 16 512 (g0 s) : Nat))).setCell ⟨w.heap.size, 1, none⟩ (.int .i64 (numV 2 8 256 (g1 s) : Nat)) = X) := Lib.hid hX
  have HB := Lib.hid (Only.after HG.out.below hXo (Nat.le_refl _))
  clear hX hXo HG
  go_wp2_with fail
  rw [HX.out]
  clear c0 c1 kf HX
  have k0 := hXb.c0
  have k1 := hXb.c1
  exact bodyPost_ret (v := shV (guessS s)) (by simp [results, Tryz.results110, go_sem, shV, k0, k1]) rfl ⟨rfl, HB.out⟩

theorem eq_spell (a b : List UInt8) : ((strB a).toList == (strB b).toList) = (a == b) := by rw [strB_toList, strB_toList]

/-- The two boxes of Parse. -/
structure PS (w W : World) (x : Sh) (g : Nat) : Prop where
  z : SBox W w.heap.size zeroS
  x : SBox W g x
  ne : w.heap.size ≠ g
  below : Below w.heap.size w W
theorem PS.more {w W W' : World} {x : Sh} {g : Nat} (h : PS w W x g) (hb : Below W.heap.size W W') : PS w W' x g := ⟨h.z.below hb, h.x.below hb, h.ne, below_trans' h.below hb⟩
theorem PS.new {w w1 : World} (x : Sh) (hB : Below (w.alloc (.cells #[.int .i64 0, .int .i64 0] 30)).heap.size (w.alloc (.cells #[.int .i64 0, .int .i64 0] 30)) w1) :
    PS w (w1.alloc (.cells #[.int .i64 x.pages, .int .i64 x.journal] 30)) x w1.heap.size := by
  have hz : w.heap.size + 1 ≤ w1.heap.size := by simpa using hB.size
  exact ⟨((SBox.new w zeroS).below hB).below (below_one _ _), SBox.new w1 x, by omega, below_trans' (below_trans' (below_one _ _) hB) (below_one _ _)⟩

theorem parse_end {s : List UInt8} {b : Bool} {R : Sh} (hR : R = parseS s) (hb : b = isS s) : Ending.returned (.tuple #[shV R, .bool b]) = .returned (.tuple #[shV (parseS s), .bool (isS s)]) := by rw [hR, hb]

set_option maxRecDepth 100000 in
set_option maxHeartbeats 8000000 in
theorem parse_calls (s : List UInt8) (w : World) :
    Calls Tryz.prog 87 #[.string (strB s)] w fun e w' => e = .returned (.tuple #[shV (parseS s), .bool (isS s)]) ∧ Below w.heap.size w w' := by
  obtain ⟨R, hR⟩ : ∃ R, R = guessS s := ⟨_, rfl⟩
  have HG := guess_calls s
  rw [← hR] at HG
  replace HG := Lib.hid HG
  have HR := Lib.hid hR
  clear hR
  go_enter Tryz.func87, Tryz.ntmps87
  go_wp2_with fail
  (with_reducible refine (HG.out _).mono ?_)
  rintro e w1 ⟨rfl, hB1⟩
  have HP := Lib.hid (PS.new R hB1)
  have C1 := Lib.hid (fun W => right_calls R W)
  have C2 := Lib.hid (fun W => print_calls R W)
  unfold shV at C1 C2
  clear hB1 HG
  unfold shV
  go_wp2_with fail
  (with_reducible refine (C1.out _).mono ?_)
  rintro e w2 ⟨rfl, hB2⟩
  replace HP := Lib.hid (PS.more (x := R) HP.out hB2)
  clear hB2 C1
  cases hr : rightS R with
  | false =>
    have e1 : false = isS s := by unfold isS; rw [← HR.out, hr, Bool.false_and]
    have e2 : zeroS = parseS s := by unfold parseS; rw [← e1]; rfl
    have k0 := HP.out.z.c0
    have k1 := HP.out.z.c1
    have kf := HP.out.z.free
    obtain ⟨X, hX, hXb, hXo⟩ := store2 HP.out.z zeroS
    have HXX : Hid ((w2.setCell ⟨w.heap.size, 0, none⟩ (.int .i64 0)).setCell ⟨w.heap.size, 1, none⟩ (.int .i64 0) = X) := Lib.hid hX
    have HXB := Lib.hid hXb
    have HXO := Lib.hid (Only.after HP.out.below hXo (Nat.le_refl _))
    have E1 := Lib.hid e1
    have E2 := Lib.hid e2
    clear hX hXb hXo e1 e2
    go_wp2_with fail
    rw [HXX.out]
    clear k0 k1 kf HXX
    have k0 := HXB.out.c0
    have k1 := HXB.out.c1
    exact bodyPost_ret (v := .tuple #[shV zeroS, .bool false]) (by simp [results, Tryz.results87, go_sem, shV, k0, k1]) rfl ⟨parse_end E2.out E1.out, HXO.out⟩
  | true =>
    have c0 := HP.out.x.c0
    have c1 := HP.out.x.c1
    go_wp2_with fail
    (with_reducible refine (C2.out _).mono ?_)
    rintro e w3 ⟨rfl, hB3⟩
    replace HP := Lib.hid (HP.out.more hB3)
    have HE := Lib.hid (eq_spell (printL R) s)
    clear hB3 C2 c0 c1
    cases hp : printL R == s with
    | false =>
      have hp' := HE.out.trans hp
      have e1 : false = isS s := by unfold isS; rw [← HR.out, hr, hp]; rfl
      have e2 : zeroS = parseS s := by unfold parseS; rw [← e1]; rfl
      have k0 := HP.out.z.c0
      have k1 := HP.out.z.c1
      have kf := HP.out.z.free
      obtain ⟨X, hX, hXb, hXo⟩ := store2 HP.out.z zeroS
      have HXX : Hid ((w3.setCell ⟨w.heap.size, 0, none⟩ (.int .i64 0)).setCell ⟨w.heap.size, 1, none⟩ (.int .i64 0) = X) := Lib.hid hX
      have HXB := Lib.hid hXb
      have HXO := Lib.hid (Only.after HP.out.below hXo (Nat.le_refl _))
      have E1 := Lib.hid e1
      have E2 := Lib.hid e2
      clear hX hXb hXo e1 e2 hp
      go_wp2_with fail
      rw [HXX.out]
      clear k0 k1 kf HXX
      have k0 := HXB.out.c0
      have k1 := HXB.out.c1
      exact bodyPost_ret (v := .tuple #[shV zeroS, .bool false]) (by simp [results, Tryz.results87, go_sem, shV, k0, k1]) rfl ⟨parse_end E2.out E1.out, HXO.out⟩
    | true =>
      have hp' := HE.out.trans hp
      have e1 : true = isS s := by unfold isS; rw [← HR.out, hr, hp]; rfl
      have e2 : R = parseS s := by unfold parseS; rw [← e1, if_pos rfl]; exact HR.out
      have c0 := HP.out.x.c0
      have c1 := HP.out.x.c1
      have k0 := HP.out.z.c0
      have k1 := HP.out.z.c1
      have kf := HP.out.z.free
      obtain ⟨X, hX, hXb, hXo⟩ := store2 HP.out.z R
      have HXX := Lib.hid hX
      have HXB := Lib.hid hXb
      have HXO := Lib.hid (Only.after HP.out.below hXo (Nat.le_refl _))
      have E1 := Lib.hid e1
      have E2 := Lib.hid e2
      clear hX hXb hXo e1 e2 hp
      go_wp2_with fail
      rw [HXX.out]
      clear k0 k1 kf HXX c0 c1
      have k0 := HXB.out.c0
      have k1 := HXB.out.c1
      exact bodyPost_ret (v := .tuple #[shV R, .bool true]) (by simp [results, Tryz.results87, go_sem, shV, k0, k1]) rfl ⟨parse_end E2.out E1.out, HXO.out⟩

end Go.Proofs.YtnbbijpmkhdgpaaGreat

/- POpen1 -/
namespace Go.Proofs.YtnbbijpmkhdgpaaGreat.Vlt
open Go.RowKit Go.Sort
open Dsk
open Ent (isE parseE)

/-- A slice that reads as these entries. -/
def enCells (l : List Ent.En) : List Value := l.flatMap fun x => [.int .i64 x.seq, .int .i64 x.index, .bool x.last, .int .i64 x.no, .string (strB x.data)]
theorem enCells_cons (x : Ent.En) (l : List Ent.En) : enCells (x :: l) = [.int .i64 x.seq, .int .i64 x.index, .bool x.last, .int .i64 x.no, .string (strB x.data)] ++ enCells l := rfl
theorem enCells_len (l : List Ent.En) : (enCells l).length = l.length * 5 := by
  induction l with
  | nil => rfl
  | cons a l ih => rw [enCells_cons, List.length_append, ih]; simp; omega

/-- The rows of the journal's list: each entry in its five cells. -/
structure EnRow (w : World) (g : Nat) (n : Nat) (f : Nat → Ent.En) : Prop where
  row : ∃ cur, w.heap[g]? = some (.cells cur 55 (0, 0)) ∧ cur.size = n * 5 ∧ ∀ i, i < n → cur[i * 5]? = some (.int .i64 (f i).seq) ∧ cur[i * 5 + 1]? = some (.int .i64 (f i).index) ∧ cur[i * 5 + 2]? = some (.bool (f i).last) ∧ cur[i * 5 + 3]? = some (.int .i64 (f i).no) ∧ cur[i * 5 + 4]? = some (.string (strB (f i).data))
section
variable {w w' : World} {g n : Nat} {f : Nat → Ent.En}
theorem EnRow.lt (h : EnRow w g n f) : g < w.heap.size := by
  obtain ⟨cur, h1, _⟩ := h.row
  exact (Array.getElem?_eq_some_iff.1 h1).1
theorem EnRow.keep (h : EnRow w g n f) (e : w'.heap[g]? = w.heap[g]?) : EnRow w' g n f := by
  obtain ⟨cur, h1, h2⟩ := h.row
  exact ⟨cur, e.trans h1, h2⟩
theorem EnRow.below (h : EnRow w g n f) (hb : Below w.heap.size w w') : EnRow w' g n f := h.keep (hb.block g h.lt)
theorem EnRow.at_ (h : EnRow w g n f) {i : Nat} (hi : i < n) : w.cell? ⟨g, i * 5, none⟩ = some (.int .i64 (f i).seq) ∧ w.cell? ⟨g, i * 5 + 1, none⟩ = some (.int .i64 (f i).index) ∧ w.cell? ⟨g, i * 5 + 2, none⟩ = some (.bool (f i).last) ∧ w.cell? ⟨g, i * 5 + 3, none⟩ = some (.int .i64 (f i).no) ∧ w.cell? ⟨g, i * 5 + 4, none⟩ = some (.string (strB (f i).data)) := by
  obtain ⟨cur, h1, h2, h3⟩ := h.row
  obtain ⟨a, b, c, d, e⟩ := h3 i hi
  refine ⟨?_, ?_, ?_, ?_, ?_⟩ <;> (rw [cell_of_row w g _ _ _ _ h1]; assumption)
theorem EnRow.free (h : EnRow w g n f) (i : Nat) : w.frozen? ⟨g, i, none⟩ = false := by
  obtain ⟨cur, h1, _⟩ := h.row
  simp [World.frozen?, h1]
/-- One entry is stored. -/
theorem EnRow.put (h : EnRow w g n f) {i : Nat} (hi : i < n) (x : Ent.En) :
    ∃ X, ((((w.setCell ⟨g, i * 5, none⟩ (.int .i64 x.seq)).setCell ⟨g, i * 5 + 1, none⟩ (.int .i64 x.index)).setCell ⟨g, i * 5 + 2, none⟩ (.bool x.last)).setCell ⟨g, i * 5 + 3, none⟩ (.int .i64 x.no)).setCell ⟨g, i * 5 + 4, none⟩ (.string (strB x.data)) = X ∧
      EnRow X g n (fun j => if j = i then x else f j) ∧ (∀ k : Nat, k ≠ g → X.heap[k]? = w.heap[k]?) ∧ (∀ (B : Nat) (a : World), Below B a w → B ≤ g → Below B a X) := by
  obtain ⟨cur, h1, h2, h3⟩ := h.row
  refine ⟨_, rfl, ⟨_, heap_setCell_same _ g _ _ 55 _ (heap_setCell_same _ g _ _ 55 _ (heap_setCell_same _ g _ _ 55 _ (heap_setCell_same _ g _ _ 55 _ (heap_setCell_same w g _ _ 55 _ h1)))), by simp [h2], fun j hj => ?_⟩, fun k hk => ?_, fun B a hb hg => ?_⟩
  · obtain ⟨a, b, c, d, e⟩ := h3 j hj
    simp only [Array.getElem?_setIfInBounds, Array.size_setIfInBounds, h2]
    by_cases hji : j = i
    · subst hji
      rw [if_pos rfl]
      refine ⟨?_, ?_, ?_, ?_, ?_⟩ <;> (repeat (first | rw [if_neg (by omega)] | rw [if_pos (by omega)]))
    · rw [if_neg hji]
      refine ⟨?_, ?_, ?_, ?_, ?_⟩ <;> (repeat rw [if_neg (by omega)]) <;> assumption
  · rw [Below.heap_setCell _ _ _ _ hk, Below.heap_setCell _ _ _ _ hk, Below.heap_setCell _ _ _ _ hk, Below.heap_setCell _ _ _ _ hk, Below.heap_setCell _ _ _ _ hk]
  · exact ((((hb.setCell (p := ⟨g, i * 5, none⟩) hg _).setCell (p := ⟨g, i * 5 + 1, none⟩) hg _).setCell (p := ⟨g, i * 5 + 2, none⟩) hg _).setCell (p := ⟨g, i * 5 + 3, none⟩) hg _).setCell (p := ⟨g, i * 5 + 4, none⟩) hg _
end

theorem zeroEn : ∃ z : Ent.En, z = ⟨0, 0, false, 0, []⟩ := ⟨_, rfl⟩
theorem info55 : (Tryz.prog.info? 55).map (fun i => (i.zero, i.size, i.bytes)) = some (some (.agg #[.int .i64 0, .int .i64 0, .bool false, .int .i64 0, .string ⟨#[]⟩]), 5, 48) := by kernel_rfl

end Go.Proofs.YtnbbijpmkhdgpaaGreat.Vlt

/- PShape -/
namespace Go.Proofs.YtnbbijpmkhdgpaaGreat.Vlt
open Go.RowKit Go.Sort
open Dsk

set_option maxRecDepth 100000 in
theorem eql_nil (A : Option Addr) (n c : Nat) (w : World) : (binOp .eql 26 (.slice A n c) (.slice none 0 0)).run Tryz.prog w = .ok (.bool A.isNone) w := by
  cases A with
  | none => first | (go_simp; done) | (go_simp; rfl)
  | some a => first | (go_simp; done) | (go_simp; rfl)

set_option maxRecDepth 100000 in
set_option maxHeartbeats 4000000 in
theorem clonew_calls (v : Value) (l : List (Int × ByteArray)) (w : World) (h : SL w 72 2 v l.length (wetCells l)) (hn : l.length ≤ 100000) :
    Calls Tryz.prog 90 #[v] w fun e w' => ∃ v', e = .returned v' ∧ SL w' 72 2 v' l.length (wetCells l) ∧ Below w.heap.size w w' := by
  obtain ⟨i1, hi0, hz0, hz1, hz2⟩ := info_parts info72
  obtain ⟨A, c, rfl, hc, hr⟩ := h
  obtain ⟨n, hnl⟩ : ∃ n, n = l.length := ⟨_, rfl⟩
  rw [← hnl] at hr hc ⊢
  have hq := fun W => eql_nil A n c W
  cases A with
  | none =>
    have h0 : n = 0 := by
      rcases Nat.eq_zero_or_pos n with h | h
      · exact h
      · obtain ⟨b, off, e, _⟩ := hr.at_ h
        cases e
    subst h0
    have e0 : l = [] := List.eq_nil_of_length_eq_zero hnl.symm
    subst e0
    rw [show (none : Option Addr).isNone = true from rfl] at hq
    clear hr hc hnl
    go_enter Tryz.func90, Tryz.ntmps90
    go_wp2_with fail
    go_ret
    exact ⟨_, rfl, SL.nil _ _ _, Below.refl _ _⟩
  | some ad =>
    rw [show (some ad).isNone = false from rfl] at hq
    have hnews : ∀ (j : Nat) (u : Value), (wetCells l)[j]? = some u → ∀ W, Below w.heap.size w W → W.cell? (ad.add j) = some u := by
      intro j u hu W hW
      have hlt := (List.getElem?_eq_some_iff.1 hu).1
      rw [wetCells_length] at hlt
      obtain ⟨b, off, e, hb, hcl⟩ := hr.at_ (by omega)
      injection e with e
      subst e
      rw [Addr.add_lit]
      exact (hW.cell (p := ⟨b, off + j, none⟩) hb).trans (hcl j u hu)
    have hone : ∀ u ∈ wetCells l, u.oneCell' = true := by
      intro u hu
      unfold wetCells at hu
      obtain ⟨p, _, hp⟩ := List.mem_flatMap.1 hu
      simp only [List.mem_cons, List.not_mem_nil, or_false] at hp
      rcases hp with rfl | rfl <;> rfl
    have hlen : (wetCells l).length = n * 2 := by rw [wetCells_length, hnl]
    have HNW := Lib.hid hnews
    have HONE := Lib.hid hone
    have HLEN := Lib.hid hlen
    have hn' : n ≤ 100000 := by omega
    have hown : ∀ W : World, World.ownsRow (W.alloc (.cells #[] 72)) W.heap.size 72 2 (.slice (some ⟨W.heap.size, 0, none⟩) 0 0) 0 [] := fun W =>
      ⟨rfl, .inr ⟨W.heap.size, 0, #[], rfl, Nat.le_refl _, heap_alloc_new W _, Nat.le_refl _, by decide, rfl, rfl⟩⟩
    have HOWN := Lib.hid hown
    clear hr hc hnews hone hlen hown hnl
    go_enter Tryz.func90, Tryz.ntmps90
    go_wp2_with (at_builtin; refine wpList_append_own_at _ (by rfl) (.tmp 5) (.tmp 6) 26 (by rfl) w.heap.size 72 i1 _ 2 24 Tryz.underlying26 hi0 hz0 hz1 hz2 (by rfl) (by omega) _ 0 [] (by rfl) (by exact HOWN.out w) ad n c (wetCells l) (by rfl) HLEN.out (fun j u hu => HNW.out j u hu _ (below_one _ _)) HONE.out (Nat.le_trans (show 0 + n ≤ 1000000 by omega) (by decide)) (by omega) (by simp) ?_; intro v' w' hown' hgrow' hnil' hat')
    have hsl : SL w' 72 2 v' n (wetCells l) := by have := SL.of_own hown'; simpa using this
    have hbl : Below w.heap.size w w' := below_grown (below_one w (.cells #[] 72)) hgrow' (fun q hq => by have h : some w.heap.size = some q := hq; injection h with h; omega) (by simp)
    have HS := Lib.hid hsl
    have HB := Lib.hid hbl
    clear hown' hgrow' hnil' hat' hsl hbl
    go_wp2_with fail
    go_ret
    exact ⟨_, rfl, HS.out, HB.out⟩

theorem SB2.put0 {w W : World} {vs vw us : Value} {d : DK} (h : SB2 w W vs vw d) (hs : SL W 9 1 us d.sure.length (d.sure.map Value.string)) :
    ∃ X, W.setCell ⟨w.heap.size, 0, none⟩ us = X ∧ SB2 w X us vw d := by
  refine ⟨_, rfl, heap_setCell_same W w.heap.size 0 _ 28 _ h.dk, ?_, (Below.heap_setCell _ _ _ _ (show w.heap.size + 1 ≠ w.heap.size by omega)).trans h.zr, h.below.setCell (p := ⟨w.heap.size, 0, none⟩) (Nat.le_refl _) _⟩
  obtain ⟨_, _, e, h1, h2⟩ := h.isd
  simp only [Value.agg.injEq, Array.mk.injEq, List.cons.injEq] at e
  obtain ⟨rfl, rfl, _⟩ := e
  have hk : ∀ b : Nat, b ≠ w.heap.size → (W.setCell ⟨w.heap.size, 0, none⟩ us).heap[b]? = W.heap[b]? := fun b hb => Below.heap_setCell _ _ _ _ hb
  exact ⟨_, _, rfl, hs.other h.dk (by decide) hk, h2.other h.dk (by decide) hk⟩
theorem SB2.put1 {w W : World} {vs vw uw : Value} {d : DK} (h : SB2 w W vs vw d) (hs : SL W 72 2 uw d.wet.length (wetCells d.wet)) :
    ∃ X, W.setCell ⟨w.heap.size, 1, none⟩ uw = X ∧ SB2 w X vs uw d := by
  refine ⟨_, rfl, heap_setCell_same W w.heap.size 1 _ 28 _ h.dk, ?_, (Below.heap_setCell _ _ _ _ (show w.heap.size + 1 ≠ w.heap.size by omega)).trans h.zr, h.below.setCell (p := ⟨w.heap.size, 1, none⟩) (Nat.le_refl _) _⟩
  obtain ⟨_, _, e, h1, h2⟩ := h.isd
  simp only [Value.agg.injEq, Array.mk.injEq, List.cons.injEq] at e
  obtain ⟨rfl, rfl, _⟩ := e
  have hk : ∀ b : Nat, b ≠ w.heap.size → (W.setCell ⟨w.heap.size, 1, none⟩ uw).heap[b]? = W.heap[b]? := fun b hb => Below.heap_setCell _ _ _ _ hb
  exact ⟨_, _, rfl, h1.other h.dk (by decide) hk, hs.other h.dk (by decide) hk⟩

set_option maxRecDepth 100000 in
set_option maxHeartbeats 4000000 in
theorem apart_calls (v : Value) (d : DK) (w : World) (hv : IsDisk w v d) (h1 : d.sure.length ≤ 100000) (h2 : d.wet.length ≤ 100000) :
    Calls Tryz.prog 56 #[v] w fun e w' => ∃ v', e = .returned v' ∧ IsDisk w' v' d ∧ Below w.heap.size w w' := by
  obtain ⟨X1, X2, X3, X4, X5, X6, rfl⟩ := hv.parts
  obtain ⟨Y, hY, hB⟩ := SB2.new w hv
  have hsd : SL w 9 1 (.slice X1 X2 X3) d.sure.length (d.sure.map Value.string) ∧ SL w 72 2 (.slice X4 X5 X6) d.wet.length (wetCells d.wet) := by
    obtain ⟨_, _, e, a, b⟩ := hv
    simp only [Value.agg.injEq, Array.mk.injEq, List.cons.injEq] at e
    obtain ⟨rfl, rfl, _⟩ := e
    exact ⟨a, b⟩
  have C1 := Lib.hid (fun W (hb : Below w.heap.size w W) => Dsk.clone_calls (.slice X1 X2 X3) d.sure W (hsd.1.below hb) (by omega))
  have C2 := Lib.hid (fun W (hb : Below w.heap.size w W) => clonew_calls (.slice X4 X5 X6) d.wet W (hsd.2.below hb) h2)
  have HY := Lib.hid hY
  have HB := Lib.hid hB
  obtain ⟨⟨p0, p1, p2, p3⟩, f0, f1, f2, f3⟩ := box4 hB.dk
  clear hY hB hsd hv h1 h2
  go_enter Tryz.func56, Tryz.ntmps56
  go_upto_region 1 with (fail)
  rw [← HY.out]
  clear HY
  go_wp2_with fail
  (with_reducible refine (C1.out _ HB.out.below).mono ?_)
  rintro e w1 ⟨u, rfl, hu, hb1⟩
  obtain ⟨U1, U2, rfl, hU3, hU4⟩ := SL.of_own hu
  have HB1 := Lib.hid (HB.out.more hb1)
  obtain ⟨Z1, hZ1, hz1⟩ := HB1.out.put0 ⟨U1, U2, rfl, hU3, hU4⟩
  have HZ1 := Lib.hid hZ1
  have HQ1 := Lib.hid hz1
  clear hu hb1 hU3 hU4 hZ1 hz1 p0 p1 p2 p3 f0 f1 f2 f3
  obtain ⟨⟨p0, p1, p2, p3⟩, f0, f1, f2, f3⟩ := box4 HB1.out.dk
  go_upto_region 2 with (fail)
  rw [HZ1.out]
  clear p0 p1 p2 p3 f0 f1 f2 f3 HZ1
  obtain ⟨⟨p0, p1, p2, p3⟩, f0, f1, f2, f3⟩ := box4 HQ1.out.dk
  go_wp2_with fail
  (with_reducible refine (C2.out _ HQ1.out.below).mono ?_)
  rintro e w2 ⟨u2, rfl, hu2, hb2⟩
  obtain ⟨V1, V2, rfl, hV3, hV4⟩ := hu2
  have HB2 := Lib.hid (HQ1.out.more hb2)
  obtain ⟨Z2, hZ2, hz2⟩ := HB2.out.put1 ⟨V1, V2, rfl, hV3, hV4⟩
  have HZ2 := Lib.hid hZ2
  have HQ2 := Lib.hid hz2
  clear hb2 hV3 hV4 hZ2 hz2 p0 p1 p2 p3 f0 f1 f2 f3
  obtain ⟨⟨p0, p1, p2, p3⟩, f0, f1, f2, f3⟩ := box4 HB2.out.dk
  go_upto_region 3 with (fail)
  rw [HZ2.out]
  clear p0 p1 p2 p3 f0 f1 f2 f3 HZ2
  obtain ⟨⟨p0, p1, p2, p3⟩, f0, f1, f2, f3⟩ := box4 HQ2.out.dk
  obtain ⟨⟨r0, r1, r2, r3⟩, g0, g1, g2, g3⟩ := box4 HQ2.out.zr
  obtain ⟨X7, e7, hb7, hk7, hB7⟩ := box_store4 HQ2.out.zr (.slice U1 d.sure.length U2) (.slice V1 d.wet.length V2) (.bool d.dead) (.int .i64 d.left)
  have HX7 := Lib.hid e7
  have HB7 := Lib.hid (And.intro (HQ2.out.isd.other HQ2.out.zr (by decide) (by decide) hk7) (hB7 _ _ HQ2.out.below (by omega)))
  obtain ⟨⟨s0, s1, s2, s3⟩, _⟩ := box4 hb7
  clear e7 hb7 hk7 hB7
  go_wp2_with fail
  rw [HX7.out]
  exact bodyPost_ret (v := .agg #[.slice U1 d.sure.length U2, .slice V1 d.wet.length V2, .bool d.dead, .int .i64 d.left]) (by simp [results, Tryz.results56, go_sem, s0, s1, s2, s3]) rfl ⟨_, rfl, HB7.out.1, HB7.out.2⟩

/-- The shape that a disk begins with. -/
def shapeR (d : DK) : Sh × Int := if rdE d 0 = 12 then (zeroS, 12) else if ¬ (isS (headS d) = true ∧ (d.sure.length : Int) = sizeX (parseS (headS d))) then (zeroS, 14) else (parseS (headS d), 0)

set_option maxRecDepth 100000 in
set_option maxHeartbeats 8000000 in
theorem shape_calls (v : Value) (d : DK) (w : World) (hv : IsDisk w v d) (hok : d.ok) :
    Calls Tryz.prog 51 #[v] w fun e w' => e = .returned (.tuple #[shV (shapeR d).1, .int .i64 (shapeR d).2]) ∧ Below w.heap.size w w' := by
  obtain ⟨X1, X2, X3, X4, X5, X6, rfl⟩ := hv.parts
  obtain ⟨n, hn⟩ : ∃ n, n = d.sure.length := ⟨_, rfl⟩
  have hX2 : X2 = n := by
    obtain ⟨_, _, e, ⟨_, _, e2, _⟩, _⟩ := hv
    simp only [Value.agg.injEq, Array.mk.injEq, List.cons.injEq] at e
    rw [← e.1] at e2
    injection e2 with _ e3
    rw [e3, hn]
  subst hX2
  obtain ⟨Y, hY⟩ : ∃ Y, Y = (w.alloc (.cells #[.slice X1 X2 X3, .slice X4 X5 X6, .bool d.dead, .int .i64 d.left] 28)).alloc (.cells #[.int .i64 0, .int .i64 0] 30) := ⟨_, rfl⟩
  have hB : Below w.heap.size w Y := by rw [hY]; exact Dsk.below_trans' (below_one _ _) (below_one _ _)
  have hdk : Y.heap[w.heap.size]? = some (.cells #[.slice X1 X2 X3, .slice X4 X5 X6, .bool d.dead, .int .i64 d.left] 28 (0, 0)) := by rw [hY]; exact box_kept _ (heap_alloc_new w _) (below_one _ _)
  have hzr : SBox Y (w.heap.size + 1) zeroS := by
    have h := heap_alloc_new (w.alloc (.cells #[.slice X1 X2 X3, .slice X4 X5 X6, .bool d.dead, .int .i64 d.left] 28)) (.cells #[.int .i64 0, .int .i64 0] 30)
    rw [← hY, show (w.alloc (.cells #[.slice X1 X2 X3, .slice X4 X5 X6, .bool d.dead, .int .i64 d.left] 28)).heap.size = w.heap.size + 1 by simp] at h
    exact h
  obtain ⟨S, hS⟩ : ∃ S, S = headS d := ⟨_, rfl⟩
  have hS2 : rdS d 0 = strB S := by rw [hS]; unfold headS; rw [strB_of]
  obtain ⟨E, hE⟩ : ∃ E, E = rdE d 0 := ⟨_, rfl⟩
  have CR := Dsk.read_calls _ d 0 Y (hv.below hB) hok
  rw [hS2, ← hE] at CR
  have HSR : Hid (shapeR d = if E = 12 then (zeroS, 12) else if ¬ (isS S = true ∧ (X2 : Int) = sizeX (parseS S)) then (zeroS, 14) else (parseS S, 0)) := Lib.hid (by unfold shapeR; rw [← hS, ← hE, hn])
  obtain ⟨⟨p0, p1, p2, p3⟩, _⟩ := box4 hdk
  have CR := Lib.hid CR
  have HY := Lib.hid hY
  have HB := Lib.hid hB
  have HDK := Lib.hid hdk
  have HZR := Lib.hid hzr
  obtain ⟨y, hy⟩ : ∃ y, y = parseS S := ⟨_, rfl⟩
  obtain ⟨ok, hko⟩ : ∃ b, b = isS S := ⟨_, rfl⟩
  have CP := fun W => parse_calls S W
  rw [← hy, ← hko] at CP
  rw [← hy, ← hko] at HSR
  have CP := Lib.hid CP
  have CZ := fun W => size_calls y W
  obtain ⟨N, hN⟩ : ∃ N, N = sizeX y := ⟨_, rfl⟩
  rw [show placeN y y.pages = N from hN.symm] at CZ
  rw [← hN] at HSR
  have CZ := Lib.hid CZ
  unfold shV at CP CZ ⊢
  clear hY hB hdk hzr hS hS2 hE hv hok hn hy hko hN
  go_enter Tryz.func51, Tryz.ntmps51
  go_upto_region 1 with (fail)
  rw [← HY.out]
  clear HY
  by_cases h12 : E = 12
  · subst h12
    rw [if_pos rfl] at HSR
    go_wp2_with fail
    (with_reducible refine CR.out.mono ?_)
    rintro e w1 ⟨rfl, hB1⟩
    have hz := HZR.out.below hB1
    obtain ⟨Z, hZ, hzb, hzo⟩ := store2 hz zeroS
    have HF : Hid (Below w.heap.size w Z) := Lib.hid (Only.after (Dsk.below_trans' HB.out hB1) hzo (by omega))
    have kf := hz.free
    have k0 := hz.c0
    have k1 := hz.c1
    have q0 := hzb.c0
    have q1 := hzb.c1
    unfold zeroS at hZ k0 k1 q0 q1
    dsimp only at hZ k0 k1 q0 q1
    have HZ := Lib.hid hZ
    clear hB1 hz hZ hzb hzo
    go_wp2_with fail
    rw [HZ.out]
    exact bodyPost_ret (v := .tuple #[.agg #[.int .i64 0, .int .i64 0], .int .i64 12]) (by simp [results, Tryz.results51, go_sem, q0, q1]) rfl ⟨by rw [HSR.out]; rfl, HF.out⟩
  · have he12 : (E == 12) = false := by simpa using h12
    rw [if_neg h12] at HSR
    clear h12
    have z1 : True := trivial
    cases ok with
    | false =>
      rw [if_pos (by simp)] at HSR
      go_wp2_with fail
      (with_reducible refine CR.out.mono ?_)
      rintro e w1 ⟨rfl, hB1⟩
      have HB1 := Lib.hid hB1
      clear hB1 p0 p1 p2 p3
      go_wp2_with fail
      (with_reducible refine (CP.out _).mono ?_)
      rintro e w2 ⟨rfl, hB2⟩
      obtain ⟨Y3, hY3⟩ : ∃ Y3, Y3 = w2.alloc (.cells #[.int .i64 y.pages, .int .i64 y.journal] 30) := ⟨_, rfl⟩
      have hby : Below w2.heap.size w2 Y3 := by rw [hY3]; exact below_one _ _
      have hyb : SBox Y3 w2.heap.size y := by rw [hY3]; exact SBox.new w2 y
      have hb3 := Dsk.below_trans' (Dsk.below_trans' HB1.out hB2) hby
      have HB3 := Lib.hid hb3
      have HYB := Lib.hid hyb
      have HY3 := Lib.hid hY3
      obtain ⟨G, hG⟩ : ∃ G, G = w2.heap.size := ⟨_, rfl⟩
      have HG := Lib.hid hG.symm
      rw [← hG] at HYB
      clear hby hyb hb3 hB2 hY3 hG
      go_upto_region 5 with (fail)
      rw [← HY3.out]
      rw [HG.out]
      clear HY3
      have q := fun dd os => Dsk.below_trans' HB3.out (below_regrown Y3 dd os)
      have p0 := fun dd os => (box4 (box_kept _ HDK.out (q dd os))).1.1
      have t0 := fun dd os => (HYB.out.below (below_regrown Y3 dd os)).c0
      have t1 := fun dd os => (HYB.out.below (below_regrown Y3 dd os)).c1
      have D1 := Lib.hid (rg CZ.out Y3)
      clear q
      refine wp_region_quiet_below (by kernel_rfl) (by kernel_rfl) ?_
      (try simp only [List.append_eq, List.cons_append, List.nil_append])
      repeat (first | go_big_quiet_step (first | (with_reducible exact D1.out _ _)) | quiet_step (first | (with_reducible exact D1.out _ _)))
      refine wpQuiet_nil ?_
      intro _ hw'
      obtain ⟨⟨dq, osq⟩, hw''⟩ := hw'
      subst hw''
      have HB4 := Lib.hid (Dsk.below_trans' HB3.out (below_regrown Y3 dq osq))
      have HYB4 := Lib.hid (HYB.out.below (below_regrown Y3 dq osq))
      generalize grow (redrawn Y3 dq) osq = W1 at *
      clear p0 t0 t1 D1
      have hz := HZR.out.below HB4.out
      obtain ⟨Z, hZ, hzb, hzo⟩ := store2 hz zeroS
      have HF : Hid (Below w.heap.size w Z) := Lib.hid (Only.after (Dsk.below_trans' HB.out HB4.out) hzo (by omega))
      have kf := hz.free
      have k0 := hz.c0
      have k1 := hz.c1
      have q0 := hzb.c0
      have q1 := hzb.c1
      unfold zeroS at hZ k0 k1 q0 q1
      dsimp only at hZ k0 k1 q0 q1
      have HZ := Lib.hid hZ
      clear hz hZ hzb hzo
      go_wp2_with fail
      rw [HZ.out]
      exact bodyPost_ret (v := .tuple #[.agg #[.int .i64 0, .int .i64 0], .int .i64 14]) (by simp [results, Tryz.results51, go_sem, q0, q1]) rfl ⟨by rw [HSR.out]; rfl, HF.out⟩
    | true =>
      by_cases hN : (X2 : Int) = N
      · have hNb : ((X2 : Int) != N) = false := by simpa using hN
        rw [if_neg (by simp [hN])] at HSR
        clear hN
        go_wp2_with fail
        (with_reducible refine CR.out.mono ?_)
        rintro e w1 ⟨rfl, hB1⟩
        have HB1 := Lib.hid hB1
        clear hB1 p0 p1 p2 p3
        go_wp2_with fail
        (with_reducible refine (CP.out _).mono ?_)
        rintro e w2 ⟨rfl, hB2⟩
        obtain ⟨Y3, hY3⟩ : ∃ Y3, Y3 = w2.alloc (.cells #[.int .i64 y.pages, .int .i64 y.journal] 30) := ⟨_, rfl⟩
        have hby : Below w2.heap.size w2 Y3 := by rw [hY3]; exact below_one _ _
        have hyb : SBox Y3 w2.heap.size y := by rw [hY3]; exact SBox.new w2 y
        have hb3 := Dsk.below_trans' (Dsk.below_trans' HB1.out hB2) hby
        have HB3 := Lib.hid hb3
        have HYB := Lib.hid hyb
        have HY3 := Lib.hid hY3
        obtain ⟨G, hG⟩ : ∃ G, G = w2.heap.size := ⟨_, rfl⟩
        have HG := Lib.hid hG.symm
        rw [← hG] at HYB
        clear hby hyb hb3 hB2 hY3 hG
        go_upto_region 5 with (fail)
        rw [← HY3.out]
        rw [HG.out]
        clear HY3
        have q := fun dd os => Dsk.below_trans' HB3.out (below_regrown Y3 dd os)
        have p0 := fun dd os => (box4 (box_kept _ HDK.out (q dd os))).1.1
        have t0 := fun dd os => (HYB.out.below (below_regrown Y3 dd os)).c0
        have t1 := fun dd os => (HYB.out.below (below_regrown Y3 dd os)).c1
        have D1 := Lib.hid (rg CZ.out Y3)
        clear q
        refine wp_region_quiet_below (by kernel_rfl) (by kernel_rfl) ?_
        (try simp only [List.append_eq, List.cons_append, List.nil_append])
        repeat (first | go_big_quiet_step (first | (with_reducible exact D1.out _ _)) | quiet_step (first | (with_reducible exact D1.out _ _)))
        refine wpQuiet_nil ?_
        intro _ hw'
        obtain ⟨⟨dq, osq⟩, hw''⟩ := hw'
        subst hw''
        have HB4 := Lib.hid (Dsk.below_trans' HB3.out (below_regrown Y3 dq osq))
        have HYB4 := Lib.hid (HYB.out.below (below_regrown Y3 dq osq))
        generalize grow (redrawn Y3 dq) osq = W1 at *
        clear p0 t0 t1 D1
        have hz := HZR.out.below HB4.out
        obtain ⟨Z, hZ, hzb, hzo⟩ := store2 hz y
        have HF : Hid (Below w.heap.size w Z) := Lib.hid (Only.after (Dsk.below_trans' HB.out HB4.out) hzo (by omega))
        have kf := hz.free
        have k0 := hz.c0
        have k1 := hz.c1
        have q0 := hzb.c0
        have q1 := hzb.c1
        have u0 := HYB4.out.c0
        have u1 := HYB4.out.c1
        unfold zeroS at k0 k1
        dsimp only at k0 k1
        have HZ := Lib.hid hZ
        clear hz hZ hzb hzo
        go_wp2_with fail
        rw [HZ.out]
        exact bodyPost_ret (v := .tuple #[.agg #[.int .i64 y.pages, .int .i64 y.journal], .int .i64 0]) (by simp [results, Tryz.results51, go_sem, q0, q1]) rfl ⟨by rw [HSR.out], HF.out⟩
      · have hNb : ((X2 : Int) != N) = true := by simpa using hN
        rw [if_pos (by simp [hN])] at HSR
        clear hN
        go_wp2_with fail
        (with_reducible refine CR.out.mono ?_)
        rintro e w1 ⟨rfl, hB1⟩
        have HB1 := Lib.hid hB1
        clear hB1 p0 p1 p2 p3
        go_wp2_with fail
        (with_reducible refine (CP.out _).mono ?_)
        rintro e w2 ⟨rfl, hB2⟩
        obtain ⟨Y3, hY3⟩ : ∃ Y3, Y3 = w2.alloc (.cells #[.int .i64 y.pages, .int .i64 y.journal] 30) := ⟨_, rfl⟩
        have hby : Below w2.heap.size w2 Y3 := by rw [hY3]; exact below_one _ _
        have hyb : SBox Y3 w2.heap.size y := by rw [hY3]; exact SBox.new w2 y
        have hb3 := Dsk.below_trans' (Dsk.below_trans' HB1.out hB2) hby
        have HB3 := Lib.hid hb3
        have HYB := Lib.hid hyb
        have HY3 := Lib.hid hY3
        obtain ⟨G, hG⟩ : ∃ G, G = w2.heap.size := ⟨_, rfl⟩
        have HG := Lib.hid hG.symm
        rw [← hG] at HYB
        clear hby hyb hb3 hB2 hY3 hG
        go_upto_region 5 with (fail)
        rw [← HY3.out]
        rw [HG.out]
        clear HY3
        have q := fun dd os => Dsk.below_trans' HB3.out (below_regrown Y3 dd os)
        have p0 := fun dd os => (box4 (box_kept _ HDK.out (q dd os))).1.1
        have t0 := fun dd os => (HYB.out.below (below_regrown Y3 dd os)).c0
        have t1 := fun dd os => (HYB.out.below (below_regrown Y3 dd os)).c1
        have D1 := Lib.hid (rg CZ.out Y3)
        clear q
        refine wp_region_quiet_below (by kernel_rfl) (by kernel_rfl) ?_
        (try simp only [List.append_eq, List.cons_append, List.nil_append])
        repeat (first | go_big_quiet_step (first | (with_reducible exact D1.out _ _)) | quiet_step (first | (with_reducible exact D1.out _ _)))
        refine wpQuiet_nil ?_
        intro _ hw'
        obtain ⟨⟨dq, osq⟩, hw''⟩ := hw'
        subst hw''
        have HB4 := Lib.hid (Dsk.below_trans' HB3.out (below_regrown Y3 dq osq))
        have HYB4 := Lib.hid (HYB.out.below (below_regrown Y3 dq osq))
        generalize grow (redrawn Y3 dq) osq = W1 at *
        clear p0 t0 t1 D1
        have hz := HZR.out.below HB4.out
        obtain ⟨Z, hZ, hzb, hzo⟩ := store2 hz zeroS
        have HF : Hid (Below w.heap.size w Z) := Lib.hid (Only.after (Dsk.below_trans' HB.out HB4.out) hzo (by omega))
        have kf := hz.free
        have k0 := hz.c0
        have k1 := hz.c1
        have q0 := hzb.c0
        have q1 := hzb.c1
        unfold zeroS at hZ k0 k1 q0 q1
        dsimp only at hZ k0 k1 q0 q1
        have HZ := Lib.hid hZ
        clear hz hZ hzb hzo
        go_wp2_with fail
        rw [HZ.out]
        exact bodyPost_ret (v := .tuple #[.agg #[.int .i64 0, .int .i64 0], .int .i64 14]) (by simp [results, Tryz.results51, go_sem, q0, q1]) rfl ⟨by rw [HSR.out]; rfl, HF.out⟩

end Go.Proofs.YtnbbijpmkhdgpaaGreat.Vlt

/- PJour -/
namespace Go.Proofs.YtnbbijpmkhdgpaaGreat.Vlt
open Go.RowKit Go.Sort
open Dsk
open Ent (isE parseE)

def logF (d : DK) (i : Nat) : Nat → Ent.En := fun j => if j < i then parseE (secK d j) else Ent.zeroE

/-- What lies between the rounds of journal. -/
structure JB (w W : World) (vs vw : Value) (d : DK) (J i : Nat) : Prop where
  dk : W.heap[w.heap.size]? = some (.cells #[vs, vw, .bool d.dead, .int .i64 d.left] 28 (0, 0))
  isd : IsDisk W (.agg #[vs, vw, .bool d.dead, .int .i64 d.left]) d
  row : EnRow W (w.heap.size + 2) J (logF d i)
  below : Below w.heap.size w W
theorem JB.more {w W W' : World} {vs vw : Value} {d : DK} {J i : Nat} (h : JB w W vs vw d J i) (k : Below W.heap.size W W') : JB w W' vs vw d J i :=
  ⟨box_kept _ h.dk k, h.isd.below k, h.row.below k, Dsk.below_trans' h.below k⟩
theorem JB.put {w W : World} {vs vw : Value} {d : DK} {J i : Nat} (h : JB w W vs vw d J i) (hi : i < J) {x : Ent.En} (hx : x = parseE (secK d i)) :
    ∃ X, ((((W.setCell ⟨w.heap.size + 2, i * 5, none⟩ (.int .i64 x.seq)).setCell ⟨w.heap.size + 2, i * 5 + 1, none⟩ (.int .i64 x.index)).setCell ⟨w.heap.size + 2, i * 5 + 2, none⟩ (.bool x.last)).setCell ⟨w.heap.size + 2, i * 5 + 3, none⟩ (.int .i64 x.no)).setCell ⟨w.heap.size + 2, i * 5 + 4, none⟩ (.string (strB x.data)) = X ∧ JB w X vs vw d J (i + 1) := by
  obtain ⟨X, hX, hr, hk, hB⟩ := h.row.put hi x
  obtain ⟨cur, hc, _⟩ := h.row.row
  refine ⟨X, hX, (hk _ (by omega)).trans h.dk, h.isd.other hc (by decide) (by decide) hk, ?_, hB _ _ h.below (by omega)⟩
  have e : (fun j => if j = i then x else logF d i j) = logF d (i + 1) := by
    funext j
    unfold logF
    by_cases e : j = i
    · rw [if_pos e, if_pos (by omega), hx, e]
    · rw [if_neg e]
      by_cases e2 : j < i
      · rw [if_pos e2, if_pos (by omega)]
      · rw [if_neg e2, if_neg (by omega)]
  rw [← e]
  exact hr

theorem make_ens (n : Nat) (hn : n ≤ 100000) (W : World) : ∃ Z : Array Value, (Instr.makeSlice 89 (.int .i64 (n : Nat)) (.int .i64 (n : Nat))).run Tryz.prog W = .ok (.slice (some ⟨W.heap.size, 0, none⟩) n n) (W.alloc (.cells Z 55)) ∧ EnRow (W.alloc (.cells Z 55)) W.heap.size n (fun _ => Ent.zeroE) := by
  obtain ⟨i0, hi, hz0, hz1, hz2⟩ := info_parts info55
  refine ⟨madeCells (Value.cells (.agg #[.int .i64 0, .int .i64 0, .bool false, .int .i64 0, .string ⟨#[]⟩])) (n * 5), ?_, ⟨_, heap_alloc_new W _, size_madeCells _ _, fun i hi => ?_⟩⟩
  · have := run_make (P := Tryz.prog) W 89 55 i0 _ Tryz.underlying89 hi hz0 .i64 .i64 (n : Int) (n : Int) (by omega) (by omega) (by rw [hz2]; omega) (by omega)
    rw [this, hz1]
    rfl
  · have h : ∀ r, r < 5 → (madeCells (Value.cells (.agg #[.int .i64 0, .int .i64 0, .bool false, .int .i64 0, .string ⟨#[]⟩])) (n * 5))[i * 5 + r]? = some ((Value.cells (.agg #[.int .i64 0, .int .i64 0, .bool false, .int .i64 0, .string ⟨#[]⟩]))[r]!) := by
      intro r hr
      have e : (i * 5 + r) % (Value.cells (.agg #[.int .i64 0, .int .i64 0, .bool false, .int .i64 0, .string ⟨#[]⟩])).size = r := by
        rw [show (Value.cells (.agg #[.int .i64 0, .int .i64 0, .bool false, .int .i64 0, .string ⟨#[]⟩])).size = 5 from rfl]
        omega
      have hl : i * 5 + r < n * 5 := by omega
      simp only [madeCells, Array.getElem?_map, Array.getElem?_range, hl, if_true, Option.map_some, e]
    exact ⟨h 0 (by omega), h 1 (by omega), h 2 (by omega), h 3 (by omega), h 4 (by omega)⟩

set_option maxRecDepth 100000 in
set_option maxHeartbeats 8000000 in
theorem journal_calls (v : Value) (d : DK) (x : Sh) (w : World) (hv : IsDisk w v d) (hok : d.ok) {J : Nat} (hJ : x.journal = (J : Nat)) (hJ2 : J ≤ 256) :
    Calls Tryz.prog 52 #[v, shV x] w fun e w' => ∃ g, e = .returned (.slice (some ⟨g, 0, none⟩) J J) ∧ EnRow w' g J (logF d J) ∧ w.heap.size ≤ g ∧ Below w.heap.size w w' := by
  obtain ⟨X1, X2, X3, X4, X5, X6, rfl⟩ := hv.parts
  obtain ⟨Y0, hY0⟩ : ∃ Y0, Y0 = (w.alloc (.cells #[.slice X1 X2 X3, .slice X4 X5 X6, .bool d.dead, .int .i64 d.left] 28)).alloc (.cells #[.int .i64 x.pages, .int .i64 (J : Nat)] 30) := ⟨_, rfl⟩
  have hs0 : Y0.heap.size = w.heap.size + 2 := by rw [hY0]; simp
  have hb0 : Below w.heap.size w Y0 := by rw [hY0]; exact Dsk.below_trans' (below_one _ _) (below_one _ _)
  have hdk : Y0.heap[w.heap.size]? = some (.cells #[.slice X1 X2 X3, .slice X4 X5 X6, .bool d.dead, .int .i64 d.left] 28 (0, 0)) := by rw [hY0]; exact box_kept _ (heap_alloc_new w _) (below_one _ _)
  have hsh : Y0.cell? ⟨w.heap.size + 1, 1, none⟩ = some (.int .i64 (J : Nat)) := by
    have h := heap_alloc_new (w.alloc (.cells #[.slice X1 X2 X3, .slice X4 X5 X6, .bool d.dead, .int .i64 d.left] 28)) (.cells #[.int .i64 x.pages, .int .i64 (J : Nat)] 30)
    rw [← hY0, show (w.alloc (.cells #[.slice X1 X2 X3, .slice X4 X5 X6, .bool d.dead, .int .i64 d.left] 28)).heap.size = w.heap.size + 1 by simp] at h
    rw [cell_of_row _ _ _ _ _ _ h]
    rfl
  obtain ⟨Z, hmk, hrow⟩ := make_ens J (by omega) Y0
  obtain ⟨Y, hY⟩ : ∃ Y, Y = Y0.alloc (.cells Z 55) := ⟨_, rfl⟩
  rw [← hY] at hmk hrow
  rw [hs0] at hmk hrow
  have hjb : JB w Y (.slice X1 X2 X3) (.slice X4 X5 X6) d J 0 := by
    have hB : Below Y0.heap.size Y0 Y := by rw [hY]; exact below_one _ _
    refine ⟨box_kept _ hdk hB, hv.below (Dsk.below_trans' hb0 hB), ?_, Dsk.below_trans' hb0 hB⟩
    have e : logF d 0 = fun _ => Ent.zeroE := by funext j; unfold logF; rw [if_neg (by omega)]
    rw [e]
    exact hrow
  have HY0 := Lib.hid hY0
  have HJB := Lib.hid hjb
  have HOK := Lib.hid hok
  clear hY hY0 hs0 hb0 hdk hrow hjb hv hok
  unfold shV
  rw [hJ]
  clear hJ
  go_enter Tryz.func52, Tryz.ntmps52
  go_upto_region 1 with (fail)
  rw [← HY0.out]
  clear HY0
  go_wp2_with fail
  clear hmk hsh
  go_loopw [14] (fun u wr => ∃ i : Nat, i ≤ J ∧ u = .int .i64 i ∧ JB w wr (.slice X1 X2 X3) (.slice X4 X5 X6) d J i) (fun u _ => J - (intOf u).toNat)
  case atStart => exact ⟨0, Nat.zero_le _, rfl, HJB.out⟩
  case round =>
    obtain ⟨i, hi, rfl, hb⟩ := hrel
    have HT := Lib.hid hb
    clear hb
    by_cases hlt : i < J
    · have hi1 : (0 : Int) ≤ (i : Int) := by omega
      have hi2 : (i : Int) < (J : Int) := by omega
      obtain ⟨L, hL⟩ : ∃ L, L = logN (i : Int) := ⟨_, rfl⟩
      have hL2 : L = 1 + (i : Int) := by rw [hL]; unfold logN wrap64; omega
      have q1 := fun dd os => HT.out.more (below_regrown wr dd os)
      have i0 := fun dd os => (box4 (q1 dd os).dk).1.1
      have i1 := fun dd os => (box4 (q1 dd os).dk).1.2.1
      have i2 := fun dd os => (box4 (q1 dd os).dk).1.2.2.1
      have i3 := fun dd os => (box4 (q1 dd os).dk).1.2.2.2
      have D1 := rg0 (log_calls (i : Int)) wr
      rw [← hL] at D1
      have D2 := fun dd os => Calls.regrown_of (Dsk.read_calls _ d L (grow (redrawn wr dd) os) (q1 dd os).isd HOK.out)
      obtain ⟨S, hS⟩ : ∃ S, S = secK d i := ⟨_, rfl⟩
      have hS2 : rdS d L = strB S := by rw [hS, hL2]; unfold secK; rw [strB_of]
      rw [hS2] at D2
      obtain ⟨RE, hRE⟩ : ∃ r, r = rdE d L := ⟨_, rfl⟩
      rw [← hRE] at D2
      have D1 := Lib.hid D1
      have D2 := Lib.hid D2
      have HSS := Lib.hid hS
      clear q1 hS2 hRE hS hL2 hL
      go_wp2_with fail
      refine wp_region_quiet_below (by kernel_rfl) (by kernel_rfl) ?_
      (try simp only [List.append_eq, List.cons_append, List.nil_append])
      repeat (first | go_big_quiet_step (first | (with_reducible exact D1.out _ _) | (with_reducible exact D2.out _ _)))
      refine wpQuiet_nil ?_
      intro _ hw'
      obtain ⟨⟨dq, osq⟩, hw''⟩ := hw'
      subst hw''
      have HT2 := Lib.hid (HT.out.more (below_regrown wr dq osq))
      generalize grow (redrawn wr dq) osq = W1 at *
      clear i0 i1 i2 i3 D1 D2 HT
      go_wp2_with fail
      (with_reducible refine (Ent.parse_calls S _).mono ?_)
      rintro e w3 ⟨rfl, hB3⟩
      have HT3 := Lib.hid (HT2.out.more hB3)
      have hxk : parseE S = parseE (secK d i) := by rw [HSS.out]
      obtain ⟨y, hy⟩ : ∃ y, y = parseE S := ⟨_, rfl⟩
      obtain ⟨ok, hoke⟩ : ∃ b, b = isE S := ⟨_, rfl⟩
      rw [← hy, ← hoke]
      obtain ⟨X, hX, hjb⟩ := HT3.out.put hlt (x := y) (by rw [hy, hxk])
      have HX := Lib.hid hX
      have HJ := Lib.hid hjb
      have kf := HT3.out.row.free
      obtain ⟨k0, k1, k2, k3, k4⟩ := HT3.out.row.at_ hlt
      unfold Ent.enV
      clear hB3 hxk hy hoke hX hjb HT2
      go_wp2_with fail
      rw [HX.out]
      exact ⟨⟨i + 1, by omega, by go_num, HJ.out⟩, by simp [intOf]; omega⟩
    · have hnl : decide ((i : Int) < (J : Int)) = false := by simp; omega
      obtain rfl : i = J := by omega
      go_wp2_with fail
      go_ret
      exact ⟨_, rfl, HT.out.row, by omega, HT.out.below⟩

end Go.Proofs.YtnbbijpmkhdgpaaGreat.Vlt
