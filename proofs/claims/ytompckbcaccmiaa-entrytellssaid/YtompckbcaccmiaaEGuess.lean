/- entry.guess, Parse: what each call does. No statement is proved here. -/
import Derived.Test.YtompckbcaccmiaaERight
import Derived.BigRegion
import Derived.Deep.RegionWith
namespace Go.Proofs.Ytompckbcaccmiaa
open Go.RowKit Go.Sort
open Wire (TK TP But twoL fourL numV numS markS)
open Crc (sealB Only)

theorem last_calls (s : List UInt8) (w : World) : Calls Try.prog 34 #[.string (strB s), .string ⟨#[74, 69, 78, 68]⟩] w fun e w' => e = .returned (.bool (lastB s)) ∧ w' = w := Nm.prefix_calls s endK w

theorem set1 {w : World} {g i : Nat} {v : Value} {y : En} (h : EBox (w.setCell ⟨g, i, none⟩ v) g y) : ∃ w2, w.setCell ⟨g, i, none⟩ v = w2 ∧ EBox w2 g y ∧ Only g w w2 :=
  ⟨_, rfl, h, (Only.refl g w).setCell _ rfl _⟩
theorem TP.only {ty : TypeId} {w w' : World} {b g : Nat} {t : TK} (h : TP ty w b t) (k : Only g w w') (hb : b ≠ g) : TP ty w' b t := h.keep (k.block b hb)

/-- What lies while an entry is guessed. -/
structure GS (w W : World) (x : En) (t : TK) : Prop where
  z : EBox W w.heap.size zeroE
  x : EBox W (w.heap.size + 1) x
  t : TP 51 W (w.heap.size + 2) t
  below : Below w.heap.size w W
section
variable {w W W' : World} {x y : En} {t u : TK}
theorem GS.but (h : GS w W x t) (ht : TP 51 W' (w.heap.size + 2) u) (hb : But (w.heap.size + 2) W W') : GS w W' x u :=
  ⟨h.z.but hb (by omega), h.x.but hb (by omega), ht, h.below.trans (hb.below (by omega) h.below.size)⟩
theorem GS.only (h : GS w W x t) (hx : EBox W' (w.heap.size + 1) y) (hb : Only (w.heap.size + 1) W W') : GS w W' y t :=
  ⟨h.z.only hb (by omega), hx, TP.only h.t hb (by omega), Only.after h.below hb (by omega)⟩
theorem GS.new (w : World) (b : Bool) (s : List UInt8) : ∃ Y, Y = ((w.alloc (.cells #[.int .i64 0, .int .i64 0, .bool false, .int .i64 0, .string ⟨#[]⟩] 23)).alloc (.cells #[.int .i64 0, .int .i64 0, .bool b, .int .i64 0, .string ⟨#[]⟩] 23)).alloc (.cells #[.string (strB s), .bool false] 51) ∧ GS w Y ⟨0, 0, b, 0, []⟩ ⟨s, false⟩ := by
  refine ⟨_, rfl, ?_, ?_, ?_, below_trans' (below_trans' (below_one _ _) (below_one _ _)) (below_one _ _)⟩
  · exact ((EBox.new w zeroE).below (below_one _ _)).below (below_one _ _)
  · have := EBox.new (w.alloc (.cells #[.int .i64 0, .int .i64 0, .bool false, .int .i64 0, .string ⟨#[]⟩] 23)) ⟨0, 0, b, 0, []⟩
    rw [show (w.alloc (.cells #[.int .i64 0, .int .i64 0, .bool false, .int .i64 0, .string ⟨#[]⟩] 23)).heap.size = w.heap.size + 1 by simp] at this
    exact this.below (below_one _ _)
  · have := TP.new 51 ((w.alloc (.cells #[.int .i64 0, .int .i64 0, .bool false, .int .i64 0, .string ⟨#[]⟩] 23)).alloc (.cells #[.int .i64 0, .int .i64 0, .bool b, .int .i64 0, .string ⟨#[]⟩] 23)) s false
    rw [show ((w.alloc (.cells #[.int .i64 0, .int .i64 0, .bool false, .int .i64 0, .string ⟨#[]⟩] 23)).alloc (.cells #[.int .i64 0, .int .i64 0, .bool b, .int .i64 0, .string ⟨#[]⟩] 23)).heap.size = w.heap.size + 2 by simp] at this
    exact this
end

set_option maxRecDepth 100000 in
set_option maxHeartbeats 8000000 in
theorem guess_calls (s : List UInt8) (w : World) :
    Calls Try.prog 20 #[.string (strB s)] w fun e w' => e = .returned (enV (guessE s)) ∧ Below w.heap.size w w' := by
  obtain ⟨Y, hY, hG⟩ := GS.new w (lastB s) s
  have HY := Lib.hid hY
  have HG := Lib.hid hG
  clear hY hG
  go_enter Try.func20, Try.ntmps20
  go_wp2_with fail
  (with_reducible refine (last_calls s _).mono ?_)
  rintro e w1 ⟨rfl, rfl⟩
  go_wp2_with fail
  (with_reducible refine (kind_calls (lastB s) _).mono ?_)
  rintro e w1 ⟨rfl, rfl⟩
  rw [← HY.out]
  go_wp2_with fail
  (with_reducible refine (Wire.mark_calls (w.heap.size + 2) (kindL (lastB s)) ⟨s, false⟩ _ HG.out.t).mono ?_)
  rintro e w2 ⟨rfl, hT2, hB2⟩
  replace HG : Hid (GS w w2 ⟨0, 0, lastB s, 0, []⟩ (tapeG s)) := Lib.hid (HG.out.but hT2 hB2)
  clear hT2 hB2 HY
  go_wp2_with fail
  (with_reducible refine (Wire.tfour_calls (w.heap.size + 2) 1 2147483647 (tapeG s) _ HG.out.t).mono ?_)
  rintro e w3 ⟨rfl, hT3, hB3⟩
  replace HG : Hid (GS w w3 ⟨0, 0, lastB s, 0, []⟩ (g1 (tapeG s))) := Lib.hid (HG.out.but hT3 hB3)
  obtain ⟨c0, c1, c2, c3, c4⟩ := HG.out.x.at_
  have kf := HG.out.x.free
  obtain ⟨X, hX, hXb, hXo⟩ := set1 (HG.out.x.setSeq (numV 4 1 2147483647 (tapeG s) : Nat))
  have HX := Lib.hid hX
  have HG' := Lib.hid (HG.out.only hXb hXo)
  clear hT3 hB3 hX hXb hXo
  go_wp2_with fail
  rw [HX.out]
  replace HG := HG'
  clear c0 c1 c2 c3 c4 kf HX HG'
  (with_reducible refine (Wire.ttwo_calls (w.heap.size + 2) 0 255 (g1 (tapeG s)) _ HG.out.t).mono ?_)
  rintro e w4 ⟨rfl, hT4, hB4⟩
  replace HG : Hid (GS w w4 ⟨(numV 4 1 2147483647 (tapeG s) : Nat), 0, lastB s, 0, []⟩ (g2 (tapeG s))) := Lib.hid (HG.out.but hT4 hB4)
  obtain ⟨c0, c1, c2, c3, c4⟩ := HG.out.x.at_
  have kf := HG.out.x.free
  obtain ⟨X, hX, hXb, hXo⟩ := set1 (HG.out.x.setIndex (numV 2 0 255 (g1 (tapeG s)) : Nat))
  have HX := Lib.hid hX
  have HG' := Lib.hid (HG.out.only hXb hXo)
  clear hT4 hB4 hX hXb hXo
  go_wp2_with fail
  rw [HX.out]
  replace HG := HG'
  clear c0 c1 c2 c3 c4 kf HX HG'
  (with_reducible refine (Wire.ttwo_calls (w.heap.size + 2) 0 511 (g2 (tapeG s)) _ HG.out.t).mono ?_)
  rintro e w5 ⟨rfl, hT5, hB5⟩
  replace HG : Hid (GS w w5 ⟨(numV 4 1 2147483647 (tapeG s) : Nat), (numV 2 0 255 (g1 (tapeG s)) : Nat), lastB s, 0, []⟩ (g3 (tapeG s))) := Lib.hid (HG.out.but hT5 hB5)
  obtain ⟨c0, c1, c2, c3, c4⟩ := HG.out.x.at_
  have kf := HG.out.x.free
  obtain ⟨X, hX, hXb, hXo⟩ := set1 (HG.out.x.setNo (numV 2 0 511 (g2 (tapeG s)) : Nat))
  have HX := Lib.hid hX
  have HG' := Lib.hid (HG.out.only hXb hXo)
  clear hT5 hB5 hX hXb hXo
  go_wp2_with fail
  rw [HX.out]
  replace HG : Hid (GS w X ⟨(numV 4 1 2147483647 (tapeG s) : Nat), (numV 2 0 255 (g1 (tapeG s)) : Nat), lastB s, (numV 2 0 511 (g2 (tapeG s)) : Nat), []⟩ (g3 (tapeG s))) := HG'
  clear c0 c1 c2 c3 c4 kf HX HG'
  obtain ⟨c0, c1, c2, c3, c4⟩ := HG.out.x.at_
  have kf := HG.out.x.free
  have t0 := HG.out.t.rest
  obtain ⟨X2, hX2, hb2, ho2⟩ := set1 (HG.out.x.setData ((g3 (tapeG s)).rest.take (dataN (lastB s))))
  have HX2 := Lib.hid hX2
  obtain ⟨R, hR⟩ : ∃ R, R = guessE s := ⟨_, rfl⟩
  have HG2 : Hid (GS w X2 R (g3 (tapeG s))) := Lib.hid (by rw [hR]; exact HG.out.only hb2 ho2)
  have HR := Lib.hid hR
  obtain ⟨X3, hX3, hb3, ho3⟩ := store5 HG2.out.z R
  have HX3 := Lib.hid hX3
  have HZ3 := Lib.hid hb3
  have HB3 : Hid (Below w.heap.size w X3) := Lib.hid (Only.after HG2.out.below ho3 (Nat.le_refl _))
  clear hX2 hb2 ho2 hX3 hb3 ho3 hR
  go_region_with (first | (go_at_call 19; (with_reducible refine (dataBytes_calls _ _).mono ?_); rintro e w' ⟨rfl, rfl⟩) | (go_at_call 33; (with_reducible refine (first_calls _ _ _ (Nat.le_trans (dataN_le _) (by omega))).mono ?_); rintro e w' ⟨rfl, rfl⟩))
  all_goals
    rw [HX2.out]
    clear c0 c1 c2 c3 c4 kf t0
    obtain ⟨c0, c1, c2, c3, c4⟩ := HG2.out.x.at_
    obtain ⟨z0, z1, z2, z3, z4⟩ := HG2.out.z.at_
    have kf := HG2.out.z.free
    go_wp2_with fail
    rw [HX3.out]
    clear c0 c1 c2 c3 c4 z0 z1 z2 z3 z4 kf
    obtain ⟨k0, k1, k2, k3, k4⟩ := HZ3.out.at_
    exact bodyPost_ret (v := enV R) (by simp [results, Try.results20, go_sem, enV, k0, k1, k2, k3, k4]) rfl ⟨congrArg (fun r => Ending.returned (enV r)) HR.out, bdrew HB3.out⟩

end Go.Proofs.Ytompckbcaccmiaa
