/- entry.Parse: what each call does. No statement is proved here. -/
import Derived.Test.YtompckbcaccmiaaEGuess
namespace Go.Proofs.Ytompckbcaccmiaa
open Go.RowKit Go.Sort
open Wire (TK TP But twoL fourL numV numS markS)
open Crc (sealB Only)

theorem guess_data (s : List UInt8) : (guessE s).data.length ≤ 208 := by
  show ((g3 (tapeG s)).rest.take (dataN (lastB s))).length ≤ 208
  rw [List.length_take]
  have := dataN_le (lastB s)
  omega
theorem eq_spell (a b : List UInt8) : ((strB a).toList == (strB b).toList) = (a == b) := by rw [strB_toList, strB_toList]

/-- The two boxes of Parse. -/
structure PS (w W : World) (x : En) (g : Nat) : Prop where
  z : EBox W w.heap.size zeroE
  x : EBox W g x
  ne : w.heap.size ≠ g
  below : Below w.heap.size w W
theorem PS.more {w W W' : World} {x : En} {g : Nat} (h : PS w W x g) (hb : Below W.heap.size W W') : PS w W' x g := ⟨h.z.below hb, h.x.below hb, h.ne, below_trans' h.below hb⟩
theorem PS.new {w w1 : World} (x : En) (hB : Below (w.alloc (.cells #[.int .i64 0, .int .i64 0, .bool false, .int .i64 0, .string ⟨#[]⟩] 23)).heap.size (w.alloc (.cells #[.int .i64 0, .int .i64 0, .bool false, .int .i64 0, .string ⟨#[]⟩] 23)) w1) :
    PS w (w1.alloc (.cells (enC x) 23)) x w1.heap.size := by
  have hz : w.heap.size + 1 ≤ w1.heap.size := by simpa using hB.size
  exact ⟨((EBox.new w zeroE).below hB).below (below_one _ _), EBox.new w1 x, by omega, below_trans' (below_trans' (below_one _ _) hB) (below_one _ _)⟩

theorem parse_end {s : List UInt8} {b : Bool} {R : En} (hR : R = parseE s) (hb : b = isE s) : Ending.returned (.tuple #[enV R, .bool b]) = .returned (.tuple #[enV (parseE s), .bool (isE s)]) := by rw [hR, hb]

set_option maxRecDepth 100000 in
set_option maxHeartbeats 8000000 in
theorem parse_calls (s : List UInt8) (w : World) :
    Calls Try.prog 9 #[.string (strB s)] w fun e w' => e = .returned (.tuple #[enV (parseE s), .bool (isE s)]) ∧ Below w.heap.size w w' := by
  obtain ⟨R, hR⟩ : ∃ R, R = guessE s := ⟨_, rfl⟩
  have HD : Hid (R.data.length ≤ 208) := Lib.hid (by rw [hR]; exact guess_data s)
  have HG := guess_calls s
  rw [← hR] at HG
  replace HG := Lib.hid HG
  have HR := Lib.hid hR
  clear hR
  go_enter Try.func9, Try.ntmps9
  go_wp2_with fail
  (with_reducible refine (HG.out _).mono ?_)
  rintro e w1 ⟨rfl, hB1⟩
  have HP := Lib.hid (PS.new R hB1)
  have C1 := Lib.hid (fun W => right_calls R W)
  have C2 := Lib.hid (fun W => print_calls R W (by have := HD.out; omega))
  unfold enC at HP
  unfold enV at C1 C2
  clear hB1 HG
  unfold enV
  go_wp2_with fail
  (with_reducible refine (C1.out _).mono ?_)
  rintro e w2 ⟨rfl, hB2⟩
  replace HP := Lib.hid (PS.more (x := R) HP.out hB2)
  clear hB2 C1
  cases hr : rightE R with
  | false =>
    have e1 : false = isE s := by unfold isE; rw [← HR.out, hr, Bool.false_and]
    have e2 : zeroE = parseE s := by unfold parseE; rw [← e1]; rfl
    obtain ⟨k0, k1, k2, k3, k4⟩ := HP.out.z.at_
    have kf := HP.out.z.free
    obtain ⟨X, hX, hXb, hXo⟩ := store5 HP.out.z zeroE
    have HXX := Lib.hid hX
    have HXB := Lib.hid hXb
    have HXO := Lib.hid (Only.after HP.out.below hXo (Nat.le_refl _))
    have E1 := Lib.hid e1
    have E2 := Lib.hid e2
    clear hX hXb hXo e1 e2
    unfold zeroE at HXX
    go_wp2_with fail
    first | rw [HXX.out] | (have hx := HXX.out; simp only [strB] at hx; rw [hx])
    clear k0 k1 k2 k3 k4 kf HXX
    obtain ⟨k0, k1, k2, k3, k4⟩ := HXB.out.at_
    exact bodyPost_ret (v := .tuple #[enV zeroE, .bool false]) (by simp [results, Try.results9, go_sem, enV, k0, k1, k2, k3, k4]) rfl ⟨parse_end E2.out E1.out, HXO.out⟩
  | true =>
    obtain ⟨c0, c1, c2, c3, c4⟩ := HP.out.x.at_
    go_wp2_with fail
    (with_reducible refine (C2.out _).mono ?_)
    rintro e w3 ⟨rfl, hB3⟩
    replace HP := Lib.hid (HP.out.more hB3)
    have HE := Lib.hid (eq_spell (printL R) s)
    clear hB3 C2 c0 c1 c2 c3 c4
    cases hp : printL R == s with
    | false =>
      have hp' := HE.out.trans hp
      have e1 : false = isE s := by unfold isE; rw [← HR.out, hr, hp]; rfl
      have e2 : zeroE = parseE s := by unfold parseE; rw [← e1]; rfl
      obtain ⟨k0, k1, k2, k3, k4⟩ := HP.out.z.at_
      have kf := HP.out.z.free
      obtain ⟨X, hX, hXb, hXo⟩ := store5 HP.out.z zeroE
      have HXX := Lib.hid hX
      have HXB := Lib.hid hXb
      have HXO := Lib.hid (Only.after HP.out.below hXo (Nat.le_refl _))
      have E1 := Lib.hid e1
      have E2 := Lib.hid e2
      clear hX hXb hXo e1 e2 hp
      unfold zeroE at HXX
      go_wp2_with fail
      first | rw [HXX.out] | (have hx := HXX.out; simp only [strB] at hx; rw [hx])
      clear k0 k1 k2 k3 k4 kf HXX
      obtain ⟨k0, k1, k2, k3, k4⟩ := HXB.out.at_
      exact bodyPost_ret (v := .tuple #[enV zeroE, .bool false]) (by simp [results, Try.results9, go_sem, enV, k0, k1, k2, k3, k4]) rfl ⟨parse_end E2.out E1.out, HXO.out⟩
    | true =>
      have hp' := HE.out.trans hp
      have e1 : true = isE s := by unfold isE; rw [← HR.out, hr, hp]; rfl
      have e2 : R = parseE s := by unfold parseE; rw [← e1, if_pos rfl]; exact HR.out
      obtain ⟨c0, c1, c2, c3, c4⟩ := HP.out.x.at_
      obtain ⟨k0, k1, k2, k3, k4⟩ := HP.out.z.at_
      have kf := HP.out.z.free
      obtain ⟨X, hX, hXb, hXo⟩ := store5 HP.out.z R
      have HXX := Lib.hid hX
      have HXB := Lib.hid hXb
      have HXO := Lib.hid (Only.after HP.out.below hXo (Nat.le_refl _))
      have E1 := Lib.hid e1
      have E2 := Lib.hid e2
      clear hX hXb hXo e1 e2 hp
      go_wp2_with fail
      rw [HXX.out]
      clear k0 k1 k2 k3 k4 kf HXX c0 c1 c2 c3 c4
      obtain ⟨k0, k1, k2, k3, k4⟩ := HXB.out.at_
      exact bodyPost_ret (v := .tuple #[enV R, .bool true]) (by simp [results, Try.results9, go_sem, enV, k0, k1, k2, k3, k4]) rfl ⟨parse_end E2.out E1.out, HXO.out⟩

end Go.Proofs.Ytompckbcaccmiaa
