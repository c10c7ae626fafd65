/- Contracts and plain mathematics that the statement's proof wants: no statement is proved here, nothing is assumed. -/
import Derived.BigQuiet
import Derived.Deep.RegionWith
import Derived.Deep.Cut
import Derived.Deep.RegionHeld3
import Derived.Deep.CutRange
import Derived.Deep.CutBlock
import Derived.Test.YtnbbijpmkhdgpaaGreatMg22
import Derived.Test.YtnbbijpmkhdgpaaGreatMg27
import Derived.Test.YtnbbijpmkhdgpaaGreatMg31
import Derived.Test.YtnbbijpmkhdgpaaGreatMg34
import Derived.Test.YtnbbijpmkhdgpaaGreatMg41
/- LKArm4 -/
namespace Go.Proofs.YtnbbijpmkhdgpaaGreat.Vlt
open Go.RowKit Go.Sort
open Dsk

/-- A test of a function's code with its ways, by the test's slot. -/
def condOf (n : Nat) : Code → Option Code
  | .seq x y => match condOf n x with
    | some c => some c
    | none => condOf n y
  | .block _ c => condOf n c
  | .loop c => condOf n c
  | .scope c => condOf n c
  | .cond (.tmp m) x y => if m = n then some (.cond (.tmp m) x y) else match condOf n x with
    | some c => some c
    | none => condOf n y
  | _ => none
noncomputable def keepsCond (n : Nat) : Code := (Tryz.f4.body.bind (condOf n)).getD .skip

set_option maxRecDepth 100000 in
set_option maxHeartbeats 16000000 in
theorem keeps_arm4 {b W : World} {G P H Q : Nat} {v0 v1 v7 : Value} {W1 : Option Addr} {W2 W3 : Nat} {W4 : Option Addr} {W5 W6 : Nat} {W7 : Option Addr} {W8 W9 : Nat} {k k2 : VK} {f g h got : Nat → List UInt8} {a : AK} {u0 u1 u2 u3 u4 u5 u6 u10 u11 u12 u13 u15 u16 u17 u18 u19 u20 u21 u22 u23 u24 u25 u26 u27 u28 u29 u30 u31 u32 u33 u34 u35 u36 u37 u38 u39 u40 u41 u42 u43 u44 u45 u46 u47 u48 u49 u50 u51 u52 u53 u54 u55 u56 u57 u58 u59 u60 u61 u62 u63 u64 u65 u66 u67 u68 u69 u70 u71 u72 u73 u74 u75 u76 u77 u78 u79 u80 u81 u82 u83 u84 u85 u86 u87 u88 u89 u90 u91 u92 u93 u94 u95 u96 u97 u98 u99 u100 u101 u102 u103 u104 u105 u106 u107 u108 u109 u110 u111 u112 u113 u114 u115 u116 u117 u118 u119 u120 u121 u122 u123 u124 u125 u126 u127 u128 u129 u130 u131 u133 u134 u135 u136 u137 u138 u139 u140 u141 u142 u143 u144 u145 u146 u147 u148 u149 u150 u151 u152 u153 u154 u155 u156 u157 u158 u159 u160 u161 u162 u163 u164 u165 u166 u167 u168 u169 u170 u171 u172 u173 u174 u175 u176 u177 u178 u179 u180 u181 u182 u183 u184 u185 u186 u187 u188 u189 u190 u191 u192 u193 u194 : Value} {R : Exit → Act → World → Prop} (c : KX b W G P H Q v0 v1 v7 k f g h a (.slice W1 W2 W3) (.slice W4 W5 W6) (.slice W7 W8 W9) k2)
    (CR : ∀ n : Nat, n < 16 → ∀ v W, IsVault W v k2 → Calls Tryz.prog 17 #[v, .int .i64 (n : Nat)] W fun e w' => e = .returned (.tuple #[.string (strB (got n)), .int .i64 0]) ∧ Below W.heap.size W w')
    (hor : (∀ p, p < 16 → got p = g p) ∨ (∀ p, p < 16 → got p = h p))
    (hR : ∀ (X : World) (y4 y17 y18 y19 y20 y21 y22 y140 y141 y142 y143 y144 y145 y146 y147 y148 y149 y150 y151 y152 y153 y154 y155 y156 y157 y158 y159 y160 y161 y162 y163 y164 y165 y166 y167 y168 y169 y170 y171 y172 y173 y174 y175 y176 y177 y178 y179 : Value) (fg : Nat → List UInt8), KX b X G P H Q v0 v1 v7 k fg fg fg a (.slice W1 W2 W3) (.slice W4 W5 W6) (.slice W7 W8 W9) k2 → (∀ j, j < 16 → fg j = got j) → R .normal ⟨#[u0, u1, u2, u3, y4, u5, u6, .pointer (some ⟨P, 0, none⟩), .pointer (some ⟨P + 1, 0, none⟩), .pointer (some ⟨P + 1 + 1, 0, none⟩), u10, u11, u12, u13, .pointer (some ⟨Q, 0, none⟩), u15, u16, y17, y18, y19, y20, y21, y22, u23, u24, u25, u26, u27, u28, u29, u30, u31, u32, u33, u34, u35, u36, u37, u38, u39, u40, u41, u42, u43, u44, u45, u46, u47, u48, u49, u50, u51, u52, u53, u54, u55, u56, u57, u58, u59, u60, u61, u62, u63, u64, u65, u66, u67, u68, u69, u70, u71, u72, u73, u74, u75, u76, u77, u78, u79, u80, u81, u82, u83, u84, u85, u86, u87, u88, u89, u90, u91, u92, u93, u94, u95, u96, u97, u98, u99, u100, u101, u102, u103, u104, u105, u106, u107, u108, u109, u110, u111, u112, u113, u114, u115, u116, u117, u118, u119, u120, u121, u122, u123, u124, u125, u126, u127, u128, u129, u130, u131, .bool true, u133, u134, u135, u136, u137, u138, u139, y140, y141, y142, y143, y144, y145, y146, y147, y148, y149, y150, y151, y152, y153, y154, y155, y156, y157, y158, y159, y160, y161, y162, y163, y164, y165, y166, y167, y168, y169, y170, y171, y172, y173, y174, y175, y176, y177, y178, y179, u180, u181, u182, u183, u184, u185, u186, u187, u188, u189, u190, u191, u192, u193, u194], []⟩ X) :
    Code.wp Tryz.prog (keepsCond 132) R ⟨#[u0, u1, u2, u3, u4, u5, u6, .pointer (some ⟨P, 0, none⟩), .pointer (some ⟨P + 1, 0, none⟩), .pointer (some ⟨P + 1 + 1, 0, none⟩), u10, u11, u12, u13, .pointer (some ⟨Q, 0, none⟩), u15, u16, u17, u18, u19, u20, u21, u22, u23, u24, u25, u26, u27, u28, u29, u30, u31, u32, u33, u34, u35, u36, u37, u38, u39, u40, u41, u42, u43, u44, u45, u46, u47, u48, u49, u50, u51, u52, u53, u54, u55, u56, u57, u58, u59, u60, u61, u62, u63, u64, u65, u66, u67, u68, u69, u70, u71, u72, u73, u74, u75, u76, u77, u78, u79, u80, u81, u82, u83, u84, u85, u86, u87, u88, u89, u90, u91, u92, u93, u94, u95, u96, u97, u98, u99, u100, u101, u102, u103, u104, u105, u106, u107, u108, u109, u110, u111, u112, u113, u114, u115, u116, u117, u118, u119, u120, u121, u122, u123, u124, u125, u126, u127, u128, u129, u130, u131, .bool true, u133, u134, u135, u136, u137, u138, u139, u140, u141, u142, u143, u144, u145, u146, u147, u148, u149, u150, u151, u152, u153, u154, u155, u156, u157, u158, u159, u160, u161, u162, u163, u164, u165, u166, u167, u168, u169, u170, u171, u172, u173, u174, u175, u176, u177, u178, u179, u180, u181, u182, u183, u184, u185, u186, u187, u188, u189, u190, u191, u192, u193, u194], []⟩ W := by
  have CR := Lib.hid CR
  have HOR := Lib.hid hor
  have HRR := Lib.hid hR
  have HC := Lib.hid c
  clear hor hR c
  conv => arg 2; whnf
  obtain ⟨T, hT⟩ : ∃ T, T = W.heap.size := ⟨_, rfl⟩
  obtain ⟨Z, hZ⟩ : ∃ Z, W.alloc (.cells #[.string ⟨#[]⟩, .string ⟨#[]⟩, .string ⟨#[]⟩, .string ⟨#[]⟩, .string ⟨#[]⟩, .string ⟨#[]⟩, .string ⟨#[]⟩, .string ⟨#[]⟩, .string ⟨#[]⟩, .string ⟨#[]⟩, .string ⟨#[]⟩, .string ⟨#[]⟩, .string ⟨#[]⟩, .string ⟨#[]⟩, .string ⟨#[]⟩, .string ⟨#[]⟩] 44) = Z := ⟨_, rfl⟩
  have hb : Below W.heap.size W Z := by rw [← hZ]; exact below_one _ _
  have hab : AB Z T (fun _ => []) := by rw [← hZ, hT]; exact AB.zero W
  have hqt : Q < T := by rw [hT]; exact HC.out.x.box.lt
  have HK0 := Lib.hid (HC.out.more hb)
  have HA0 := Lib.hid hab
  have HQT := Lib.hid hqt
  have HZ := Lib.hid hZ
  have HT := Lib.hid hT.symm
  clear hT hZ hb hab hqt HC
  go_upto_region 30 with (fail)
  rw [HZ.out, HT.out]
  clear HZ HT
  go_wp2_with fail
  go_loopw [17, 18, 20] (fun u17 u18 u20 wr => ∃ (n : Nat) (b1 b2 : Bool) (fg : Nat → List UInt8), n ≤ 16 ∧ u17 = .bool b1 ∧ u18 = .bool b2 ∧ u20 = .int .i64 n ∧ KX b wr G P H Q v0 v1 v7 k f g h a (.slice W1 W2 W3) (.slice W4 W5 W6) (.slice W7 W8 W9) k2 ∧ AB wr T fg ∧ (∀ j, j < n → fg j = got j) ∧ ((∀ p, p < 16 → got p = g p) → b1 = true) ∧ ((∀ p, p < 16 → got p = h p) → b2 = true)) (fun _ _ u _ => 16 - (intOf u).toNat)
  case atStart => exact ⟨0, true, true, _, by omega, rfl, rfl, rfl, HK0.out, HA0.out, fun j hj => by omega, fun _ => rfl, fun _ => rfl⟩
  case round =>
    obtain ⟨n, b1, b2, fg, hn, rfl, rfl, rfl, hk, ha, hfg, h1, h2⟩ := hrel
    have HK := Lib.hid hk
    have HA := Lib.hid ha
    have HF := Lib.hid hfg
    have H1 := Lib.hid h1
    have H2 := Lib.hid h2
    clear hk ha hfg h1 h2 HK0 HA0
    by_cases hlt : n < 16
    · have hi1 : (0 : Int) ≤ (n : Int) := by omega
      have hi2 : (n : Int) < 16 := by omega
      obtain ⟨j0, j1, j2, j3, j4, j5, j6, j7⟩ := HK.out.x.box.at_
      go_wp2_with fail
      (with_reducible refine (CR.out n hlt _ _ HK.out.x.val).mono ?_)
      rintro e wx ⟨rfl, hB⟩
      have HK2 := Lib.hid (HK.out.more hB)
      have HA2 := Lib.hid (HA.out.below hB)
      obtain ⟨X, hX, hkx, hax⟩ := HK2.out.got HA2.out HQT.out hlt (got n)
      have HX := Lib.hid hX
      have HKX := Lib.hid hkx
      have HAX := Lib.hid hax
      clear j0 j1 j2 j3 j4 j5 j6 j7 hB HK HA hX hkx hax
      have t0 := HA2.out.at_ hlt
      have tf := HA2.out.free n
      go_upto_region 37 with (fail)
      rw [HX.out]
      clear t0 tf HX HK2 HA2
      have s0 := HKX.out.c.s.at_ hlt
      have y0 := HKX.out.c.y.at_ hlt
      have HF2 : Hid (∀ j, j < n + 1 → (if j = n then got n else fg j) = got j) := Lib.hid (fun j hj => by
        by_cases e : j = n
        · rw [if_pos e, e]
        · rw [if_neg e]; exact HF.out j (by omega))
      cases b1 <;> cases b2
      all_goals
        go_quiet (fail)
        go_wp2_with fail
        exact ⟨⟨n + 1, _, _, _, by omega, rfl, rfl, by go_num, HKX.out.more ⟨rfl, rfl, rfl, Nat.le_refl _, fun _ _ => rfl⟩, HAX.out.below ⟨rfl, rfl, rfl, Nat.le_refl _, fun _ _ => rfl⟩, HF2.out, fun hh => (by first | exact absurd (H1.out hh) Bool.false_ne_true | simp [hh n hlt]), fun hh => (by first | exact absurd (H2.out hh) Bool.false_ne_true | simp [hh n hlt])⟩, by simp [intOf]; omega⟩
    · have hnl : ¬ (n : Int) < 16 := by omega
      have hfg : ∀ j, j < 16 → fg j = got j := fun j hj => HF.out j (by omega)
      have HFG := Lib.hid hfg
      have hbb : b1 = true ∨ (b1 = false ∧ b2 = true) := by
        rcases HOR.out with e | e
        · exact .inl (H1.out e)
        · cases b1
          · exact .inr ⟨rfl, H2.out e⟩
          · exact .inl rfl
      clear hfg HF H1 H2 HOR CR
      rcases hbb with rfl | ⟨rfl, rfl⟩
      all_goals
        go_upto_region 40 with (fail)
        refine keeps_reg40 HA.out HQT.out HK.out ?_
        intro X y177 y178 y179 hx
        (try go_wp2_with fail)
        exact HRR.out _ _ _ _ _ _ _ _ _ _ _ _ _ _ _ _ _ _ _ _ _ _ _ _ _ _ _ _ _ _ _ _ _ _ _ _ _ _ _ _ _ _ _ _ _ _ _ _ _ hx HFG.out

end Go.Proofs.YtnbbijpmkhdgpaaGreat.Vlt

/- LKPlain -/
namespace Go.Proofs.YtnbbijpmkhdgpaaGreat.Vlt
open Go.RowKit
open Dsk

structure KJ (x : Sh) (m : Int) (v : VK) (now sure maybe : Nat → List UInt8) : Prop where
  i : KInv x m v now sure maybe
  s0 : 0 ≤ v.seq
  s1 : v.seq ≤ m
/-- Behind a deed, where the law looks at the power. -/
structure KR (x : Sh) (m : Int) (v : VK) (now sure maybe : Nat → List UInt8) : Prop where
  a : v.disk.dead = false → KJ x m v now sure maybe
  b : v.disk.dead = true → KJ x m { v with dirty := [] } sure sure maybe
section
variable {x : Sh} {m m' : Int} {v : VK} {now sure maybe : Nat → List UInt8}
theorem KJ.ok (hx : rightS x = true) (h : KJ x m v now sure maybe) (hm : m ≤ 2147483647) : VOk v := by
  cases h.i with
  | live r n => exact r.ok hx hm
  | down d s y n =>
    obtain ⟨i, hp, hi⟩ := d.pl
    obtain ⟨p1, p2, p3, p4, p5, p6⟩ := right_nat hx
    exact ⟨⟨_, i, hp, by unfold NN; omega, by omega⟩, by rw [s, p1]; omega, by rw [y]; simp, by rw [y]; simp, by rw [y]; exact List.Pairwise.nil, h.s0, by have := h.s1; omega⟩
theorem KJ.more (h : KJ x m v now sure maybe) (hm : m ≤ m') : KJ x m' v now sure maybe := ⟨h.i.more hm, h.s0, by have := h.s1; omega⟩
theorem KJ.to (h : KJ x m v now sure maybe) : KR x m v now sure maybe := by
  refine ⟨fun _ => h, fun hd => ?_⟩
  cases h.i with
  | live r n => rw [r.up] at hd; cases hd
  | down d s y n => exact ⟨.down d s rfl (fun _ _ => rfl), h.s0, h.s1⟩
theorem KInv.seqs (h : KInv x m v now sure maybe) (hd : v.disk.dead = false) : 0 ≤ v.seq ∧ v.seq ≤ m := by
  cases h with
  | live r n => have := r.seq1; have := r.low; exact ⟨by omega, by omega⟩
  | down d s y n => rw [d.dead] at hd; cases hd
theorem write_seq (v : VK) (no : Int) (data : List UInt8) : (writeV v no data).1.seq = v.seq := by
  unfold writeV
  split
  · rfl
  split <;> rfl
theorem KJ.start (hx : rightS x = true) : KJ x 1 (formatV x) (fun _ => padP []) (fun _ => padP []) (fun _ => padP []) := by
  obtain ⟨r0, d0, l0, s0⟩ := format_rest hx
  have e : (fun _ : Nat => padP []) = fun _ => Ent.zer 208 := by funext _; exact pad_empty
  rw [e]
  exact ⟨.live r0 (fun p _ => by rw [d0]; rfl), by have := r0.seq1; omega, r0.low⟩

theorem kd0 (hx : rightS x = true) (h : KJ x m v now sure maybe) (a : AK) (ha : a.kind = 0) :
    ((doesV v a).2.2 = 0 ∧ ∃ k : Nat, a.place = k ∧ k < PN x ∧ (dataL a).length ≤ 208 ∧ KR x (m + 1) (doesV v a).1 (fun j => if j = k then padP (dataL a) else now j) sure maybe) ∨
    ((doesV v a).2.2 ≠ 0 ∧ KR x (m + 1) (doesV v a).1 now sure maybe) := by
  unfold doesV
  rw [if_pos ha]
  dsimp only
  have hs := write_seq v a.place (dataL a)
  have h0 := h.s0
  have h1 := h.s1
  rcases (keep_write hx h.i a.place (dataL a)).1 with ⟨e, k, e1, e2, e3, e4⟩ | ⟨e, e1⟩
  · exact .inl ⟨e, k, e1, e2, e3, KJ.to ⟨e4.more (by omega), by omega, by omega⟩⟩
  · rw [e1]
    exact .inr ⟨e, KJ.to ⟨h.i.more (by omega), by omega, by omega⟩⟩
theorem kd1 (hx : rightS x = true) (h : KJ x m v now sure maybe) (a : AK) (ha : a.kind = 1) :
    (((doesV v a).2.2 = 0 ∧ ∃ k : Nat, a.place = k ∧ k < PN x ∧ (doesV v a).2.1 = now k) ∨ (doesV v a).2.2 ≠ 0) ∧ KR x (m + 1) (doesV v a).1 now sure maybe := by
  unfold doesV
  rw [if_neg (by omega), if_pos ha]
  dsimp only
  have h0 := h.s0
  have h1 := h.s1
  exact ⟨keep_read hx h.i a.place, KJ.to ⟨h.i.more (by omega), by omega, by omega⟩⟩
theorem kd2 (hx : rightS x = true) (h : KJ x m v now sure maybe) (hm : m ≤ 2147483647) (a : AK) (ha : a.kind = 2) :
    ((doesV v a).2.2 = 0 ∧ KR x (m + 1) (doesV v a).1 now now now) ∨ ((doesV v a).2.2 = 8 ∧ KR x (m + 1) (doesV v a).1 sure sure maybe) ∨
    ((doesV v a).2.2 = 12 ∧ v.disk.dead = false ∧ KR x (m + 1) (doesV v a).1 now sure now) ∨ ((doesV v a).2.2 = 12 ∧ v.disk.dead = true ∧ KR x (m + 1) (doesV v a).1 now sure maybe) := by
  unfold doesV
  rw [if_neg (by omega), if_neg (by omega), if_pos ha]
  dsimp only
  have h0 := h.s0
  have h1 := h.s1
  obtain ⟨q1, q2⟩ := commit_seq v
  rcases keep_commit hx h.i hm with ⟨e, d, k⟩ | ⟨e, d, k⟩ | ⟨e, d, d2, k⟩ | ⟨e, d, k⟩
  · exact .inl ⟨e, KJ.to ⟨k, by omega, by omega⟩⟩
  · exact .inr (.inl ⟨e, KJ.to ⟨k, by omega, by omega⟩⟩)
  · exact .inr (.inr (.inl ⟨e, d, ⟨fun h => absurd (d2.symm.trans h) (by simp), fun _ => ⟨k, by dsimp only; omega, by dsimp only; omega⟩⟩⟩))
  · rw [k]
    exact .inr (.inr (.inr ⟨e, d, KJ.to ⟨h.i.more (by omega), by omega, by omega⟩⟩))
theorem kd4 (hx : rightS x = true) (h : KJ x m v now sure maybe) (h0 : 1 ≤ m) (hm : m < 2147483647) (a : AK) (ha : a.kind = 4) :
    (doesV v a).2.2 = 0 ∧ ∃ got : Nat → List UInt8, ((∀ p, p < PN x → got p = sure p) ∨ (∀ p, p < PN x → got p = maybe p)) ∧ KJ x (m + 1) (doesV v a).1 got got got ∧ ∀ k : Nat, k < PN x → readV (doesV v a).1 k = (got k, 0) := by
  unfold doesV
  rw [if_neg (by omega), if_neg (by omega), if_neg (by omega), if_neg (by omega), if_pos ha]
  obtain ⟨u, u1, u2, got, u3, u4, u5⟩ := keep_open hx h.i h0 hm a.stay
  rw [u1]
  dsimp only
  rw [if_pos rfl]
  obtain ⟨s1, s2⟩ := u4.seqs u2
  exact ⟨rfl, got, u3, ⟨u4, s1, s2⟩, u5⟩
theorem kd5 (h : KJ x m v now sure maybe) (a : AK) (hp : a.place ≤ 9223372036854775807) (ha : a.kind ≠ 0 ∧ a.kind ≠ 1 ∧ a.kind ≠ 2 ∧ a.kind ≠ 4) : KR x (m + 1) (doesV v a).1 now sure maybe := by
  unfold doesV
  obtain ⟨a0, a1, a2, a4⟩ := ha
  rw [if_neg a0, if_neg a1, if_neg a2]
  have h0 := h.s0
  have h1 := h.s1
  by_cases a3 : a.kind = 3
  · rw [if_pos a3]
    exact KJ.to ⟨(keep_arm h.i _ (by omega) (by omega)).more (by omega), h0, by dsimp only; omega⟩
  · rw [if_neg a3, if_neg a4]
    exact KJ.to (h.more (by omega))
end

end Go.Proofs.YtnbbijpmkhdgpaaGreat.Vlt

/- LKSwitch -/
namespace Go.Proofs.YtnbbijpmkhdgpaaGreat.Vlt
open Go.RowKit Go.Sort
open Dsk

theorem KJ.ext {x : Sh} {m : Int} {v : VK} {f f' : Nat → List UInt8} (c : KJ x m v f f f) (e : ∀ j, j < PN x → f j = f' j) : KJ x m v f' f' f' := by
  refine ⟨?_, c.s0, c.s1⟩
  cases c.i with
  | live r n =>
    refine .live (r.to fun q hq => e q hq) fun q hq => ?_
    rw [← e q hq, ← n q hq]
    exact ovr_ext (e q hq).symm
  | down d s y n => exact .down (d.to (fun q hq => e q hq) (fun q hq => e q hq)) s y fun q hq => rfl

/-- A block of a function's code, by its number. -/
def blockOf (n : Nat) : Code → Option Code
  | .block m c => if m = n then some (.block m c) else blockOf n c
  | .seq x y => match blockOf n x with
    | some c => some c
    | none => blockOf n y
  | .loop c => blockOf n c
  | .scope c => blockOf n c
  | .cond _ x y => match blockOf n x with
    | some c => some c
    | none => blockOf n y
  | _ => none
noncomputable def keepsBlock (n : Nat) : Code := (Tryz.f4.body.bind (blockOf n)).getD .skip

set_option maxRecDepth 100000 in
set_option maxHeartbeats 16000000 in
theorem keeps_switch {x : Sh} {m : Int} {w W : World} {G P H Q : Nat} {A1 : Option Addr} {A2 A3 : Nat} {A4 : Option Addr} {A5 A6 : Nat} {A7 : Option Addr} {A8 A9 : Nat} {U1 : Option Addr} {U2 U3 : Nat} {U4 : Option Addr} {U5 U6 : Nat} {U7 : Option Addr} {U8 U9 : Nat} {k k2 : VK} {f g h : Nat → List UInt8} {kind place : Int} {L s2 : List UInt8} {stay : Nat} {e2 : Int} {DE : Bool} {u0 u1 u2 u3 u4 u6 u10 u11 u17 u18 u19 u20 u21 u22 u23 u24 u25 u26 u27 u28 u29 u30 u31 u32 u33 u34 u35 u36 u37 u38 u39 u40 u41 u42 u43 u44 u45 u46 u47 u48 u49 u50 u51 u52 u53 u54 u55 u56 u57 u58 u59 u60 u61 u62 u63 u64 u65 u66 u67 u68 u69 u70 u71 u72 u73 u74 u75 u76 u77 u78 u79 u80 u81 u82 u83 u84 u85 u86 u87 u88 u89 u90 u91 u92 u93 u94 u95 u96 u97 u98 u99 u100 u101 u102 u103 u104 u105 u106 u107 u108 u109 u110 u111 u112 u113 u114 u115 u116 u117 u118 u119 u120 u121 u122 u123 u124 u125 u126 u127 u128 u129 u130 u131 u132 u133 u134 u135 u136 u137 u138 u139 u140 u141 u142 u143 u144 u145 u146 u147 u148 u149 u150 u151 u152 u153 u154 u155 u156 u157 u158 u159 u160 u161 u162 u163 u164 u165 u166 u167 u168 u169 u170 u171 u172 u173 u174 u175 u176 u177 u178 u179 u180 u181 u182 u183 u184 u185 u186 u187 u188 u189 u190 u191 u192 u193 u194 : Value} {R : Exit → Act → World → Prop}
    (hp : PN x = 16) (hkx : KX w W G P H Q (.slice A1 A2 A3) (.slice A4 A5 A6) (.slice A7 A8 A9) k f g h ⟨kind, place, strB L, stay⟩ (.slice U1 U2 U3) (.slice U4 U5 U6) (.slice U7 U8 U9) k2)
    (K0 : kind = 0 → (e2 = 0 ∧ ∃ k : Nat, place = k ∧ k < 16 ∧ L.length ≤ 208 ∧ KR x (m + 1) k2 (fun j => if j = k then padP L else f j) g h) ∨ (e2 ≠ 0 ∧ KR x (m + 1) k2 f g h))
    (K1 : kind = 1 → ((e2 = 0 ∧ ∃ k : Nat, place = k ∧ k < 16 ∧ s2 = f k) ∨ e2 ≠ 0) ∧ KR x (m + 1) k2 f g h)
    (K2 : kind = 2 → (e2 = 0 ∧ KR x (m + 1) k2 f f f) ∨ (e2 = 8 ∧ KR x (m + 1) k2 g g h) ∨ (e2 = 12 ∧ DE = false ∧ KR x (m + 1) k2 f g f) ∨ (e2 = 12 ∧ DE = true ∧ KR x (m + 1) k2 f g h))
    (K4 : kind = 4 → e2 = 0 ∧ ∃ got : Nat → List UInt8, ((∀ p, p < 16 → got p = g p) ∨ (∀ p, p < 16 → got p = h p)) ∧ KJ x (m + 1) k2 got got got ∧ ∀ n : Nat, n < 16 → readV k2 n = (got n, 0))
    (K5 : kind ≠ 0 ∧ kind ≠ 1 ∧ kind ≠ 2 ∧ kind ≠ 4 → KR x (m + 1) k2 f g h)
    (KOK : ∀ f g h, KJ x (m + 1) k2 f g h → VOk k2)
    (hR : ∀ (X : World) (y4 y17 y18 y19 y20 y21 y22 y70 y71 y72 y73 y74 y75 y76 y77 y78 y79 y80 y81 y82 y83 y84 y85 y86 y87 y88 y89 y90 y91 y92 y93 y94 y95 y96 y97 y98 y99 y100 y101 y102 y103 y104 y105 y106 y107 y108 y109 y110 y111 y112 y113 y114 y115 y116 y117 y118 y119 y120 y121 y122 y123 y124 y125 y126 y127 y128 y129 y130 y131 y132 y133 y134 y135 y136 y137 y138 y139 y140 y141 y142 y143 y144 y145 y146 y147 y148 y149 y150 y151 y152 y153 y154 y155 y156 y157 y158 y159 y160 y161 y162 y163 y164 y165 y166 y167 y168 y169 y170 y171 y172 y173 y174 y175 y176 y177 y178 y179 y180 y181 y182 y183 y184 y185 y186 y187 : Value) (F G' H' : Nat → List UInt8), KX w X G P H Q (.slice A1 A2 A3) (.slice A4 A5 A6) (.slice A7 A8 A9) k F G' H' ⟨kind, place, strB L, stay⟩ (.slice U1 U2 U3) (.slice U4 U5 U6) (.slice U7 U8 U9) k2 → KR x (m + 1) k2 F G' H' → R .normal ⟨#[u0, u1, u2, u3, y4, .pointer (some ⟨G, 0, none⟩), u6, .pointer (some ⟨P, 0, none⟩), .pointer (some ⟨P + 1, 0, none⟩), .pointer (some ⟨P + 1 + 1, 0, none⟩), u10, u11, .pointer (some ⟨H, 0, none⟩), .bool DE, .pointer (some ⟨Q, 0, none⟩), .string (strB s2), .int .i64 e2, y17, y18, y19, y20, y21, y22, u23, u24, u25, u26, u27, u28, u29, u30, u31, u32, u33, u34, u35, u36, u37, u38, u39, u40, u41, u42, u43, u44, u45, u46, u47, u48, u49, u50, u51, u52, u53, u54, u55, u56, u57, u58, u59, u60, u61, u62, u63, u64, u65, u66, u67, u68, u69, y70, y71, y72, y73, y74, y75, y76, y77, y78, y79, y80, y81, y82, y83, y84, y85, y86, y87, y88, y89, y90, y91, y92, y93, y94, y95, y96, y97, y98, y99, y100, y101, y102, y103, y104, y105, y106, y107, y108, y109, y110, y111, y112, y113, y114, y115, y116, y117, y118, y119, y120, y121, y122, y123, y124, y125, y126, y127, y128, y129, y130, y131, y132, y133, y134, y135, y136, y137, y138, y139, y140, y141, y142, y143, y144, y145, y146, y147, y148, y149, y150, y151, y152, y153, y154, y155, y156, y157, y158, y159, y160, y161, y162, y163, y164, y165, y166, y167, y168, y169, y170, y171, y172, y173, y174, y175, y176, y177, y178, y179, y180, y181, y182, y183, y184, y185, y186, y187, u188, u189, u190, u191, u192, u193, u194], []⟩ X) :
    Code.wp Tryz.prog (keepsBlock 4) R ⟨#[u0, u1, u2, u3, u4, .pointer (some ⟨G, 0, none⟩), u6, .pointer (some ⟨P, 0, none⟩), .pointer (some ⟨P + 1, 0, none⟩), .pointer (some ⟨P + 1 + 1, 0, none⟩), u10, u11, .pointer (some ⟨H, 0, none⟩), .bool DE, .pointer (some ⟨Q, 0, none⟩), .string (strB s2), .int .i64 e2, u17, u18, u19, u20, u21, u22, u23, u24, u25, u26, u27, u28, u29, u30, u31, u32, u33, u34, u35, u36, u37, u38, u39, u40, u41, u42, u43, u44, u45, u46, u47, u48, u49, u50, u51, u52, u53, u54, u55, u56, u57, u58, u59, u60, u61, u62, u63, u64, u65, u66, u67, u68, u69, u70, u71, u72, u73, u74, u75, u76, u77, u78, u79, u80, u81, u82, u83, u84, u85, u86, u87, u88, u89, u90, u91, u92, u93, u94, u95, u96, u97, u98, u99, u100, u101, u102, u103, u104, u105, u106, u107, u108, u109, u110, u111, u112, u113, u114, u115, u116, u117, u118, u119, u120, u121, u122, u123, u124, u125, u126, u127, u128, u129, u130, u131, u132, u133, u134, u135, u136, u137, u138, u139, u140, u141, u142, u143, u144, u145, u146, u147, u148, u149, u150, u151, u152, u153, u154, u155, u156, u157, u158, u159, u160, u161, u162, u163, u164, u165, u166, u167, u168, u169, u170, u171, u172, u173, u174, u175, u176, u177, u178, u179, u180, u181, u182, u183, u184, u185, u186, u187, u188, u189, u190, u191, u192, u193, u194], []⟩ W := by
  have HPN := Lib.hid hp
  have HKX := Lib.hid hkx
  have HRR := Lib.hid hR
  replace K0 := Lib.hid K0
  replace K1 := Lib.hid K1
  replace K2 := Lib.hid K2
  replace K4 := Lib.hid K4
  replace K5 := Lib.hid K5
  replace KOK := Lib.hid KOK
  clear hp hkx hR
  conv => arg 2; whnf
  obtain ⟨⟨t0, t1, t2, t3⟩, _⟩ := box4 HKX.out.act
  dsimp only at t0 t1 t2 t3
  by_cases c0 : kind = 0
  · have K0c := K0.out c0
    subst c0
    clear K0 K1 K2 K4 K5 KOK
    rcases K0c with ⟨he, kk, hp, hlt16, hll, hkr⟩ | ⟨he, hkr⟩
    · subst he
      subst hp
      have hq1 : (0 : Int) ≤ (kk : Int) := by omega
      have hq2 : (kk : Int) < 16 := by omega
      have HKR := Lib.hid hkr
      have CP := Lib.hid (fun W => page_calls L W hll)
      clear hkr
      go_upto_region 18 with (fail)
      clear t0 t1 t2 t3
      have HT := Lib.hid (HKX.out.more (Below.refl _ _).drew)
      clear HKX
      have n0 := HT.out.c.n.at_ hlt16
      have nf := HT.out.c.n.free kk
      have HTC := Lib.hid HT.out.actc
      go_region_held3 (fun W => W.cell? ⟨H, 1, none⟩ = some (.int .i64 (kk : Nat)) ∧ W.cell? ⟨H, 2, none⟩ = some (.string (strB L))) (first | with_reducible exact HTC.out | with_reducible exact HT.out.actc | (obtain ⟨X, hX, hN⟩ := HT.out.set0 hlt16 (padP L); rw [hX]; with_reducible exact hN.actc)) (first
        | (go_at_call 16; (with_reducible refine (CP.out _).mono ?_); rintro e wb ⟨rfl, hBb⟩; (with_reducible replace HT := Lib.hid (HT.out.more hBb)); clear hBb n0 nf; have n0 := HT.out.c.n.at_ hlt16; have nf := HT.out.c.n.free kk))
      all_goals
        (rename_i hheld; clear hheld)
        obtain ⟨X, hX, hN⟩ := HT.out.set0 hlt16 (padP L)
        have HX := Lib.hid hX
        have HN := Lib.hid hN
        clear hX hN n0 nf HTC CP
        go_wp2_with fail
        exact HRR.out _ _ _ _ _ _ _ _ _ _ _ _ _ _ _ _ _ _ _ _ _ _ _ _ _ _ _ _ _ _ _ _ _ _ _ _ _ _ _ _ _ _ _ _ _ _ _ _ _ _ _ _ _ _ _ _ _ _ _ _ _ _ _ _ _ _ _ _ _ _ _ _ _ _ _ _ _ _ _ _ _ _ _ _ _ _ _ _ _ _ _ _ _ _ _ _ _ _ _ _ _ _ _ _ _ _ _ _ _ _ _ _ _ _ _ _ _ _ _ _ _ _ _ _ _ _ _ _ _ (by rw [HX.out]; exact HN.out) HKR.out
    · have he1 : (e2 == 0) = false := by simpa using he
      have HKR := Lib.hid hkr
      clear hkr he
      go_wp2_with fail
      exact HRR.out _ _ _ _ _ _ _ _ _ _ _ _ _ _ _ _ _ _ _ _ _ _ _ _ _ _ _ _ _ _ _ _ _ _ _ _ _ _ _ _ _ _ _ _ _ _ _ _ _ _ _ _ _ _ _ _ _ _ _ _ _ _ _ _ _ _ _ _ _ _ _ _ _ _ _ _ _ _ _ _ _ _ _ _ _ _ _ _ _ _ _ _ _ _ _ _ _ _ _ _ _ _ _ _ _ _ _ _ _ _ _ _ _ _ _ _ _ _ _ _ _ _ _ _ _ _ _ _ _ HKX.out HKR.out
  have c0b : (kind == 0) = false := by simpa using c0
  by_cases c1 : kind = 1
  · subst c1
    obtain ⟨hc, hkr⟩ := K1.out rfl
    clear K0 K1 K2 K4 K5 KOK c0 c0b
    rcases hc with ⟨he, kk, hp, hlt16, hs⟩ | he
    · subst he
      subst hp
      subst hs
      have hq1 : (0 : Int) ≤ (kk : Int) := by omega
      have hq2 : (kk : Int) < 16 := by omega
      have n0 := HKX.out.c.n.at_ hlt16
      have HKR := Lib.hid hkr
      clear hkr
      go_wp2_with fail
      exact HRR.out _ _ _ _ _ _ _ _ _ _ _ _ _ _ _ _ _ _ _ _ _ _ _ _ _ _ _ _ _ _ _ _ _ _ _ _ _ _ _ _ _ _ _ _ _ _ _ _ _ _ _ _ _ _ _ _ _ _ _ _ _ _ _ _ _ _ _ _ _ _ _ _ _ _ _ _ _ _ _ _ _ _ _ _ _ _ _ _ _ _ _ _ _ _ _ _ _ _ _ _ _ _ _ _ _ _ _ _ _ _ _ _ _ _ _ _ _ _ _ _ _ _ _ _ _ _ _ _ _ HKX.out HKR.out
    · have he1 : (e2 == 0) = false := by simpa using he
      have HKR := Lib.hid hkr
      clear hkr he
      go_wp2_with fail
      exact HRR.out _ _ _ _ _ _ _ _ _ _ _ _ _ _ _ _ _ _ _ _ _ _ _ _ _ _ _ _ _ _ _ _ _ _ _ _ _ _ _ _ _ _ _ _ _ _ _ _ _ _ _ _ _ _ _ _ _ _ _ _ _ _ _ _ _ _ _ _ _ _ _ _ _ _ _ _ _ _ _ _ _ _ _ _ _ _ _ _ _ _ _ _ _ _ _ _ _ _ _ _ _ _ _ _ _ _ _ _ _ _ _ _ _ _ _ _ _ _ _ _ _ _ _ _ _ _ _ _ _ HKX.out HKR.out
  have c1b : (kind == 1) = false := by simpa using c1
  by_cases c2 : kind = 2
  · subst c2
    have hc := K2.out rfl
    clear K0 K1 K2 K4 K5 KOK c0 c0b c1 c1b
    rcases hc with ⟨he, hkr⟩ | ⟨he, hkr⟩ | ⟨he, hd, hkr⟩ | ⟨he, hd, hkr⟩
    · subst he
      have HKR := Lib.hid hkr
      clear hkr
      go_upto_region 22 with (fail)
      refine keeps_reg22 HKX.out ?_
      intro X2 y108 y109 hx2
      (try go_wp2_with fail)
      exact HRR.out _ _ _ _ _ _ _ _ _ _ _ _ _ _ _ _ _ _ _ _ _ _ _ _ _ _ _ _ _ _ _ _ _ _ _ _ _ _ _ _ _ _ _ _ _ _ _ _ _ _ _ _ _ _ _ _ _ _ _ _ _ _ _ _ _ _ _ _ _ _ _ _ _ _ _ _ _ _ _ _ _ _ _ _ _ _ _ _ _ _ _ _ _ _ _ _ _ _ _ _ _ _ _ _ _ _ _ _ _ _ _ _ _ _ _ _ _ _ _ _ _ _ _ _ _ _ _ _ _ hx2 HKR.out
    · subst he
      have HKR := Lib.hid hkr
      clear hkr
      go_upto_region 24 with (fail)
      refine keeps_reg24 HKX.out ?_
      intro X2 y118 hx2
      (try go_wp2_with fail)
      exact HRR.out _ _ _ _ _ _ _ _ _ _ _ _ _ _ _ _ _ _ _ _ _ _ _ _ _ _ _ _ _ _ _ _ _ _ _ _ _ _ _ _ _ _ _ _ _ _ _ _ _ _ _ _ _ _ _ _ _ _ _ _ _ _ _ _ _ _ _ _ _ _ _ _ _ _ _ _ _ _ _ _ _ _ _ _ _ _ _ _ _ _ _ _ _ _ _ _ _ _ _ _ _ _ _ _ _ _ _ _ _ _ _ _ _ _ _ _ _ _ _ _ _ _ _ _ _ _ _ _ _ hx2 HKR.out
    · subst he
      subst hd
      have HKR := Lib.hid hkr
      clear hkr
      go_upto_region 26 with (fail)
      refine keeps_reg26 HKX.out ?_
      intro X2 y131 hx2
      (try go_wp2_with fail)
      exact HRR.out _ _ _ _ _ _ _ _ _ _ _ _ _ _ _ _ _ _ _ _ _ _ _ _ _ _ _ _ _ _ _ _ _ _ _ _ _ _ _ _ _ _ _ _ _ _ _ _ _ _ _ _ _ _ _ _ _ _ _ _ _ _ _ _ _ _ _ _ _ _ _ _ _ _ _ _ _ _ _ _ _ _ _ _ _ _ _ _ _ _ _ _ _ _ _ _ _ _ _ _ _ _ _ _ _ _ _ _ _ _ _ _ _ _ _ _ _ _ _ _ _ _ _ _ _ _ _ _ _ hx2 HKR.out
    · subst he
      subst hd
      have HKR := Lib.hid hkr
      clear hkr
      go_wp2_with fail
      exact HRR.out _ _ _ _ _ _ _ _ _ _ _ _ _ _ _ _ _ _ _ _ _ _ _ _ _ _ _ _ _ _ _ _ _ _ _ _ _ _ _ _ _ _ _ _ _ _ _ _ _ _ _ _ _ _ _ _ _ _ _ _ _ _ _ _ _ _ _ _ _ _ _ _ _ _ _ _ _ _ _ _ _ _ _ _ _ _ _ _ _ _ _ _ _ _ _ _ _ _ _ _ _ _ _ _ _ _ _ _ _ _ _ _ _ _ _ _ _ _ _ _ _ _ _ _ _ _ _ _ _ HKX.out HKR.out
  have c2b : (kind == 2) = false := by simpa using c2
  by_cases c4 : kind = 4
  · subst c4
    obtain ⟨he, got, hor, hkj, hrd⟩ := K4.out rfl
    subst he
    have hvo := KOK.out _ _ _ hkj
    have CR := Lib.hid (fun (n : Nat) (hn : n < 16) v W (h : IsVault W v k2) => by
      have := read_calls v k2 (n : Nat) W h hvo.good hvo.rise
      rw [hrd n hn] at this
      exact this)
    have HKJ := Lib.hid hkj
    have HOR := Lib.hid hor
    clear K0 K1 K2 K4 K5 KOK hor hkj hrd hvo c0 c0b c1 c1b c2 c2b
    go_upto_if 132 with (fail)
    refine keeps_arm4 HKX.out CR.out HOR.out ?_
    intro X y4 y17 y18 y19 y20 y21 y22 y140 y141 y142 y143 y144 y145 y146 y147 y148 y149 y150 y151 y152 y153 y154 y155 y156 y157 y158 y159 y160 y161 y162 y163 y164 y165 y166 y167 y168 y169 y170 y171 y172 y173 y174 y175 y176 y177 y178 y179 fg hx hfg
    (try go_wp2_with fail)
    exact HRR.out _ _ _ _ _ _ _ _ _ _ _ _ _ _ _ _ _ _ _ _ _ _ _ _ _ _ _ _ _ _ _ _ _ _ _ _ _ _ _ _ _ _ _ _ _ _ _ _ _ _ _ _ _ _ _ _ _ _ _ _ _ _ _ _ _ _ _ _ _ _ _ _ _ _ _ _ _ _ _ _ _ _ _ _ _ _ _ _ _ _ _ _ _ _ _ _ _ _ _ _ _ _ _ _ _ _ _ _ _ _ _ _ _ _ _ _ _ _ _ _ _ _ _ _ _ _ _ _ _ hx ((HKJ.out.ext (f' := fg) (fun j hj => (hfg j (by have := HPN.out; omega)).symm)).to)
  · have c4b : (kind == 4) = false := by simpa using c4
    have hkr := K5.out ⟨c0, c1, c2, c4⟩
    have HKR := Lib.hid hkr
    clear hkr K0 K1 K2 K4 K5 KOK c0 c1 c2 c4
    go_wp2_with fail
    exact HRR.out _ _ _ _ _ _ _ _ _ _ _ _ _ _ _ _ _ _ _ _ _ _ _ _ _ _ _ _ _ _ _ _ _ _ _ _ _ _ _ _ _ _ _ _ _ _ _ _ _ _ _ _ _ _ _ _ _ _ _ _ _ _ _ _ _ _ _ _ _ _ _ _ _ _ _ _ _ _ _ _ _ _ _ _ _ _ _ _ _ _ _ _ _ _ _ _ _ _ _ _ _ _ _ _ _ _ _ _ _ _ _ _ _ _ _ _ _ _ _ _ _ _ _ _ _ _ _ _ _ HKX.out HKR.out

end Go.Proofs.YtnbbijpmkhdgpaaGreat.Vlt

/- LKeeps -/
namespace Go.Proofs.YtnbbijpmkhdgpaaGreat.Vlt
open Go.RowKit Go.Sort
open Dsk

theorem KJ.to16 {x : Sh} {m : Int} {v : VK} {p : List UInt8} {f g h : Nat → List UInt8} (c : KJ x m v (fun _ => p) (fun _ => p) (fun _ => p)) (hp : PN x = 16) (e : ∀ j, j < 16 → f j = p ∧ g j = p ∧ h j = p) : KJ x m v f g h := by
  refine ⟨?_, c.s0, c.s1⟩
  cases c.i with
  | live r n =>
    refine .live (r.to fun q hq => (e q (by omega)).2.1.symm) fun q hq => ?_
    rw [(e q (by omega)).1]
    exact (ovr_ext (e q (by omega)).2.1).trans (n q hq)
  | down d s y n => exact .down (d.to (fun q hq => (e q (by omega)).2.1.symm) (fun q hq => (e q (by omega)).2.2.symm)) s y fun q hq => by rw [(e q (by omega)).1, (e q (by omega)).2.1]

theorem KB.new {b W : World} {G : Nat} {v0 v1 v7 : Value} {k : VK} (h : VH b W G v0 v1 v7 k) :
    ∃ Z, ((W.alloc (.cells #[.string ⟨#[]⟩, .string ⟨#[]⟩, .string ⟨#[]⟩, .string ⟨#[]⟩, .string ⟨#[]⟩, .string ⟨#[]⟩, .string ⟨#[]⟩, .string ⟨#[]⟩, .string ⟨#[]⟩, .string ⟨#[]⟩, .string ⟨#[]⟩, .string ⟨#[]⟩, .string ⟨#[]⟩, .string ⟨#[]⟩, .string ⟨#[]⟩, .string ⟨#[]⟩] 44)).alloc (.cells #[.string ⟨#[]⟩, .string ⟨#[]⟩, .string ⟨#[]⟩, .string ⟨#[]⟩, .string ⟨#[]⟩, .string ⟨#[]⟩, .string ⟨#[]⟩, .string ⟨#[]⟩, .string ⟨#[]⟩, .string ⟨#[]⟩, .string ⟨#[]⟩, .string ⟨#[]⟩, .string ⟨#[]⟩, .string ⟨#[]⟩, .string ⟨#[]⟩, .string ⟨#[]⟩] 44)).alloc (.cells #[.string ⟨#[]⟩, .string ⟨#[]⟩, .string ⟨#[]⟩, .string ⟨#[]⟩, .string ⟨#[]⟩, .string ⟨#[]⟩, .string ⟨#[]⟩, .string ⟨#[]⟩, .string ⟨#[]⟩, .string ⟨#[]⟩, .string ⟨#[]⟩, .string ⟨#[]⟩, .string ⟨#[]⟩, .string ⟨#[]⟩, .string ⟨#[]⟩, .string ⟨#[]⟩] 44) = Z ∧ KB b Z G W.heap.size v0 v1 v7 k (fun _ => []) (fun _ => []) (fun _ => []) := by
  obtain ⟨Z1, e1⟩ : ∃ Z1, W.alloc (.cells #[.string ⟨#[]⟩, .string ⟨#[]⟩, .string ⟨#[]⟩, .string ⟨#[]⟩, .string ⟨#[]⟩, .string ⟨#[]⟩, .string ⟨#[]⟩, .string ⟨#[]⟩, .string ⟨#[]⟩, .string ⟨#[]⟩, .string ⟨#[]⟩, .string ⟨#[]⟩, .string ⟨#[]⟩, .string ⟨#[]⟩, .string ⟨#[]⟩, .string ⟨#[]⟩] 44) = Z1 := ⟨_, rfl⟩
  have a1 := AB.zero W
  have b1 := below_one W (.cells #[.string ⟨#[]⟩, .string ⟨#[]⟩, .string ⟨#[]⟩, .string ⟨#[]⟩, .string ⟨#[]⟩, .string ⟨#[]⟩, .string ⟨#[]⟩, .string ⟨#[]⟩, .string ⟨#[]⟩, .string ⟨#[]⟩, .string ⟨#[]⟩, .string ⟨#[]⟩, .string ⟨#[]⟩, .string ⟨#[]⟩, .string ⟨#[]⟩, .string ⟨#[]⟩] 44)
  have s1 : Z1.heap.size = W.heap.size + 1 := by rw [← e1]; simp
  rw [e1] at a1 b1
  obtain ⟨Z2, e2⟩ : ∃ Z2, Z1.alloc (.cells #[.string ⟨#[]⟩, .string ⟨#[]⟩, .string ⟨#[]⟩, .string ⟨#[]⟩, .string ⟨#[]⟩, .string ⟨#[]⟩, .string ⟨#[]⟩, .string ⟨#[]⟩, .string ⟨#[]⟩, .string ⟨#[]⟩, .string ⟨#[]⟩, .string ⟨#[]⟩, .string ⟨#[]⟩, .string ⟨#[]⟩, .string ⟨#[]⟩, .string ⟨#[]⟩] 44) = Z2 := ⟨_, rfl⟩
  have a2 := AB.zero Z1
  have b2 := below_one Z1 (.cells #[.string ⟨#[]⟩, .string ⟨#[]⟩, .string ⟨#[]⟩, .string ⟨#[]⟩, .string ⟨#[]⟩, .string ⟨#[]⟩, .string ⟨#[]⟩, .string ⟨#[]⟩, .string ⟨#[]⟩, .string ⟨#[]⟩, .string ⟨#[]⟩, .string ⟨#[]⟩, .string ⟨#[]⟩, .string ⟨#[]⟩, .string ⟨#[]⟩, .string ⟨#[]⟩] 44)
  have s2 : Z2.heap.size = W.heap.size + 2 := by rw [← e2]; simp [s1]
  rw [e2, s1] at a2
  rw [e2] at b2
  obtain ⟨Z3, e3⟩ : ∃ Z3, Z2.alloc (.cells #[.string ⟨#[]⟩, .string ⟨#[]⟩, .string ⟨#[]⟩, .string ⟨#[]⟩, .string ⟨#[]⟩, .string ⟨#[]⟩, .string ⟨#[]⟩, .string ⟨#[]⟩, .string ⟨#[]⟩, .string ⟨#[]⟩, .string ⟨#[]⟩, .string ⟨#[]⟩, .string ⟨#[]⟩, .string ⟨#[]⟩, .string ⟨#[]⟩, .string ⟨#[]⟩] 44) = Z3 := ⟨_, rfl⟩
  have a3 := AB.zero Z2
  have b3 := below_one Z2 (.cells #[.string ⟨#[]⟩, .string ⟨#[]⟩, .string ⟨#[]⟩, .string ⟨#[]⟩, .string ⟨#[]⟩, .string ⟨#[]⟩, .string ⟨#[]⟩, .string ⟨#[]⟩, .string ⟨#[]⟩, .string ⟨#[]⟩, .string ⟨#[]⟩, .string ⟨#[]⟩, .string ⟨#[]⟩, .string ⟨#[]⟩, .string ⟨#[]⟩, .string ⟨#[]⟩] 44)
  rw [e3, s2] at a3
  rw [e3] at b3
  exact ⟨Z3, by rw [e1, e2, e3], ((h.more b1).more b2).more b3, (a1.below b2).below b3, a2.below b3, a3, h.box.lt⟩

set_option maxRecDepth 100000 in
set_option maxHeartbeats 16000000 in
theorem keeps_calls (jn : Nat) (A : Option Addr) (len cap : Nat) (xs : List AK) (w : World) (hR : ActIn w A len xs) (hlm : len ≤ 9223372036854775807) (hjn : jn < 256) :
    Calls Tryz.prog 4 #[.int .u8 (jn : Nat), .slice A len cap] w fun e w' => e = .returned (.bool true) ∧ Below w.heap.size w w' := by
  have CSM := Lib.hid (small_calls A len cap xs 60 w hR hlm)
  have CAW := Lib.hid awake_true
  obtain ⟨r, hr⟩ : ∃ r, r = jn % 9 := ⟨_, rfl⟩
  have hr9 : r < 9 := by omega
  have hrm : (jn : Int) % 9 = (r : Nat) := by omega
  have hjn2 : (jn : Int) < 256 := by omega
  obtain ⟨x, hxe⟩ : ∃ x : Sh, x = ⟨16, 8 + (r : Int)⟩ := ⟨_, rfl⟩
  have hx : rightS x = true := by rw [hxe]; exact right_iff.2 (by dsimp only; omega)
  have hpn : PN x = 16 := by rw [hxe]; rfl
  have CF := fun W => format_ok x W hx
  have hxp : x.pages = 16 ∧ x.journal = 8 + (r : Int) := by rw [hxe]; exact ⟨rfl, rfl⟩
  rw [hxp.1, hxp.2] at CF
  obtain ⟨k0, hk0⟩ : ∃ k, k = formatV x := ⟨_, rfl⟩
  have hb0 := KJ.start hx
  rw [← hk0] at CF hb0
  have CF := Lib.hid CF
  have HB0 := Lib.hid hb0
  have HR := Lib.hid hR
  have HX := Lib.hid hx
  have HPN := Lib.hid hpn
  have CP0 : Hid (∀ W, Calls Tryz.prog 16 #[.string ⟨#[]⟩] W fun e w' => e = .returned (.string (strB (padP []))) ∧ Below W.heap.size W w') := Lib.hid (fun W => page_calls [] W (by decide))
  clear hR hb0 hk0 hr hxe hx hxp hpn
  go_enter Tryz.func4, Tryz.ntmps4
  go_wp2_with fail
  (with_reducible refine CSM.out.mono ?_)
  rintro e w1 ⟨b, rfl, hsm, hB1⟩
  have HB1 := Lib.hid hB1
  cases hbq : b with
  | false =>
    clear hsm hbq hB1
    go_wp2_with fail
    (with_reducible refine (CAW.out _).mono ?_)
    rintro e w2 ⟨rfl, hB2⟩
    go_wp2_with fail
    go_ret
    exact ⟨rfl, Dsk.below_trans' HB1.out hB2⟩
  | true =>
    have hl60 : len ≤ 60 := by have := hsm hbq; omega
    have HL := Lib.hid hl60
    clear hsm hbq hB1 hlm
    go_wp2_with fail
    (with_reducible refine (CF.out _).mono ?_)
    rintro e w2 ⟨u, rfl, hu, hB⟩
    obtain ⟨A1, A2, A3, A4, A5, A6, A7, A8, A9, rfl⟩ := vault_parts hu
    obtain ⟨Y, hY, hV, _⟩ := VH.new (b := w) (Dsk.below_trans' HB1.out hB) hu
    have HY := Lib.hid hY
    obtain ⟨G, hG⟩ : ∃ G, G = w2.heap.size := ⟨_, rfl⟩
    rw [← hG] at hV
    have HV0 := Lib.hid hV
    have HG := Lib.hid hG.symm
    clear hu hB hY hV hG HB1
    go_upto_region 4 with (fail)
    rw [HY.out, HG.out]
    clear HY HG
    obtain ⟨Z, hZ, hkb⟩ := KB.new HV0.out
    obtain ⟨P, hP⟩ : ∃ P, P = Y.heap.size := ⟨_, rfl⟩
    rw [← hP] at hkb
    have HZ := Lib.hid hZ
    have HP := Lib.hid hP.symm
    have HKB := Lib.hid hkb
    clear hZ hP hkb HV0
    go_upto_region 7 with (fail)
    rw [HZ.out, HP.out]

    clear HZ HP
    go_wp2_with fail
    go_loopw [10] (fun u wr => ∃ (i : Nat) (f g h : Nat → List UInt8), i ≤ 16 ∧ u = .int .i64 i ∧ KB w wr G P (.slice A1 A2 A3) (.slice A4 A5 A6) (.slice A7 A8 A9) k0 f g h ∧ ∀ j, j < i → f j = padP [] ∧ g j = padP [] ∧ h j = padP []) (fun u _ => 16 - (intOf u).toNat)
    case atStart => exact ⟨0, _, _, _, by omega, rfl, HKB.out, fun j hj => by omega⟩
    case round =>
      obtain ⟨i, f, g, h, hi, rfl, hkb, hfg⟩ := hrel
      have HK := Lib.hid hkb
      have HFG := Lib.hid hfg
      clear hkb hfg HKB
      by_cases hlt : i < 16
      · have hi1 : (0 : Int) ≤ (i : Int) := by omega
        have hi2 : (i : Int) < 16 := by omega
        have HT := Lib.hid (HK.out.more (Below.refl _ _).drew)
        clear HK
        go_upto_region 10 with (fail)
        obtain ⟨pz, hpz⟩ : ∃ p, p = padP [] := ⟨_, rfl⟩
        rw [← hpz] at CP0 HFG
        have HPZ := Lib.hid hpz
        clear hpz
        have n0 := HT.out.n.at_ hlt
        have n1 := HT.out.s.at_ hlt
        have n2 := HT.out.y.at_ hlt
        have f0 := HT.out.n.free i
        have f1 := HT.out.s.free i
        have f2 := HT.out.y.free i
        go_region_with (first
          | (go_at_call 16; (with_reducible refine (CP0.out _).mono ?_); rintro e wa ⟨rfl, hBa⟩; (with_reducible replace HT := Lib.hid (HT.out.more hBa)); clear hBa n0 n1 n2 f0 f1 f2; have n0 := HT.out.n.at_ hlt; have n1 := HT.out.s.at_ hlt; have n2 := HT.out.y.at_ hlt; have f0 := HT.out.n.free i; have f1 := HT.out.s.free i; have f2 := HT.out.y.free i))
        all_goals
          obtain ⟨X, hX, hc⟩ := HT.out.set3 hlt pz
          have HX := Lib.hid hX
          have HC := Lib.hid hc
          clear hX hc
          go_wp2_with fail
          rw [HX.out]
          refine ⟨⟨i + 1, _, _, _, by omega, by go_num, HC.out, fun j hj => ?_⟩, by simp [intOf]; omega⟩
          by_cases e : j = i
          · subst e
            simp [HPZ.out]
          · have := HFG.out j (by omega)
            rw [HPZ.out] at this
            simp [e, HPZ.out, this]
      · have hnl : ¬ (i : Int) < 16 := by omega
        obtain rfl : i = 16 := by omega
        have HZ16 : Hid (KB w wr G P (.slice A1 A2 A3) (.slice A4 A5 A6) (.slice A7 A8 A9) k0 f g h ∧ (∀ j, j < 16 → f j = padP [] ∧ g j = padP [] ∧ h j = padP [])) := Lib.hid ⟨HK.out, HFG.out⟩
        clear HK HFG CP0 CF
        go_wp2_with fail
        go_loopw [11] (fun u wr => ∃ (i : Nat) (k : VK) (f g h : Nat → List UInt8) (A1 : Option Addr) (A2 A3 : Nat) (A4 : Option Addr) (A5 A6 : Nat) (A7 : Option Addr) (A8 A9 : Nat), i ≤ len ∧ u = .int .i64 i ∧ KB w wr G P (.slice A1 A2 A3) (.slice A4 A5 A6) (.slice A7 A8 A9) k f g h ∧ KJ x (i + 1) k f g h) (fun u _ => len - (intOf u).toNat)
        case atStart => exact ⟨0, k0, f, g, h, _, _, _, _, _, _, _, _, _, Nat.zero_le _, rfl, HZ16.out.1, HB0.out.to16 HPN.out HZ16.out.2⟩
        case round =>
          obtain ⟨i, k, f, g, h, A1, A2, A3, A4, A5, A6, A7, A8, A9, hi, rfl, hkb, hkj⟩ := hrel
          have HK := Lib.hid hkb
          have HJ := Lib.hid hkj
          clear hkb hkj HZ16 HB0
          by_cases hlt : i < len
          rotate_left
          · have hnl : decide ((i : Int) < (len : Int)) = false := by simp; omega
            go_wp2_with fail
            (with_reducible refine (CAW.out _).mono ?_)
            rintro e w2 ⟨rfl, hB2⟩
            go_wp2_with fail
            go_ret
            exact ⟨rfl, Dsk.below_trans' HK.out.v.below hB2⟩
          obtain ⟨a, ha⟩ : ∃ a, xs[i]? = some a := ⟨_, List.getElem?_eq_getElem (by have := HR.out.1; omega)⟩
          have has := HR.out.2.1 a (List.mem_of_getElem? ha)
          obtain ⟨b, off, rfl, hat⟩ := act_at HR.out HK.out.v.below ha (by omega)
          obtain ⟨x0, x1, x2, x3⟩ := hat wr (Below.refl _ _)
          have hi1 : (0 : Int) ≤ (i : Int) := by omega
          have hi2 : (i : Int) < (len : Int) := by omega
          have HAS := Lib.hid has
          clear ha hat has
          obtain ⟨m, hm⟩ : ∃ m : Int, m = (i : Int) + 1 := ⟨_, rfl⟩
          have hm1 : 1 ≤ m := by omega
          have hmi : m < 2147483647 := by have := HL.out; omega
          have HJ1 := HJ.out
          rw [← hm] at HJ1
          have CD := fun v W (h : IsVault W v k) => does_calls v k a W h (HJ1.ok HX.out (by omega)) HAS.out
          have K0 := kd0 HX.out HJ1 a
          have K1 := kd1 HX.out HJ1 a
          have K2 := kd2 HX.out HJ1 (by omega) a
          have K4 := kd4 HX.out HJ1 hm1 hmi a
          have K5 := kd5 HJ1 a HAS.out.2
          rw [HPN.out] at K0 K1 K4
          obtain ⟨k2, hk2⟩ : ∃ k2, k2 = (doesV k a).1 := ⟨_, rfl⟩
          obtain ⟨s2, hs2⟩ : ∃ s, s = (doesV k a).2.1 := ⟨_, rfl⟩
          obtain ⟨e2, he2⟩ : ∃ e, e = (doesV k a).2.2 := ⟨_, rfl⟩
          rw [← hk2, ← hs2, ← he2] at CD
          rw [← hk2, ← he2] at K0 K2 K4
          rw [← hk2, ← hs2, ← he2] at K1
          rw [← hk2] at K5
          have KOK : ∀ f g h, KJ x (m + 1) k2 f g h → VOk k2 := fun _ _ _ h => h.ok HX.out (by omega)
          unfold AK.v at CD
          replace CD := Lib.hid CD
          replace K0 := Lib.hid K0
          replace K1 := Lib.hid K1
          replace K2 := Lib.hid K2
          replace K4 := Lib.hid K4
          replace K5 := Lib.hid K5
          replace KOK := Lib.hid KOK
          have HM := Lib.hid hm
          clear hk2 hs2 he2 hmi hm1 HJ1 HJ hm
          obtain ⟨kind, place, data, stay⟩ := a
          have hdat : strB (dataL ⟨kind, place, data, stay⟩) = data := dataL_is _
          dsimp only at x0 x1 x2 x3 CD K0 K1 K2 K4 K5
          obtain ⟨L, hL⟩ : ∃ L, L = dataL ⟨kind, place, data, stay⟩ := ⟨_, rfl⟩
          rw [← hL] at hdat K0
          clear hL
          subst hdat
          obtain ⟨Y2, hY2⟩ : ∃ Y2, Y2 = wr.alloc (.cells #[.int .i64 kind, .int .i64 place, .string (strB L), .int .u64 stay] 42) := ⟨_, rfl⟩
          have hb2 : Below wr.heap.size wr Y2 := by rw [hY2]; exact below_one _ _
          have hact : Y2.heap[wr.heap.size]? = some (.cells #[.int .i64 kind, .int .i64 place, .string (strB L), .int .u64 stay] 42 (0, 0)) := by rw [hY2]; exact heap_alloc_new wr _
          obtain ⟨H, hH⟩ : ∃ H, H = wr.heap.size := ⟨_, rfl⟩
          have hph : P + 2 < H := by rw [hH]; exact HK.out.base.2.2
          rw [← hH] at hact
          have HK2 := Lib.hid (HK.out.more hb2)
          have HAC := Lib.hid hact
          have HY2 := Lib.hid hY2.symm
          have HH := Lib.hid hH.symm
          have HPH := Lib.hid hph
          clear hb2 hact hH hY2 hph
          go_upto_region 15 with (fail)
          rw [HY2.out, HH.out]
          clear HY2 HH x0 x1 x2 x3 HK
          obtain ⟨⟨t0, t1, t2, t3⟩, _⟩ := box4 HAC.out
          obtain ⟨i0, i1, i2, i3, i4, i5, i6, i7⟩ := HK2.out.v.box.at_
          go_wp2_with fail
          (with_reducible refine (CD.out _ _ HK2.out.v.val).mono ?_)
          rintro e wa ⟨u, rfl, hu, hBa⟩
          obtain ⟨U1, U2, U3, U4, U5, U6, U7, U8, U9, rfl⟩ := vault_parts hu
          have hv3 := HK2.out.more hBa
          have hac3 := box_kept _ HAC.out hBa
          obtain ⟨Z1, hZ1, hn1, hb1⟩ := VH.new hv3.v.below hu
          obtain ⟨Q, hQ⟩ : ∃ Q, Q = wa.heap.size := ⟨_, rfl⟩
          rw [← hQ] at hn1
          have hkx : KX w Z1 G P H Q (.slice A1 A2 A3) (.slice A4 A5 A6) (.slice A7 A8 A9) k f g h ⟨kind, place, strB L, stay⟩ (.slice U1 U2 U3) (.slice U4 U5 U6) (.slice U7 U8 U9) k2 := ⟨hv3.more hb1, box_kept _ hac3 hb1, hn1, HPH.out, by rw [hQ]; exact (Array.getElem?_eq_some_iff.1 hac3).1⟩
          have HKX := Lib.hid hkx
          have HZ1 := Lib.hid hZ1
          have HQ := Lib.hid hQ.symm
          clear i0 i1 i2 i3 i4 i5 i6 i7 t0 t1 t2 t3 hu hBa hv3 hac3 hZ1 hn1 hb1 hQ hkx HK2 HAC
          go_upto_block 4 with (fail)
          rw [HZ1.out, HQ.out]
          clear HZ1 HQ
          refine keeps_switch (DE := k.disk.dead) HPN.out HKX.out K0.out K1.out K2.out K4.out K5.out KOK.out ?_
          intro X5 y4 y17 y18 y19 y20 y21 y22 y70 y71 y72 y73 y74 y75 y76 y77 y78 y79 y80 y81 y82 y83 y84 y85 y86 y87 y88 y89 y90 y91 y92 y93 y94 y95 y96 y97 y98 y99 y100 y101 y102 y103 y104 y105 y106 y107 y108 y109 y110 y111 y112 y113 y114 y115 y116 y117 y118 y119 y120 y121 y122 y123 y124 y125 y126 y127 y128 y129 y130 y131 y132 y133 y134 y135 y136 y137 y138 y139 y140 y141 y142 y143 y144 y145 y146 y147 y148 y149 y150 y151 y152 y153 y154 y155 y156 y157 y158 y159 y160 y161 y162 y163 y164 y165 y166 y167 y168 y169 y170 y171 y172 y173 y174 y175 y176 y177 y178 y179 y180 y181 y182 y183 y184 y185 y186 y187 F G' H' hkx hkr
          replace HKX := Lib.hid hkx
          have HKR := Lib.hid hkr
          clear hkx hkr K0 K1 K2 K4 K5 KOK
          obtain ⟨j0, j1, j2, j3, j4, j5, j6, j7⟩ := HKX.out.x.box.at_
          obtain ⟨i0, i1, i2, i3, i4, i5, i6, i7⟩ := HKX.out.c.v.box.at_
          have kf := HKX.out.c.v.box.free
          obtain ⟨X, hX, hn, hk, _⟩ := HKX.out.c.v.put HKX.out.x.val
          have HX := Lib.hid hX
          have HC := Lib.hid (HKX.out.c.put hn hk)
          clear hX hn hk
          go_upto_region 44 with (fail)
          rw [HX.out]
          clear j0 j1 j2 j3 j4 j5 j6 j7 i0 i1 i2 i3 i4 i5 i6 i7 kf HX HKX
          obtain ⟨i0, i1, i2, i3, i4, i5, i6, i7⟩ := HC.out.v.box.at_
          rcases Bool.eq_false_or_eq_true k2.disk.dead with hd | hd
          · rw [hd] at i2
            have hkj := HKR.out.b hd
            rw [HM.out] at hkj
            have HKJ := Lib.hid hkj
            clear hkj hd HKR
            go_upto_region 45 with (fail)
            refine keeps_reg45 HC.out ?_
            intro X2 y192 y193 hc2
            have HC2 := Lib.hid hc2
            clear i0 i1 i2 i3 i4 i5 i6 i7 HC hc2
            (try go_wp2_with fail)
            exact ⟨⟨i + 1, _, _, _, _, _, _, _, _, _, _, _, _, _, by omega, by go_num, HC2.out, by exact HKJ.out⟩, by simp [intOf]; omega⟩
          · rw [hd] at i2
            have hkj := HKR.out.a hd
            rw [HM.out] at hkj
            have HKJ := Lib.hid hkj
            clear hkj hd HKR
            go_wp2_with fail
            exact ⟨⟨i + 1, _, _, _, _, _, _, _, _, _, _, _, _, _, by omega, by go_num, HC.out, by exact HKJ.out⟩, by simp [intOf]; omega⟩

end Go.Proofs.YtnbbijpmkhdgpaaGreat.Vlt
