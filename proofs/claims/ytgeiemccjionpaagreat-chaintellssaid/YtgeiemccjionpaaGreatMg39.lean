/- Contracts and plain mathematics that the statement's proof wants: no statement is proved here, nothing is assumed. -/
import Derived.Deep.RegionWith
import Derived.Test.YtgeiemccjionpaaGreatMg38
/- HRReg -/
namespace Go.Proofs.YtgeiemccjionpaaGreat.Chn
open Go.RowKit Go.Sort
open Dsk Vlt

/-- Code of a function's body, by its number. -/
def regOf (n : Nat) : Code → Option Code
  | .region id ops b => if id = n then some (.region id ops b) else none
  | .seq x y => match regOf n x with
    | some c => some c
    | none => regOf n y
  | .block _ c => regOf n c
  | .loop c => regOf n c
  | .scope c => regOf n c
  | .cond _ x y => match regOf n x with
    | some c => some c
    | none => regOf n y
  | _ => none

set_option maxRecDepth 100000 in
set_option maxHeartbeats 16000000 in
theorem rput_reg34 {u0 u1 u4 u5 u6 u7 u8 u9 u11 u12 u13 u14 u15 u16 u17 u18 u19 u20 u24 u25 u26 u27 u28 u29 u30 u31 u32 u33 u34 u35 u36 u37 u38 u39 u40 u41 u42 u43 u44 u45 u46 u47 u48 u49 u50 u51 u52 u53 u54 u55 u56 u57 u58 u59 u60 u61 u62 u63 u64 u65 u66 u67 u68 u69 u70 u71 u72 u73 u74 u75 u76 u77 u78 u79 u80 u81 u82 u83 u84 u85 u86 u87 u88 u89 u90 u91 u92 u93 u94 u95 u96 u97 u98 u99 u100 u101 u102 u103 u104 u105 u106 u107 u108 u109 u110 u111 u112 u113 u114 u115 u116 u117 u118 u119 u120 u121 u122 u123 u124 u125 u126 u127 u128 u129 u130 u131 u132 u133 u134 u135 u136 u137 u138 u139 u140 u141 u142 u143 u144 u145 u146 u147 u148 u149 u150 u151 u152 u153 u154 u155 u156 u157 u158 u159 u160 u161 u162 u163 u164 u165 u166 u167 u168 u169 u170 : Value} {R : Exit → Act → World → Prop} {w W : World} {A1 A2 A7 : Option Addr} {n1 c1 n2 c2 n7 c7 n pb po m pc i kk p : Nat} {dl jr sq nx : Int} {uS S1 S2 S12 S3 SP : ByteArray} {os zs : Array Value} {AL : List Nat} {k2 : VK}
    (HRB : Hid (RB w W #[.slice A1 n1 c1, .slice A2 n2 c2, .bool false, .int .i64 dl, .int .i64 (n : Nat), .int .i64 jr, .int .i64 sq, .slice A7 n7 c7] os zs)) (HPI : Hid (IsInts W (.slice (some ⟨pb, po, none⟩) m pc) (natI AL))) (hp : AL[i]? = some p) (him : i < m)
    (C1 : Hid (∀ X, Calls Tryz.prog 43 #[.int .i64 nx] X fun e w' => e = .returned (.string S1) ∧ Below X.heap.size X w'))
    (C2 : Hid (∀ X, Calls Tryz.prog 43 #[.int .i64 (kk : Nat)] X fun e w' => e = .returned (.string S2) ∧ Below X.heap.size X w'))
    (C7 : Hid (∀ X, Below W.heap.size W X → Calls Tryz.prog 42 #[.agg #[.slice A1 n1 c1, .slice A2 n2 c2, .bool false, .int .i64 dl, .int .i64 (n : Nat), .int .i64 jr, .int .i64 sq, .slice A7 n7 c7], .int .i64 (p : Nat), .string SP] X fun e w' => ∃ v', e = .returned (.tuple #[v', .int .i64 0]) ∧ IsVault w' v' k2 ∧ Below X.heap.size X w'))
    (HF7 : Hid (∀ (X : World) (v : Value), IsVault X v k2 → ∃ A1 n1 c1 A2 n2 c2 dl jr sq A7 n7 c7, v = .agg #[.slice A1 n1 c1, .slice A2 n2 c2, .bool false, .int .i64 dl, .int .i64 (n : Nat), .int .i64 jr, .int .i64 sq, .slice A7 n7 c7]))
    (hj1 : S1 ++ S2 = S12) (hj2 : S12 ++ S3 = SP) (hza : ¬ 9223372036854775807 < S1.size + S2.size) (hzb : ¬ 9223372036854775807 < S12.size + S3.size)
    (hcut : uS.extract 0 kk = S3) (hkk : kk ≤ uS.size)
    (hR : ∀ (X : World) (rA1 : Option Addr) (rn1 rc1 : Nat) (rA2 : Option Addr) (rn2 rc2 : Nat) (rdl rjr rsq : Int) (rA7 : Option Addr) (rn7 rc7 : Nat) (y132 y133 y134 y135 y136 y137 y138 y139 y140 y141 y142 y143 y144 y145 y146 y147 y148 y149 : Value), RB w X #[.slice rA1 rn1 rc1, .slice rA2 rn2 rc2, .bool false, .int .i64 rdl, .int .i64 (n : Nat), .int .i64 rjr, .int .i64 rsq, .slice rA7 rn7 rc7] os zs → IsVault X (.agg #[.slice rA1 rn1 rc1, .slice rA2 rn2 rc2, .bool false, .int .i64 rdl, .int .i64 (n : Nat), .int .i64 rjr, .int .i64 rsq, .slice rA7 rn7 rc7]) k2 → IsInts X (.slice (some ⟨pb, po, none⟩) m pc) (natI AL) → R .normal ⟨#[u0, u1, .string uS, .pointer (some ⟨w.heap.size, 0, none⟩), u4, u5, u6, u7, u8, u9, .slice (some ⟨pb, po, none⟩) m pc, u11, u12, u13, u14, .int .i64 0, u16, u17, u18, u19, u20, .int .i64 (i : Nat), .int .i64 (kk : Nat), .int .i64 nx, u24, u25, u26, u27, u28, u29, u30, u31, u32, u33, u34, u35, u36, u37, u38, u39, u40, u41, u42, u43, u44, u45, u46, u47, u48, u49, u50, u51, u52, u53, u54, u55, u56, u57, u58, u59, u60, u61, u62, u63, u64, u65, u66, u67, u68, u69, u70, u71, u72, u73, u74, u75, u76, u77, u78, u79, u80, u81, u82, u83, u84, u85, u86, u87, u88, u89, u90, u91, u92, u93, u94, u95, u96, u97, u98, u99, u100, u101, u102, u103, u104, u105, u106, u107, u108, u109, u110, u111, u112, u113, u114, u115, u116, u117, u118, u119, u120, u121, u122, u123, u124, u125, u126, u127, u128, u129, u130, u131, y132, y133, y134, y135, y136, y137, y138, y139, y140, y141, y142, y143, y144, y145, y146, y147, y148, y149, u150, u151, u152, u153, u154, u155, u156, u157, u158, u159, u160, u161, u162, u163, u164, u165, u166, u167, u168, u169, u170], []⟩ X) :
    Code.wp Tryz.prog ((Tryz.f12.body.bind (regOf 34)).getD .skip) R ⟨#[u0, u1, .string uS, .pointer (some ⟨w.heap.size, 0, none⟩), u4, u5, u6, u7, u8, u9, .slice (some ⟨pb, po, none⟩) m pc, u11, u12, u13, u14, u15, u16, u17, u18, u19, u20, .int .i64 (i : Nat), .int .i64 (kk : Nat), .int .i64 nx, u24, u25, u26, u27, u28, u29, u30, u31, u32, u33, u34, u35, u36, u37, u38, u39, u40, u41, u42, u43, u44, u45, u46, u47, u48, u49, u50, u51, u52, u53, u54, u55, u56, u57, u58, u59, u60, u61, u62, u63, u64, u65, u66, u67, u68, u69, u70, u71, u72, u73, u74, u75, u76, u77, u78, u79, u80, u81, u82, u83, u84, u85, u86, u87, u88, u89, u90, u91, u92, u93, u94, u95, u96, u97, u98, u99, u100, u101, u102, u103, u104, u105, u106, u107, u108, u109, u110, u111, u112, u113, u114, u115, u116, u117, u118, u119, u120, u121, u122, u123, u124, u125, u126, u127, u128, u129, u130, u131, u132, u133, u134, u135, u136, u137, u138, u139, u140, u141, u142, u143, u144, u145, u146, u147, u148, u149, u150, u151, u152, u153, u154, u155, u156, u157, u158, u159, u160, u161, u162, u163, u164, u165, u166, u167, u168, u169, u170], []⟩ W := by
  refine Code.wp_mono (Q := fun e a w => match e with | .normal => R .normal a w | _ => False) (fun e a w h => by cases e <;> first | exact h | exact h.elim) ?_
  conv => arg 2; whnf
  have hi1 : (0 : Int) ≤ (i : Int) := by omega
  have hi2 : (i : Int) < (m : Int) := by omega
  have hpi := HPI.out
  obtain ⟨PA2, pn2, pc2, hpe, hpn2, hpc2, hprd⟩ := hpi.open_
  injection hpe with hpe1 hpe2 hpe3
  subst hpe1 hpe2 hpe3
  have HPL : Hid (∀ X, Below W.heap.size W X → X.cell? ⟨pb, po + i, none⟩ = some (.int .i64 (p : Nat))) := Lib.hid (fun X hX => by
    obtain ⟨b3, off3, eb, y3⟩ := int_at hprd hX (natI_at hp) (by omega)
    injection eb with eb
    injection eb with eb1 eb2
    subst eb1 eb2
    exact y3)
  have HT := Lib.hid (HRB.out.more (Below.refl _ _).drew)
  have HD : Hid (Below W.heap.size W W.drew) := Lib.hid (Below.refl _ _).drew
  obtain ⟨⟨i0, i1, i2, i3, i4, i5, i6, i7⟩, kf⟩ := box8 HT.out.a
  have y0 := HPL.out _ HD.out
  clear hpn2 hpc2 hprd hpi hp HRB
  go_region_with (first
    | (go_at_call 43; (with_reducible refine (C1.out _).mono ?_); rintro e wa ⟨rfl, hBa⟩; (with_reducible replace HT := Lib.hid (HT.out.more hBa)); (with_reducible replace HD := Lib.hid (HD.out.trans (hBa.mono HD.out.size))); clear hBa i0 i1 i2 i3 i4 i5 i6 i7 kf y0; obtain ⟨⟨i0, i1, i2, i3, i4, i5, i6, i7⟩, kf⟩ := box8 HT.out.a; have y0 := HPL.out _ HD.out)
    | (go_at_call 43; (with_reducible refine (C2.out _).mono ?_); rintro e wa ⟨rfl, hBa⟩; (with_reducible replace HT := Lib.hid (HT.out.more hBa)); (with_reducible replace HD := Lib.hid (HD.out.trans (hBa.mono HD.out.size))); clear hBa i0 i1 i2 i3 i4 i5 i6 i7 kf y0; obtain ⟨⟨i0, i1, i2, i3, i4, i5, i6, i7⟩, kf⟩ := box8 HT.out.a; have y0 := HPL.out _ HD.out)
    | (go_at_call 42; (with_reducible refine (C7.out _ HD.out).mono ?_); rintro e wa ⟨v', rfl, hv', hBa⟩; (with_reducible replace HT := Lib.hid (HT.out.more hBa)); (with_reducible replace HD := Lib.hid (HD.out.trans (hBa.mono HD.out.size))); obtain ⟨rA1, rn1, rc1, rA2, rn2, rc2, rdl, rjr, rsq, rA7, rn7, rc7, rfl⟩ := HF7.out _ _ hv'; have HV' := Lib.hid hv'; clear hv' hBa i0 i1 i2 i3 i4 i5 i6 i7 kf y0; obtain ⟨⟨i0, i1, i2, i3, i4, i5, i6, i7⟩, kf⟩ := box8 HT.out.a))
  all_goals
    obtain ⟨X, hX, hbX, hkX, hBX⟩ := box_store8 HT.out.a (.slice rA1 rn1 rc1) (.slice rA2 rn2 rc2) (.bool false) (.int .i64 rdl) (.int .i64 (n : Nat)) (.int .i64 rjr) (.int .i64 rsq) (.slice rA7 rn7 rc7)
    rw [hX]
    exact hR X rA1 rn1 rc1 rA2 rn2 rc2 rdl rjr rsq rA7 rn7 rc7 _ _ _ _ _ _ _ _ _ _ _ _ _ _ _ _ _ _  ⟨hbX, (hkX _ (by omega)).trans HT.out.z, (hkX _ (by omega)).trans HT.out.o, hBX _ _ HT.out.below (by omega)⟩ (HV'.out.other HT.out.a hkX) (SL.other (HPI.out.below HD.out) HT.out.a (by decide) hkX)
end Go.Proofs.YtgeiemccjionpaaGreat.Chn
