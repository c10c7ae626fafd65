/- Contracts and plain mathematics that the statement's proof wants: no statement is proved here, nothing is assumed. -/
import Derived.Test.YtnbbijpmkhdgpaaGreatMg25
/- ARParse -/
namespace Go.Proofs.YtnbbijpmkhdgpaaGreat
open Go.RowKit Go.Sort
open Wire (TK TP But twoL numL numS numV inside good markS)
open Crc (sealB Only)

theorem parse_none {s : List UInt8} (h : isS s = false) : parseS s = zeroS := by unfold parseS; rw [h]; rfl
theorem parse_len {s : List UInt8} (h : s.length ≠ 256) : isS s = false := by
  cases hb : isS s with
  | false => rfl
  | true =>
    have h2 := (is_right hb).2
    rw [← h2, print_len] at h
    exact absurd rfl h
theorem parse_kind {s : List UInt8} (h : s.take 8 ≠ archK) : isS s = false := by
  cases hb : isS s with
  | false => rfl
  | true =>
    have h2 := (is_right hb).2
    obtain ⟨z, hz⟩ := print_is (parseS s)
    rw [← h2, hz, Wire.take_app _ _ 8 rfl] at h
    exact absurd rfl h

/-- What the document's answer reads. -/
def r1 (s : List UInt8) : TK := numS 2 0 65535 ⟨s.drop 8, false⟩
def rguess (s : List UInt8) : Sh := ⟨(numV 2 0 65535 ⟨s.drop 8, false⟩ : Nat), (numV 2 0 65535 (r1 s) : Nat)⟩

theorem rguess_print {x : Sh} (h : rightS x = true) : rguess (printL x) = x := by
  obtain ⟨h1, h2, h3, h4⟩ := right_iff.1 h
  obtain ⟨z, hz⟩ := print_is x
  have n1 : (numL (twoL x.pages) : Int) = x.pages := by rw [Wire.numL_twoL]; omega
  have n2 : (numL (twoL x.journal) : Int) = x.journal := by rw [Wire.numL_twoL]; omega
  have a1 := Wire.numS_app (twoL x.pages) (twoL x.journal ++ z) 2 0 65535 rfl (by omega) (by omega)
  have b1 := Wire.numV_app (twoL x.pages) (twoL x.journal ++ z) 2 0 65535 rfl (by omega) (by omega)
  have b2 := Wire.numV_app (twoL x.journal) z 2 0 65535 rfl (by omega) (by omega)
  rw [Sh.eq_iff]
  unfold rguess r1
  rw [hz, Wire.drop_app _ _ 8 rfl, a1, b1, b2]
  exact ⟨n1, n2⟩
theorem rguess_is {s : List UInt8} : isS s = (rightS (rguess s) && (printL (rguess s) == s)) := by
  rw [Bool.eq_iff_iff, Bool.and_eq_true, beq_iff_eq]
  constructor
  · intro h
    obtain ⟨h1, h2⟩ := is_right h
    have e : rguess s = parseS s := by rw [← h2, rguess_print h1, h2]
    rw [e]
    exact ⟨h1, h2⟩
  · intro ⟨h1, h2⟩
    exact (is_of h1 h2).1
theorem rguess_parse {s : List UInt8} (h : isS s = true) : rguess s = parseS s := by
  obtain ⟨h1, h2⟩ := is_right h
  rw [← h2, rguess_print h1, h2]

theorem from8 (s : List UInt8) (h : s.length = 256) (w : World) :
    Sem.run Tryz.prog (Instr.slice 9 (.string (strB s)) (some (.int .i64 8)) none none) w = .ok (.string (strB (s.drop 8))) w := by
  have h2 : (8 : Int) ≤ ((strB s).size : Int) := by rw [strB_size]; omega
  have h3 : 8 ≤ (strB s).size := by rw [strB_size]; omega
  have e : (strB s).extract 8 (strB s).size = strB (s.drop 8) := by
    rw [strB_extract, List.take_of_length_le (by rw [strB_size]; exact Nat.le_refl _)]
  simp [go_sem, h2, h3, e]
theorem cut8 (l : List UInt8) (h : 8 ≤ l.length) (w : World) :
    Sem.run Tryz.prog (Instr.slice 9 (.string (strB l)) none (some (.int .i64 8)) none) w = .ok (.string (strB (l.take 8))) w := by
  have h2 : (8 : Int) ≤ ((strB l).size : Int) := by rw [strB_size]; omega
  have h3 : 8 ≤ (strB l).size := by rw [strB_size]; omega
  have e : (strB l).extract 0 8 = strB (l.take 8) := by
    rw [strB_extract, List.drop_zero]
  simp [go_sem, h2, h3, e]

theorem rparse_end {s : List UInt8} {b : Bool} {R : Sh} (hR : R = parseS s) (hb : b = isS s) : Ending.returned (.tuple #[shV R, .bool b]) = .returned (.tuple #[shV (parseS s), .bool (isS s)]) := by rw [hR, hb]

/-- Both boxes of the document's Parse: the answer's, the shape's that was read. -/
structure QZ (w W : World) (x : Sh) (g : Nat) : Prop where
  z : SBox W w.heap.size zeroS
  x : SBox W g x
  ne : w.heap.size ≠ g
  below : Below w.heap.size w W
theorem QZ.more {w W W' : World} {x : Sh} {g : Nat} (h : QZ w W x g) (hb : Below W.heap.size W W') : QZ w W' x g := ⟨h.z.below hb, h.x.below hb, h.ne, below_trans' h.below hb⟩

set_option maxRecDepth 100000 in
set_option maxHeartbeats 16000000 in
theorem rparse_calls (s : List UInt8) (w : World) :
    Calls Tryz.prog 73 #[.string (strB s)] w fun e w' => e = .returned (.tuple #[shV (parseS s), .bool (isS s)]) ∧ Below w.heap.size w w' := by
  have hsz := strB_size s
  have hbox := SBox.new w zeroS
  have z0 := hbox.c0
  have z1 := hbox.c1
  unfold zeroS at z0 z1
  have Z0 := Lib.hid z0
  have Z1 := Lib.hid z1
  clear z0 z1 hbox
  by_cases hl : s.length = 256
  · have h1 : (strB s).size = 256 := by omega
    have hcut := cut8 s (by omega)
    have hek : ((strB (s.take 8)).toList == [65, 82, 67, 72, 73, 86, 69, 49]) = (s.take 8 == archK) := by rw [strB_toList]; rfl
    cases hk : s.take 8 == archK with
    | false =>
      rw [hk] at hek
      have e1 := parse_kind (s := s) (by simpa using hk)
      have e2 := parse_none e1
      have E1 := Lib.hid e1
      have E2 := Lib.hid e2
      clear e1 e2 hsz hl hk
      go_enter Tryz.func73, Tryz.ntmps73
      go_wp2_with fail
      have k0 := Z0.out
      have k1 := Z1.out
      exact bodyPost_ret (v := .tuple #[shV zeroS, .bool false]) (by simp [results, Tryz.results73, go_sem, shV, zeroS]) rfl ⟨rparse_end E2.out.symm E1.out.symm, below_one _ _⟩
    | true =>
      rw [hk] at hek
      have hfr := from8 s hl
      obtain ⟨Y, hY, hG⟩ := GS.new 139 w (s.drop 8)
      have HY := Lib.hid hY
      have HG := Lib.hid hG
      obtain ⟨R, hR⟩ : ∃ R, R = rguess s := ⟨_, rfl⟩
      have HRP := Lib.hid (rguess_is (s := s))
      have HRQ := Lib.hid (rguess_parse (s := s))
      rw [← hR] at HRP HRQ
      have RP : Hid (R.pages = (numV 2 0 65535 ⟨s.drop 8, false⟩ : Nat)) := Lib.hid (by rw [hR]; rfl)
      have RJ : Hid (R.journal = (numV 2 0 65535 (r1 s) : Nat)) := Lib.hid (by rw [hR]; rfl)
      clear hsz hl hk hY hG hR
      go_enter Tryz.func73, Tryz.ntmps73
      go_wp2_with fail
      rw [← HY.out]
      clear HY hfr hcut hek
      (with_reducible refine (Wire.rrtwo_calls (w.heap.size + 1) 0 65535 ⟨s.drop 8, false⟩ _ HG.out.t).mono ?_)
      rintro e w2 ⟨rfl, hT2, hB2⟩
      replace HG : Hid (GS 139 w w2 (r1 s)) := Lib.hid (HG.out.but hT2 hB2)
      clear hT2 hB2
      go_wp2_with fail
      (with_reducible refine (Wire.rrtwo_calls (w.heap.size + 1) 0 65535 (r1 s) _ HG.out.t).mono ?_)
      rintro e w3 ⟨rfl, hT3, hB3⟩
      replace HG := Lib.hid (HG.out.but hT3 hB3)
      rw [← RP.out, ← RJ.out]
      have HP : Hid (QZ w (w3.alloc (.cells #[.int .i64 R.pages, .int .i64 R.journal] 30)) R w3.heap.size) := Lib.hid
        ⟨HG.out.z.below (below_one _ _), SBox.new w3 R, by have := HG.out.z.lt; omega, below_trans' HG.out.below (below_one _ _)⟩
      have C1 := Lib.hid (fun W => rright_calls R W)
      have C2 := Lib.hid (fun W => rprint_calls R W)
      unfold shV at C1 C2
      clear hT3 hB3 HG
      go_wp2_with fail
      (with_reducible refine (C1.out _).mono ?_)
      rintro e w4 ⟨rfl, hB4⟩
      replace HP := Lib.hid (HP.out.more hB4)
      clear hB4 C1
      cases hr : rightS R with
      | false =>
        have e1 : false = isS s := by rw [HRP.out, hr, Bool.false_and]
        have e2 : zeroS = parseS s := (parse_none e1.symm).symm
        have k0 := HP.out.z.c0
        have k1 := HP.out.z.c1
        have kf := HP.out.z.free
        obtain ⟨X, hX, hXb, hXo⟩ := store2 HP.out.z zeroS
        have HXX : Hid ((w4.setCell ⟨w.heap.size, 0, none⟩ (.int .i64 0)).setCell ⟨w.heap.size, 1, none⟩ (.int .i64 0) = X) := Lib.hid hX
        have HXB := Lib.hid hXb
        have HXO := Lib.hid (Only.after HP.out.below hXo (Nat.le_refl _))
        have E1 := Lib.hid e1
        have E2 := Lib.hid e2
        clear hX hXb hXo e1 e2
        go_wp2_with fail
        rw [HXX.out]
        clear k0 k1 kf HXX
        have k0 := HXB.out.c0
        have k1 := HXB.out.c1
        exact bodyPost_ret (v := .tuple #[shV zeroS, .bool false]) (by simp [results, Tryz.results73, go_sem, shV, k0, k1]) rfl ⟨rparse_end E2.out E1.out, HXO.out⟩
      | true =>
        have c0 := HP.out.x.c0
        have c1 := HP.out.x.c1
        go_wp2_with fail
        (with_reducible refine (C2.out _).mono ?_)
        rintro e w5 ⟨rfl, hB5⟩
        replace HP := Lib.hid (HP.out.more hB5)
        have HE := Lib.hid (eq_spell (printL R) s)
        clear hB5 C2 c0 c1
        cases hp : printL R == s with
        | false =>
          have hp' := HE.out.trans hp
          have e1 : false = isS s := by rw [HRP.out, hr, hp]; rfl
          have e2 : zeroS = parseS s := (parse_none e1.symm).symm
          have k0 := HP.out.z.c0
          have k1 := HP.out.z.c1
          have kf := HP.out.z.free
          obtain ⟨X, hX, hXb, hXo⟩ := store2 HP.out.z zeroS
          have HXX : Hid ((w5.setCell ⟨w.heap.size, 0, none⟩ (.int .i64 0)).setCell ⟨w.heap.size, 1, none⟩ (.int .i64 0) = X) := Lib.hid hX
          have HXB := Lib.hid hXb
          have HXO := Lib.hid (Only.after HP.out.below hXo (Nat.le_refl _))
          have E1 := Lib.hid e1
          have E2 := Lib.hid e2
          clear hX hXb hXo e1 e2 hp
          go_wp2_with fail
          rw [HXX.out]
          clear k0 k1 kf HXX
          have k0 := HXB.out.c0
          have k1 := HXB.out.c1
          exact bodyPost_ret (v := .tuple #[shV zeroS, .bool false]) (by simp [results, Tryz.results73, go_sem, shV, k0, k1]) rfl ⟨rparse_end E2.out E1.out, HXO.out⟩
        | true =>
          have hp' := HE.out.trans hp
          have e1 : true = isS s := by rw [HRP.out, hr, hp]; rfl
          have e2 : R = parseS s := HRQ.out e1.symm
          have c0 := HP.out.x.c0
          have c1 := HP.out.x.c1
          have k0 := HP.out.z.c0
          have k1 := HP.out.z.c1
          have kf := HP.out.z.free
          obtain ⟨X, hX, hXb, hXo⟩ := store2 HP.out.z R
          have HXX := Lib.hid hX
          have HXB := Lib.hid hXb
          have HXO := Lib.hid (Only.after HP.out.below hXo (Nat.le_refl _))
          have E1 := Lib.hid e1
          have E2 := Lib.hid e2
          clear hX hXb hXo e1 e2 hp
          go_wp2_with fail
          rw [HXX.out]
          clear k0 k1 kf HXX c0 c1
          have k0 := HXB.out.c0
          have k1 := HXB.out.c1
          exact bodyPost_ret (v := .tuple #[shV R, .bool true]) (by simp [results, Tryz.results73, go_sem, shV, k0, k1]) rfl ⟨rparse_end E2.out E1.out, HXO.out⟩
  · have h1 : ¬ (strB s).size = 256 := by omega
    have h2 : ¬ ((strB s).size : Int) = 256 := by omega
    have e1 := parse_len hl
    have e2 := parse_none e1
    have E1 := Lib.hid e1
    have E2 := Lib.hid e2
    clear e1 e2 hsz hl
    go_enter Tryz.func73, Tryz.ntmps73
    go_wp2_with fail
    have k0 := Z0.out
    have k1 := Z1.out
    exact bodyPost_ret (v := .tuple #[shV zeroS, .bool false]) (by simp [results, Tryz.results73, go_sem, shV, zeroS]) rfl ⟨rparse_end E2.out.symm E1.out.symm, below_one _ _⟩

end Go.Proofs.YtnbbijpmkhdgpaaGreat
