/- The document's Same, the law's small: what each call does. No statement is proved here. -/
import Derived.Test.YtgnhjcgegibpdaaOrd
import Derived.Laws.StructEq
namespace Go.Proofs.Ytgnhjcgegibpdaa
open Go.RowKit

theorem It.dec (x y : It) : decide (x = y) = (x.key == y.key && (x.seq == y.seq && (x.ver == y.ver && (x.mark == y.mark && (x.mt == y.mt && (x.tag == y.tag && x.body == y.body)))))) := by
  rw [Bool.eq_iff_iff]
  simp [It.eq_iff]

theorem equal24 (x y : It) (w : World) : (Op.equalIn 10000 24 (itV x) (itV y)).run Try.prog w = .ok (decide (x = y)) w := by
  have k1 := strB_toList x.key
  have k2 := strB_toList y.key
  have k3 := strB_toList x.mt
  have k4 := strB_toList y.mt
  have k5 := strB_toList x.tag
  have k6 := strB_toList y.tag
  have k7 := strB_toList x.body
  have k8 := strB_toList y.body
  unfold itV
  rw [It.dec]
  cases h1 : (x.key == y.key) with
  | false => go_simp
  | true =>
    cases h2 : (x.seq == y.seq) with
    | false => go_simp
    | true =>
      cases h3 : (x.ver == y.ver) with
      | false => go_simp
      | true =>
        cases h4 : (x.mark == y.mark) with
        | false => go_simp
        | true =>
          cases h5 : (x.mt == y.mt) with
          | false => go_simp
          | true =>
            cases h6 : (x.tag == y.tag) with
            | false => go_simp
            | true =>
              cases h7 : (x.body == y.body) with
              | false => go_simp
              | true => go_simp

theorem eql24 (x y : It) (w : World) : (binOp .eql 24 (itV x) (itV y)).run Try.prog w = .ok (.bool (decide (x = y))) w := by
  have h := equal24 x y w
  unfold itV at h ⊢
  rw [run_eql_struct, h]
  rfl
theorem neq24 (x y : It) (w : World) : (binOp .neq 24 (itV x) (itV y)).run Try.prog w = .ok (.bool (!decide (x = y))) w := by
  have h := equal24 x y w
  unfold itV at h ⊢
  rw [run_neq_struct, h]
  rfl

theorem bdrewN {B : Nat} {a w : World} (h : Below B a w) (n : Nat) : Below B a (w.drewN n) := ⟨h.os, h.tape, h.output, h.size, h.block⟩

/-- The first k are alike. -/
def alikeTo (l m : List It) (k : Nat) : Prop := ∀ i, i < k → l[i]? = m[i]?
theorem alike_all {l m : List It} (hl : l.length = m.length) (h : alikeTo l m l.length) : l = m := by
  apply List.ext_getElem?
  intro i
  by_cases hi : i < l.length
  · exact h i hi
  · rw [List.getElem?_eq_none (by omega), List.getElem?_eq_none (by omega)]

set_option maxRecDepth 100000 in
set_option maxHeartbeats 8000000 in
theorem same_calls (v u : Value) (l m : List It) (w : World) (hv : Its w v l) (hu : Its w u m) (hlen : l.length ≤ 1000) :
    Calls Try.prog 15 #[v, u] w fun e w' => e = .returned (.bool (decide (l = m))) ∧ Below w.heap.size w w' := by
  obtain ⟨A, c, rfl⟩ := hv.form
  obtain ⟨A', c', rfl⟩ := hu.form
  by_cases hlm : l.length = m.length
  · obtain ⟨n, hn⟩ : ∃ n, n = l.length := ⟨_, rfl⟩
    have hn2 : n = m.length := hn.trans hlm
    rw [← hn] at hv hlen ⊢
    rw [← hn2] at hu ⊢
    have HN := Lib.hid hn
    have HN2 := Lib.hid hn2
    have HV := Lib.hid hv
    have HU := Lib.hid hu
    clear hn hv hu hn2 hlm
    go_enter Try.func15, Try.ntmps15
    go_wp2_with fail
    go_loopw [5] (fun u5 wr => ∃ i : Nat, i ≤ n ∧ u5 = .int .i64 i ∧ Hid (alikeTo l m i) ∧ Below w.heap.size w wr) (fun u _ => n - (intOf u).toNat)
    case atStart => exact ⟨0, Nat.zero_le _, rfl, Lib.hid (fun q hq => absurd hq (by omega)), Below.refl _ _⟩
    case round =>
      obtain ⟨i, hi', rfl, HLOW, hbr⟩ := hrel
      have HBR := Lib.hid hbr
      clear hbr
      by_cases hlt : i < n
      · obtain ⟨x, hx⟩ : ∃ x, l[i]? = some x := ⟨_, List.getElem?_eq_getElem (by have := HN.out; omega)⟩
        obtain ⟨y, hy⟩ : ∃ y, m[i]? = some y := ⟨_, List.getElem?_eq_getElem (by have := HN2.out; omega)⟩
        obtain ⟨b, off, rfl, hbl, hcell⟩ := HV.out.at_.2.2 (by omega)
        obtain ⟨b', off', rfl, hbl', hcell'⟩ := HU.out.at_.2.2 (by omega)
        obtain ⟨c0, c1, c2, c3, c4, c5, c6⟩ := (hcell i x hx).below hbl HBR.out
        obtain ⟨d0, d1, d2, d3, d4, d5, d6⟩ := (hcell' i y hy).below hbl' HBR.out
        have hi1 : (0 : Int) ≤ (i : Int) := by omega
        have hi2 : (i : Int) < (n : Int) := by omega
        have HX := Lib.hid hx
        have HY := Lib.hid hy
        have hq := neq24 x y
        unfold itV at hq
        clear hcell hx hcell' hy
        by_cases he : x = y
        · rw [decide_eq_true he] at hq
          have HF : Hid (alikeTo l m (i + 1)) := Lib.hid fun j hj => by
            by_cases e : j = i
            · subst e
              rw [HX.out, HY.out, he]
            · exact HLOW.out j (by omega)
          clear he
          go_wp2_with fail
          go_quiet (fail)
          go_wp2_with fail
          exact ⟨⟨i + 1, by omega, by go_num, HF, bdrewN HBR.out _⟩, by simp [intOf]; omega⟩
        · rw [decide_eq_false he] at hq
          have HF : Hid (¬ l = m) := Lib.hid fun e => he (by
            have h1 := HX.out
            rw [e, HY.out] at h1
            injection h1 with h1
            exact h1.symm)
          clear he
          go_wp2_with fail
          go_quiet (fail)
          go_wp2_with fail
          go_ret
          exact ⟨ret_bool (decide_eq_false HF.out).symm, bdrewN HBR.out _⟩
      · obtain rfl : i = n := by omega
        go_wp2_with fail
        go_ret
        refine ⟨ret_bool (decide_eq_true ?_).symm, HBR.out⟩
        refine alike_all (by rw [← HN.out, HN2.out]) ?_
        rw [← HN.out]
        exact HLOW.out
  · have hne : ((l.length : Int) == (m.length : Int)) = false := by simpa using fun h => hlm (by omega)
    rw [decide_eq_false (fun e => hlm (by rw [e]))]
    clear hv hu
    go_enter Try.func15, Try.ntmps15
    go_wp2_with fail
    go_ret
    exact ⟨rfl, Below.refl _ _⟩

set_option maxRecDepth 100000 in
set_option maxHeartbeats 8000000 in
theorem small_calls (v : Value) (l : List It) (w : World) (hv : Its w v l) (hlm : l.length ≤ 9223372036854775000)
    (hsz : ∀ x ∈ l, x.key.length ≤ 1000000000000000 ∧ x.mt.length ≤ 1000000000000000 ∧ x.tag.length ≤ 1000000000000000 ∧ x.body.length ≤ 1000000000000000) :
    Calls Try.prog 7 #[v] w fun e w' => ∃ b, e = .returned (.bool b) ∧ (b = true → l.length ≤ 60 ∧ ∀ x ∈ l, x.key.length ≤ 2500) ∧ Below w.heap.size w w' := by
  obtain ⟨A, c, rfl⟩ := hv.form
  obtain ⟨n, hn⟩ : ∃ n, n = l.length := ⟨_, rfl⟩
  rw [← hn] at hv hlm ⊢
  have HN := Lib.hid hn
  have HV := Lib.hid hv
  have HZ := Lib.hid hsz
  clear hn hv hsz
  go_enter Try.func7, Try.ntmps7
  go_wp2_with fail
  go_loopw [3] (fun u3 wr => ∃ i : Nat, i ≤ n ∧ u3 = .int .i64 i ∧ Hid (∀ q x, q < i → l[q]? = some x → x.key.length ≤ 2500) ∧ Below w.heap.size w wr) (fun u _ => n - (intOf u).toNat)
  case atStart => exact ⟨0, Nat.zero_le _, rfl, Lib.hid (fun q x hq => absurd hq (by omega)), Below.refl _ _⟩
  case round =>
    obtain ⟨i, hi', rfl, HLOW, hbr⟩ := hrel
    have HBR := Lib.hid hbr
    clear hbr
    by_cases hlt : i < n
    · obtain ⟨x, hx⟩ : ∃ x, l[i]? = some x := ⟨_, List.getElem?_eq_getElem (by have := HN.out; omega)⟩
      obtain ⟨b, off, rfl, hbl, hcell⟩ := HV.out.at_.2.2 (by omega)
      obtain ⟨c0, c1, c2, c3, c4, c5, c6⟩ := (hcell i x hx).below hbl HBR.out
      obtain ⟨z0, z1, z2, z3⟩ := HZ.out x (List.mem_of_getElem? hx)
      have hi1 : (0 : Int) ≤ (i : Int) := by omega
      have hi2 : (i : Int) < (n : Int) := by omega
      have HX := Lib.hid hx
      have s0 := strB_size x.key
      have s1 := strB_size x.mt
      have s2 := strB_size x.tag
      have s3 := strB_size x.body
      clear hcell hx
      by_cases h4 : 2500 < x.key.length + x.mt.length + x.tag.length + x.body.length
      · have hd : (2500 : Int) < (x.key.length : Int) + x.mt.length + x.tag.length + x.body.length := by omega
        go_wp2_with fail
        go_quiet (fail)
        go_wp2_with fail
        go_ret
        exact ⟨_, rfl, fun h => (by cases h), bdrewN HBR.out _⟩
      · have hd : ¬ (2500 : Int) < (x.key.length : Int) + x.mt.length + x.tag.length + x.body.length := by omega
        have HF : Hid (∀ q y, q < i + 1 → l[q]? = some y → y.key.length ≤ 2500) := Lib.hid fun q y hq hy => by
          by_cases e : q = i
          · subst e
            rw [HX.out] at hy
            injection hy with hy
            rw [← hy]; omega
          · exact HLOW.out q y (by omega) hy
        go_wp2_with fail
        go_quiet (fail)
        go_wp2_with fail
        exact ⟨⟨i + 1, by omega, by go_num, HF, bdrewN HBR.out _⟩, by simp [intOf]; omega⟩
    · have hnl : decide ((i : Int) < (n : Int)) = false := by simp; omega
      obtain rfl : i = n := by omega
      go_wp2_with fail
      go_ret
      refine ⟨_, rfl, fun h => ⟨(by have := of_decide_eq_true h; omega), fun x hx => ?_⟩, HBR.out⟩
      obtain ⟨q, hq, e⟩ := List.mem_iff_getElem.1 hx
      exact HLOW.out q x (by rw [HN.out]; exact hq) (by rw [List.getElem?_eq_getElem hq, e])

end Go.Proofs.Ytgnhjcgegibpdaa
