/- The document's Same, the law's small: what each call does. No statement is proved here. -/
import Derived.Test.YtkfjbhikibidiaaRMem
import Derived.Test.YtkfjbhikibidiaaRRight
import Derived.Test.YtkfjbhikibidiaaISame
import Derived.BigQuiet
import Derived.Deep.QuietTactic
namespace Go.Proofs.Ytkfjbhikibidiaa
open Go.RowKit
open Itm (It itV)

theorem equal41 (a b c d : Int) (w : World) : (Op.equalIn 10000 41 (.agg #[.int .i64 a, .int .i64 b]) (.agg #[.int .i64 c, .int .i64 d])).run Try.prog w = .ok (a == c && b == d) w := by
  cases h1 : (a == c) with
  | false => go_simp
  | true =>
    cases h2 : (b == d) with
    | false => go_simp
    | true => go_simp
theorem neq41 (x y : Int × Int) (w : World) : (binOp .neq 41 (.agg #[.int .i64 x.1, .int .i64 x.2]) (.agg #[.int .i64 y.1, .int .i64 y.2])).run Try.prog w = .ok (.bool (!decide (x = y))) w := by
  rw [run_neq_struct, equal41]
  have : (x.1 == y.1 && x.2 == y.2) = decide (x = y) := by
    rw [Bool.eq_iff_iff]
    simp [Prod.ext_iff]
  rw [this]
  rfl


/-- The first k are alike. -/
def alikeTo (l m : List (Int × Int)) (k : Nat) : Prop := ∀ i, i < k → l[i]? = m[i]?
theorem alike_all {l m : List (Int × Int)} (hl : l.length = m.length) (h : alikeTo l m l.length) : l = m := by
  apply List.ext_getElem?
  intro i
  by_cases hi : i < l.length
  · exact h i hi
  · rw [List.getElem?_eq_none (by omega), List.getElem?_eq_none (by omega)]

theorem neqIt (x y : It) (b : Bool) (h : decide (x = y) = b) (w : World) : (binOp .neq 23 (.agg #[.string (strB x.key), .int .i64 x.seq, .int .i64 x.ver, .bool x.mark, .string (strB x.mt), .string (strB x.tag), .string (strB x.body)]) (.agg #[.string (strB y.key), .int .i64 y.seq, .int .i64 y.ver, .bool y.mark, .string (strB y.mt), .string (strB y.tag), .string (strB y.body)])).run Try.prog w = .ok (.bool (!b)) w := by
  subst h
  exact Itm.neq24 x y w

set_option maxRecDepth 100000 in
set_option maxHeartbeats 8000000 in
theorem same_calls (r s : Rec) (A : Option Addr) (n c : Nat) (A' : Option Addr) (n' c' : Nat) (w : World) (hv : Sps w (.slice A n c) r.spans) (hu : Sps w (.slice A' n' c') s.spans) (hlen : n ≤ 1000) :
    Calls Try.prog 10 #[recV r (.slice A n c), recV s (.slice A' n' c')] w fun e w' => e = .returned (.bool (decide (r = s))) ∧ Below w.heap.size w w' := by
  have hn := hv.at_.1
  have hn' := hu.at_.1
  unfold recV
  obtain ⟨Y, hY, hX, hX', hBY⟩ : ∃ Y, Y = (w.alloc (.cells (recC r (.slice A n c)) 26)).alloc (.cells (recC s (.slice A' n' c')) 26) ∧ RBox Y w.heap.size r (.slice A n c) ∧ RBox Y (w.heap.size + 1) s (.slice A' n' c') ∧ Below w.heap.size w Y := by
    refine ⟨_, rfl, (RBox.new w _ _).below (below_one _ _), ?_, below_trans' (below_one _ _) (below_one _ _)⟩
    have := RBox.new (w.alloc (.cells (recC r (.slice A n c)) 26)) s (.slice A' n' c')
    rw [show (w.alloc (.cells (recC r (.slice A n c)) 26)).heap.size = w.heap.size + 1 by simp] at this
    exact this
  have HV := Lib.hid (hv.below hBY)
  have HU := Lib.hid (hu.below hBY)
  have HX := Lib.hid hX
  have HX' := Lib.hid hX'
  have HBY := Lib.hid hBY
  have HY := Lib.hid hY
  unfold recC at HY
  clear hv hu hX hX' hBY hY
  by_cases h1 : r.it = s.it
  · have q1 := neqIt r.it s.it true (decide_eq_true h1)
    by_cases h2 : r.size = s.size
    · have q2 : (r.size != s.size) = false := by simpa using h2
      by_cases h3 : n = n'
      · subst h3
        have HN := Lib.hid hn
        have HN' := Lib.hid hn'
        have H1 := Lib.hid h1
        have H2 := Lib.hid h2
        clear h1 h2 hn hn'
        go_enter Try.func10, Try.ntmps10
        go_wp2_with fail
        rw [← HY.out]
        clear q1 q2
        go_loopw [5] (fun u5 wr => ∃ i : Nat, i ≤ n ∧ u5 = .int .i64 i ∧ Hid (alikeTo r.spans s.spans i) ∧ Below Y.heap.size Y wr) (fun u _ => n - (intOf u).toNat)
        case atStart => exact ⟨0, Nat.zero_le _, rfl, Lib.hid (fun q hq => absurd hq (by omega)), Below.refl _ _⟩
        case round =>
          obtain ⟨i, hi', rfl, HLOW, hbr⟩ := hrel
          have HBR := Lib.hid hbr
          clear hbr
          have k8 := (HX.out.below HBR.out).at_.c8
          have m8 := (HX'.out.below HBR.out).at_.c8
          by_cases hlt : i < n
          · obtain ⟨x, hx⟩ : ∃ x, r.spans[i]? = some x := ⟨_, List.getElem?_eq_getElem (by have := HN.out; omega)⟩
            obtain ⟨y, hy⟩ : ∃ y, s.spans[i]? = some y := ⟨_, List.getElem?_eq_getElem (by have := HN'.out; omega)⟩
            obtain ⟨b, off, rfl, hbl, hcell⟩ := HV.out.at_.2.2 (by omega)
            obtain ⟨b', off', rfl, hbl', hcell'⟩ := HU.out.at_.2.2 (by omega)
            have c0 := (HBR.out.cell (p := ⟨b, off + i * 2, none⟩) hbl).trans (hcell i x hx).1
            have c1 := (HBR.out.cell (p := ⟨b, off + i * 2 + 1, none⟩) hbl).trans (hcell i x hx).2
            have d0 := (HBR.out.cell (p := ⟨b', off' + i * 2, none⟩) hbl').trans (hcell' i y hy).1
            have d1 := (HBR.out.cell (p := ⟨b', off' + i * 2 + 1, none⟩) hbl').trans (hcell' i y hy).2
            have hi1 : (0 : Int) ≤ (i : Int) := by omega
            have hi2 : (i : Int) < (n : Int) := by omega
            have HXx := Lib.hid hx
            have HYy := Lib.hid hy
            have hq := neq41 x y
            clear hcell hx hcell' hy
            by_cases he : x = y
            · rw [decide_eq_true he] at hq
              have HF : Hid (alikeTo r.spans s.spans (i + 1)) := Lib.hid fun j hj => by
                by_cases e : j = i
                · subst e
                  rw [HXx.out, HYy.out, he]
                · exact HLOW.out j (by omega)
              clear he
              go_wp2_with fail
              go_quiet (fail)
              go_wp2_with fail
              exact ⟨⟨i + 1, by omega, by go_num, HF, bdrewN HBR.out _⟩, by simp [intOf]; omega⟩
            · rw [decide_eq_false he] at hq
              have HF : Hid (¬ r = s) := Lib.hid fun e => he (by
                have h1 := HXx.out
                rw [e, HYy.out] at h1
                injection h1 with h1
                exact h1.symm)
              clear he
              go_wp2_with fail
              go_quiet (fail)
              go_wp2_with fail
              go_ret
              exact ⟨ret_bool (decide_eq_false HF.out).symm, below_trans' HBY.out (bdrewN HBR.out _)⟩
          · obtain rfl : i = n := by omega
            go_wp2_with fail
            go_ret
            refine ⟨ret_bool (decide_eq_true ?_).symm, below_trans' HBY.out HBR.out⟩
            rw [Rec.eq_iff]
            refine ⟨H1.out, H2.out, alike_all (by rw [HN.out, HN'.out]) ?_⟩
            rw [HN.out]
            exact HLOW.out
      · rw [decide_eq_false (fun e => h3 (by rw [← hn, ← hn', e]))]
        have q3 : ((n : Int) == (n' : Int)) = false := by simpa using fun h => h3 (by omega)
        clear h1 h2 h3 hn hn'
        go_enter Try.func10, Try.ntmps10
        go_wp2_with fail
        go_ret
        rw [← HY.out]
        exact ⟨rfl, HBY.out⟩
    · rw [decide_eq_false (fun e => h2 (by rw [e]))]
      have q2 : (r.size != s.size) = true := by simpa using h2
      clear h1 h2 hn hn'
      go_enter Try.func10, Try.ntmps10
      go_wp2_with fail
      go_ret
      rw [← HY.out]
      exact ⟨rfl, HBY.out⟩
  · rw [decide_eq_false (fun e => h1 (by rw [e]))]
    have q1 := neqIt r.it s.it false (decide_eq_false h1)
    clear h1 hn hn'
    go_enter Try.func10, Try.ntmps10
    go_wp2_with fail
    go_ret
    rw [← HY.out]
    exact ⟨rfl, HBY.out⟩

/-- Few runs, and short texts. -/
def smallB (r : Rec) : Bool := decide (r.spans.length ≤ 30) && decide (r.it.key.length + r.it.mt.length + r.it.tag.length + r.it.body.length ≤ 500)
def SzR (r : Rec) : Prop := r.it.key.length ≤ 1000000000000000 ∧ r.it.mt.length ≤ 1000000000000000 ∧ r.it.tag.length ≤ 1000000000000000 ∧ r.it.body.length ≤ 1000000000000000

set_option maxRecDepth 100000 in
set_option maxHeartbeats 8000000 in
theorem small_calls (r : Rec) (A : Option Addr) (n c : Nat) (w : World) (hn : r.spans.length = n) (hz : SzR r) :
    Calls Try.prog 5 #[recV r (.slice A n c)] w fun e w' => e = .returned (.bool (smallB r)) ∧ Below w.heap.size w w' := by
  obtain ⟨z0, z4, z5, z6⟩ := hz
  unfold recV smallB
  rw [hn]
  have s0 := strB_size r.it.key
  have s4 := strB_size r.it.mt
  have s5 := strB_size r.it.tag
  have s6 := strB_size r.it.body
  clear hn
  by_cases h : n ≤ 30
  · have g : (n : Int) ≤ 30 := by omega
    rw [decide_eq_true h, Bool.true_and]
    by_cases h2 : r.it.key.length + r.it.mt.length + r.it.tag.length + r.it.body.length ≤ 500
    · rw [decide_eq_true h2]
      have g2 : (r.it.key.length : Int) + (r.it.mt.length : Int) + (r.it.tag.length : Int) + (r.it.body.length : Int) ≤ 500 := by omega
      clear h2
      go_enter Try.func5, Try.ntmps5
      go_wp2_with fail
      go_ret
      exact ⟨ret_bool (by simp), below_trans' (below_one _ _) (below_one _ _)⟩
    · rw [decide_eq_false h2]
      have g2 : ¬ (r.it.key.length : Int) + (r.it.mt.length : Int) + (r.it.tag.length : Int) + (r.it.body.length : Int) ≤ 500 := by omega
      clear h2
      go_enter Try.func5, Try.ntmps5
      go_wp2_with fail
      go_ret
      exact ⟨ret_bool (by simp), below_trans' (below_one _ _) (below_one _ _)⟩
  · have g : ¬ (n : Int) ≤ 30 := by omega
    rw [decide_eq_false h, Bool.false_and]
    go_enter Try.func5, Try.ntmps5
    go_wp2_with fail
    go_ret
    exact ⟨rfl, below_trans' (below_one _ _) (below_one _ _)⟩

end Go.Proofs.Ytkfjbhikibidiaa
