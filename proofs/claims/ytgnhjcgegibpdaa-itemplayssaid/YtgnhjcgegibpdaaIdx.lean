/- slices.IndexFunc at items, the test that item.Put hands it: what each call does. No statement is proved here. -/
import Derived.Test.YtgnhjcgegibpdaaOf
namespace Go.Proofs.Ytgnhjcgegibpdaa
open Go.RowKit

set_option maxHeartbeats 1000000 in
theorem putFn_calls (o x : It) (g : Nat) (w : World) (hx : Box w g x) :
    Calls Try.prog 30 #[itV o, .pointer (some ⟨g, 0, none⟩)] w fun e w' => e = .returned (.bool (!less o x)) ∧ Below w.heap.size w w' := by
  have HL := Lib.hid (less_calls o x)
  have hnot : ∀ (x : Bool) (w : World), (Op.unary .not (.bool x)).run Try.prog w = .ok (.bool (!x)) w := fun _ _ => rfl
  unfold itV at HL
  unfold itV
  obtain ⟨c0, c1, c2, c3, c4, c5, c6⟩ := (hx.below (below_one w (.cells #[.string (strB o.key), .int .i64 o.seq, .int .i64 o.ver, .bool o.mark, .string (strB o.mt), .string (strB o.tag), .string (strB o.body)] 24))).at_
  clear hx
  go_enter Try.func30, Try.ntmps30
  go_wp2_with fail
  with_reducible refine (HL.out _).mono ?_
  rintro e w1 ⟨rfl, hB⟩
  go_wp2_with fail
  go_ret
  exact ⟨rfl, below_trans' (below_one _ _) hB⟩

set_option maxRecDepth 100000 in
set_option maxHeartbeats 4000000 in
theorem index_calls (v : Value) (l : List It) (g : Nat) (lb : Array Value) (p : It → Bool) (w : World) (hv : Its w v l) (hlen : l.length ≤ 1000)
    (hp : ∀ x W, Below w.heap.size w W → Calls Try.prog g (#[itV x] ++ lb) W fun e w' => e = .returned (.bool (p x)) ∧ Below W.heap.size W w')
    (eg : ∀ args w, (callFunc g args).run Try.prog w = .ok (.enter g args) w) :
    Calls Try.prog 29 #[v, .func (.func g) #[] lb] w fun e w' => Below w.heap.size w w' ∧ ∃ k : Nat, (∀ q x, q < k → l[q]? = some x → p x = false) ∧ ((k < l.length ∧ (∀ x, l[k]? = some x → p x = true) ∧ e = .returned (.int .i64 k)) ∨ (k = l.length ∧ e = .returned (.int .i64 (-1)))) := by
  obtain ⟨A, c, rfl⟩ := hv.form
  obtain ⟨n, hn⟩ : ∃ n, n = l.length := ⟨_, rfl⟩
  rw [← hn] at hv hlen ⊢
  have HN := Lib.hid hn
  have HV := Lib.hid hv
  have HP := Lib.hid hp
  unfold itV at HP
  clear hn hv hp
  go_enter Try.func29, Try.ntmps29
  go_wp2_with fail
  go_loopw [8] (fun u8 wr => ∃ i : Nat, i ≤ n ∧ u8 = .int .i64 i ∧ Hid (∀ q x, q < i → l[q]? = some x → p x = false) ∧ Below w.heap.size w wr) (fun u _ => n - (intOf u).toNat)
  case atStart => exact ⟨0, Nat.zero_le _, rfl, Lib.hid (fun q x hq => absurd hq (by omega)), Below.refl _ _⟩
  case round =>
    obtain ⟨i, hi', rfl, HLOW, hbr⟩ := hrel
    have HBR := Lib.hid hbr
    clear hbr
    by_cases hlt : i < n
    · obtain ⟨x, hx⟩ : ∃ x, l[i]? = some x := ⟨_, List.getElem?_eq_getElem (by have := HN.out; omega)⟩
      obtain ⟨b, off, rfl, hbl, hcell⟩ := HV.out.at_.2.2 (by omega)
      obtain ⟨c0, c1, c2, c3, c4, c5, c6⟩ := (hcell i x hx).below hbl HBR.out
      have hi1 : (0 : Int) ≤ (i : Int) := by omega
      have hi2 : (i : Int) < (n : Int) := by omega
      have HX := Lib.hid hx
      clear hcell hx
      cases hpx : p x with
      | false =>
        go_wp2_with fail
        with_reducible refine (HP.out x _ HBR.out).mono ?_
        rintro e w1 ⟨rfl, hB1⟩
        rw [hpx]
        go_wp2_with fail
        refine ⟨⟨i + 1, by omega, by go_num, Lib.hid fun q y hq hy => ?_, Below.trans HBR.out (hB1.mono HBR.out.size)⟩, by simp [intOf]; omega⟩
        by_cases e : q = i
        · subst e
          rw [HX.out] at hy
          injection hy with hy
          rw [← hy]; exact hpx
        · exact HLOW.out q y (by omega) hy
      | true =>
        go_wp2_with fail
        with_reducible refine (HP.out x _ HBR.out).mono ?_
        rintro e w1 ⟨rfl, hB1⟩
        rw [hpx]
        go_wp2_with fail
        go_ret
        refine ⟨Below.trans HBR.out (hB1.mono HBR.out.size), i, HLOW.out, Or.inl ⟨hlt, fun y hy => ?_, rfl⟩⟩
        rw [HX.out] at hy
        injection hy with hy
        rw [← hy]; exact hpx
    · obtain rfl : i = n := by omega
      go_wp2_with fail
      go_ret
      exact ⟨HBR.out, i, HLOW.out, Or.inr ⟨rfl, rfl⟩⟩

end Go.Proofs.Ytgnhjcgegibpdaa
