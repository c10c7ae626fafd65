/- DigestParts: the walk. No statement is proved here. -/
import Derived.Test.YtgcinbkecgfmbaaDoorTags
import Derived.Test.YtgcinbkecgfmbaaDoorCame
import Derived.Laws.AppendOwn
import Derived.Laws.OwnMore
import Derived.OwnWalk
namespace Go.Proofs.YtgcinbkecgfmbaaDoor
open Go.RowKit

theorem info9s : (Tryd.prog.info? 9).map (fun i => (i.zero, i.size, i.bytes)) = some (some (.string ⟨#[]⟩), 1, 16) := by kernel_rfl
theorem info9_parts : ∃ i : TypeInfo, Tryd.prog.info? 9 = some i ∧ i.zero = some (.string ⟨#[]⟩) ∧ i.size = 1 ∧ i.bytes = 16 := by
  obtain ⟨i, hi, he⟩ := Option.map_eq_some_iff.1 info9s
  simp only [Prod.mk.injEq] at he
  exact ⟨i, hi, he.1, he.2.1, he.2.2⟩

theorem want_yes {ops : Array Oper} {o ok : Oper} {tmps : Array Value} {k d : Nat} {b : Bool} (hg : o.guard = some (k, b)) (hk : ops[k]? = some ok) (hd : ok.dst = some d) (hv : tmps[d]? = some (.bool b)) : Region.wanted o (yielded ops tmps) = true := by
  simp [Region.wanted, hg, yielded, hk, hd, hv]
/-- A guarded append that is wanted, whose run is known. -/
theorem wpList_app {P : Program} {w : World} {ops : Array Oper} {rest : List Oper} {o : Oper} {a : Act} {Q : Exit → Act → World → Prop} {ok : Oper} {k d : Nat} {b : Bool} (hg : o.guard = some (k, b)) (hk : ops[k]? = some ok) (hd : ok.dst = some d) (hv : a.tmps[d]? = some (.bool b))
    (s x : Operand) (t : TypeId) (ho : o.op = .call { callee := .builtin .append, args := #[s, x], argTypes := #[t, t] }) (v1 v2 : Value) (hs : a.eval s = v1) (hx : a.eval x = v2) (v' : Value) (w' : World)
    (hr : (Builtin.append_ #[t, t] o.type #[v1, v2]).run P w = .ok v' w') (h : wpList P ops Q rest (a.put o.dst v') w') : wpList P ops Q (o :: rest) a w := by
  refine wpList_step fun K hK => ?_
  rw [if_pos (want_yes hg hk hd hv)]
  unfold Oper.wp execOp
  simp only [ho, resolve, invoke, builtin, Sem.run_bind, Sem.run_pure, Result.andThen_ok, List.map_toArray, List.map_cons, List.map_nil, hs, hx, hr]
  exact hK _ _ h

/-- Texts as values. -/
def strV (ls : List (List UInt8)) : List Value := ls.map fun l => .string (strB l)

theorem app_strs (w : World) (base : Nat) (A : Option Addr) (len cap : Nat) (ls ms : List (List UInt8)) (hS : StrsIn w A ls) (hl : ls.length = len) (hnil : A = none → len = 0 ∧ cap = 0)
    (g0 n c0 : Nat) (hown : w.ownsRow base 9 1 (.slice (some ⟨g0, 0, none⟩) n c0) n (strV ms)) (hb : base ≤ w.heap.size) (hlen : n + len ≤ 1000) :
    ∃ g c w', (Builtin.append_ #[22, 22] 22 #[.slice (some ⟨g0, 0, none⟩) n c0, .slice A len cap]).run Tryd.prog w = .ok (.slice (some ⟨g, 0, none⟩) (n + len) c) w' ∧
      w'.ownsRow base 9 1 (.slice (some ⟨g, 0, none⟩) (n + len) c) (n + len) (strV (ms ++ ls)) ∧ Below base w w' := by
  obtain ⟨i, hi, hz0, hz1, hz2⟩ := info9_parts
  cases A with
  | none =>
    obtain ⟨rfl, rfl⟩ := hnil rfl
    obtain rfl : ls = [] := List.eq_nil_of_length_eq_zero hl
    refine ⟨g0, c0, w, run_append_owned_none w base 22 22 9 i 1 Tryd.underlying22 hi _ n _ hown, ?_, Below.refl _ _⟩
    rw [List.append_nil]
    exact hown
  | some a =>
    have hat : ∀ (j : Nat) (u : Value), (strV ls)[j]? = some u → w.cell? (a.add j) = some u := by
      intro j u hu
      have hj : j < ls.length := by
        have := (List.getElem?_eq_some_iff.1 hu).1
        simpa [strV] using this
      obtain ⟨b, off, hab, hlt, hc⟩ := hS (by omega)
      cases hab
      have hp : (⟨b, off, none⟩ : Addr).add j = ⟨b, off + j, none⟩ := by unfold Addr.add; split <;> simp_all
      rw [hp, hc j hj, ← hu]
      simp [strV, List.getD_eq_getElem?_getD, List.getElem?_eq_getElem hj]
    obtain ⟨v', w', hr, hown', hg, hn'⟩ := run_append_own w base 22 22 9 i (.string ⟨#[]⟩) 1 16 Tryd.underlying22 hi hz0 hz1 hz2 rfl (by decide) (.slice (some ⟨g0, 0, none⟩) n c0) n (strV ms) hown a len cap (strV ls)
      (by simp [strV, hl]) hat (by intro u hu; obtain ⟨l, _, rfl⟩ := List.mem_map.1 hu; rfl) (by simp only [maxLen]; omega) (by omega) hb
    have hB : Below base w w' := (Below.refl base w).grown hg hb (fun k hk => (hown.lt k hk).1)
    have hown2 := hown'
    rcases hown'.2 with ⟨rfl, _⟩ | ⟨g, c, cur, rfl, _⟩
    · obtain ⟨h1, _⟩ := hn'.1 rfl
      cases h1
    · refine ⟨g, c, w', hr, ?_, hB⟩
      have e : strV (ms ++ ls) = strV ms ++ strV ls := by simp [strV]
      rw [e]
      exact hown2

theorem strs_of_own {w : World} {base g n c : Nat} {ls : List (List UInt8)} (h : w.ownsRow base 9 1 (.slice (some ⟨g, 0, none⟩) n c) n (strV ls)) : StrsIn w (some ⟨g, 0, none⟩) ls := by
  intro hl
  refine ⟨g, 0, rfl, (h.lt g rfl).2, fun j hj => ?_⟩
  have := h.cells (g := g) rfl j (.string (strB (ls.getD j []))) (by simp [strV, List.getD_eq_getElem?_getD, List.getElem?_eq_getElem hj])
  have hp : (⟨g, 0, none⟩ : Addr).add j = ⟨g, j, none⟩ := by unfold Addr.add; split <;> simp_all
  rw [hp] at this
  rw [Nat.zero_add]
  exact this

/-- The two appends. -/
theorem two_more (w : World) (A : Option Addr) (len cap : Nat) (ls : List (List UInt8)) (hS : StrsIn w A ls) (hl : ls.length = len) (hnil : A = none → len = 0 ∧ cap = 0) (h99 : len ≤ 99) :
    ∃ g c w1 g2 c2 w2, (Builtin.append_ #[22, 22] 22 #[.slice (some ⟨w.heap.size, 0, none⟩) 0 0, .slice A len cap]).run Tryd.prog (w.alloc (.cells #[] 9)) = .ok (.slice (some ⟨g, 0, none⟩) len c) w1 ∧
      (Builtin.append_ #[22, 22] 22 #[.slice (some ⟨g, 0, none⟩) len c, .slice (some ⟨w1.heap.size, 0, none⟩) 1 1]).run Tryd.prog (w1.alloc (.cells #[.string ⟨#[120]⟩] 9)) = .ok (.slice (some ⟨g2, 0, none⟩) (len + 1) c2) w2 ∧
      StrsIn w2 (some ⟨g2, 0, none⟩) (ls ++ [[120]]) ∧ Below w.heap.size w w2 := by
  have hB0 : Below w.heap.size w (w.alloc (.cells #[] 9)) := (Below.refl _ _).alloc (Nat.le_refl _) _
  have hown0 : (w.alloc (.cells #[] 9)).ownsRow w.heap.size 9 1 (.slice (some ⟨w.heap.size, 0, none⟩) 0 0) 0 (strV []) := World.ownsRow_lit w #[] 0 (Nat.le_refl _) (by decide) rfl
  obtain ⟨g, c, w1, hr1, hown1, hB1⟩ := app_strs (w.alloc (.cells #[] 9)) w.heap.size A len cap ls [] (hS.below hB0) hl hnil w.heap.size 0 0 hown0 (by simp) (by omega)
  rw [Nat.zero_add] at hr1 hown1
  rw [List.nil_append] at hown1
  have hS1 : StrsIn (w1.alloc (.cells #[.string ⟨#[120]⟩] 9)) (some ⟨w1.heap.size, 0, none⟩) [[120]] := fun _ => ⟨w1.heap.size, 0, rfl, by simp, fun j hj => by
    obtain rfl : j = 0 := by simpa using hj
    rw [cell_of_row _ _ _ _ _ _ (heap_alloc_new w1 _)]; rfl⟩
  have hsz : w.heap.size ≤ w1.heap.size := Nat.le_trans hB0.size hB1.size
  obtain ⟨g2, c2, w2, hr2, hown2, hB2⟩ := app_strs (w1.alloc (.cells #[.string ⟨#[120]⟩] 9)) w.heap.size (some ⟨w1.heap.size, 0, none⟩) 1 1 [[120]] ls hS1 rfl (fun h => by cases h) g len c (hown1.alloc _) (by simp; omega) (by omega)
  exact ⟨g, c, w1, g2, c2, w2, hr1, hr2, strs_of_own hown2, (hB0.trans hB1).trans (((Below.refl _ _).alloc hsz _).trans hB2)⟩

theorem dec_pos (n : Nat) : 1 ≤ (Lib.decDigits n).length := by
  by_cases h : n < 10
  · rw [dec_one h]; simp
  · rw [dec_snoc h]; simp
theorem joinL_size (ls : List (List UInt8)) : (joinL ls).length = 17 + (Lib.decDigits ls.length).length := by
  rw [joinL_is, List.length_append, List.length_append, tagL_len]
  rfl
theorem joinL_16 (ls : List (List UInt8)) : (joinL ls).getD 16 0 = 45 := by
  unfold joinL
  rw [List.getD_eq_getElem?_getD, List.getElem?_append_right (by rw [tagL_len]; exact Nat.le_refl _), tagL_len]
  rfl
theorem joinL_17 (ls : List (List UInt8)) : (joinL ls).drop 17 = Lib.decDigits ls.length := by
  rw [joinL_is, List.drop_left' (by rw [List.length_append, tagL_len]; rfl)]

theorem tail_run (ls : List (List UInt8)) (D : List UInt8) (hD : Lib.decDigits ls.length = D) (w : World) :
    Sem.run Tryd.prog (Instr.slice 9 (.string (strB (joinL ls))) (some (.int .i64 17)) none none) w = .ok (.string (strB D)) w := by
  have h1 := joinL_size ls
  have := run_slice_string_l (P := Tryd.prog) (w := w) (t := 9) (s := strB (joinL ls)) Tryd.underlying9 .i64 17 (by decide) (by rw [strB_size]; omega)
  rw [this]
  congr 2
  show (strB (joinL ls)).extract 17 _ = _
  rw [strB_size, strB_extract, List.take_length, joinL_17, hD]

set_option maxRecDepth 100000 in
set_option maxHeartbeats 4000000 in
theorem parts_few (A : Option Addr) (len cap : Nat) (ls : List (List UInt8)) (w : World) (hC : Came w A len ls) (hnil : A = none → len = 0 ∧ cap = 0) (h99 : len ≤ 99) (hp : Pow w) :
    Calls Tryd.prog 5 #[.slice A len cap] w fun e w' => e = .returned (.bool true) ∧ Below w.heap.size w w' := by
  have HC := Lib.hid hC
  have HP := Lib.hid hp
  clear hC hp
  have g : ¬ (99 : Int) < len := by omega
  go_enter Tryd.func5, Tryd.ntmps5
  go_wp2_with fail
  go_loop [3, 4] (fun vn vi => ∃ (k N : Nat), k ≤ len ∧ vi = .int .i64 k ∧ vn = .int .i64 N ∧ Hid (N = (ls.take k).flatten.length)) (fun _ vi => len - (intOf vi).toNat)
  case atStart => exact ⟨0, 0, Nat.zero_le _, rfl, rfl, Lib.hid rfl⟩
  case round =>
    obtain ⟨k, N, hk, rfl, rfl, HN⟩ := hrel
    by_cases h : k < len
    · have g2 : (k : Int) < len := by omega
      have hkl : k < ls.length := by rw [HC.out.many]; exact h
      obtain ⟨b, off, rfl, hlt, hc⟩ := HC.out.lie (by omega)
      have hc' := hc k hkl
      have HF := Lib.hid (flat_take ls k hkl)
      have he := HC.out.each k h
      have hNb : N ≤ 28147497670246400 := by
        have h1 := flat_le ls k (Nat.le_of_lt hkl) (fun j hj => HC.out.each j (by rw [← HC.out.many]; exact hj))
        have h2 : N ≤ k * 140737488351232 := HN.out ▸ h1
        omega
      obtain ⟨x, hx⟩ : ∃ x, x = ls.getD k [] := ⟨_, rfl⟩
      rw [← hx] at hc' HF he
      have hxs := strB_size x
      clear hc hx hnil
      go_wp2_with fail
      go_round
      case rel => exact ⟨k + 1, N + x.length, by omega, by go_num, by go_num, Lib.hid (by rw [HF.out, List.length_append, ← HN.out])⟩
      case measure => simp [intOf]; omega
    · obtain rfl : k = len := by omega
      have HN' : Hid (N = ls.flatten.length) := Lib.hid (by have := HN.out; rwa [← HC.out.many, List.take_length] at this)
      by_cases h4 : N ≤ 1000
      · have g4 : ¬ (1000 : Int) < N := by omega
        have HNE := Lib.hid (beq_ne (l := joinL (ls ++ [[120]])) (m := joinL ls) (fun e => by
          have := joinL_count e
          simp at this))
        have hne := HNE.out
        have hsz : (strB (joinL ls)).size = 17 + (Lib.decDigits ls.length).length := by rw [strB_size, joinL_size]
        have hdp := dec_pos ls.length
        have hdl := dec_len ls.length (by rw [HC.out.many]; omega)
        have g5 : ¬ ((strB (joinL ls)).size : Int) < 18 := by omega
        have h16 : ∀ h', (strB (joinL ls))[16]'h' = 45 := fun h' => (at_strB _ _ h').trans (joinL_16 ls)
        have hml := HC.out.many
        by_cases hten : k < 10
        · have hD : Lib.decDigits ls.length = [dgt k] := by rw [hml]; exact dec_one hten
          have hsl := tail_run ls [dgt k] hD
          have hq : (k : Int) / 10 = 0 := by omega
          have hd : (k : Int) % 10 = (k : Nat) := by omega
          have hr := digit_run k hten
          obtain ⟨J, hJ⟩ : ∃ J, J = joinL ls := ⟨_, rfl⟩
          rw [← hJ] at hne hsz g5 h16 hsl
          have HJ := Lib.hid hJ
          clear hJ hsz hdp hdl
          go_wp2_with fail
          (with_reducible refine (joined_calls A k cap ls _ HC.out.lie HC.out.many (by omega) (by rw [← HN'.out]; omega) (fun h => absurd h (by omega))).mono ?_)
          rintro e w1 ⟨rfl, hB⟩
          have B1 := Lib.hid hB
          clear hB
          rw [← HJ.out]
          go_wp2_with fail
          (with_reducible refine (awake_true _).mono ?_)
          rintro e w2 ⟨rfl, hB⟩
          have B2 := Lib.hid (two_below B1.out hB)
          clear hB B1
          obtain ⟨g1, c1, W1, g2, c2, W2, r1, r2, hS2, hB⟩ := two_more w2 A k cap ls (HC.out.lie.below B2.out) HC.out.many hnil (by omega)
          have HS2 := Lib.hid hS2
          have R1 := Lib.hid r1
          have R2 := Lib.hid r2
          have B3 := Lib.hid (two_below B2.out hB)
          clear hB B2 hS2 r1 r2
          go_wp2_with (at_builtin; first | refine wpList_app (by rfl) (by rfl) (by rfl) (by rfl) (.tmp 66) (.tmp 67) 22 (by rfl) _ _ (by rfl) (by rfl) _ _ R1.out ?_ | refine wpList_app (by rfl) (by rfl) (by rfl) (by rfl) (.tmp 68) (.tmp 69) 22 (by rfl) _ _ (by rfl) (by rfl) _ _ R2.out ?_)
          (with_reducible refine (joined_calls (some ⟨g2, 0, none⟩) (k + 1) c2 (ls ++ [[120]]) _ HS2.out (by simp [HC.out.many]) (by omega) (by rw [List.flatten_append, List.length_append, ← HN'.out]; simp; omega) (fun _ => HP.out.below B3.out)).mono ?_)
          rintro e w4 ⟨rfl, hB⟩
          have B4 := Lib.hid (two_below B3.out hB)
          clear hB B3
          go_wp2_with fail
          go_ret
          exact ⟨by simp, B4.out⟩
        · have hD : Lib.decDigits ls.length = [dgt (k / 10)] ++ [dgt (k % 10)] := by rw [hml, dec_snoc hten, dec_one (by omega)]
          have hsl := tail_run ls _ hD
          obtain ⟨q, hq'⟩ : ∃ q, q = k / 10 := ⟨_, rfl⟩
          obtain ⟨d, hd'⟩ : ∃ d, d = k % 10 := ⟨_, rfl⟩
          have hq : (k : Int) / 10 = (q : Nat) := by omega
          have hd : (k : Int) % 10 = (d : Nat) := by omega
          have hq0 : (0 : Int) < (q : Nat) := by omega
          have hr := digit_run d (by omega)
          have hr2 := digit_run q (by omega)
          rw [← hq', ← hd'] at hsl
          have hz : ¬ 9223372036854775807 < (strB [dgt q]).size + (strB [dgt d]).size := by rw [strB_size, strB_size]; simp
          have hap := strB_append [dgt q] [dgt d]
          clear hq' hd' hD
          obtain ⟨J, hJ⟩ : ∃ J, J = joinL ls := ⟨_, rfl⟩
          rw [← hJ] at hne hsz g5 h16 hsl
          have HJ := Lib.hid hJ
          clear hJ hsz hdp hdl
          go_wp2_with fail
          (with_reducible refine (joined_calls A k cap ls _ HC.out.lie HC.out.many (by omega) (by rw [← HN'.out]; omega) (fun h => absurd h (by omega))).mono ?_)
          rintro e w1 ⟨rfl, hB⟩
          have B1 := Lib.hid hB
          clear hB
          rw [← HJ.out]
          go_wp2_with fail
          (with_reducible refine (awake_true _).mono ?_)
          rintro e w2 ⟨rfl, hB⟩
          have B2 := Lib.hid (two_below B1.out hB)
          clear hB B1
          obtain ⟨g1, c1, W1, g2, c2, W2, r1, r2, hS2, hB⟩ := two_more w2 A k cap ls (HC.out.lie.below B2.out) HC.out.many hnil (by omega)
          have HS2 := Lib.hid hS2
          have R1 := Lib.hid r1
          have R2 := Lib.hid r2
          have B3 := Lib.hid (two_below B2.out hB)
          clear hB B2 hS2 r1 r2
          go_wp2_with (at_builtin; first | refine wpList_app (by rfl) (by rfl) (by rfl) (by rfl) (.tmp 66) (.tmp 67) 22 (by rfl) _ _ (by rfl) (by rfl) _ _ R1.out ?_ | refine wpList_app (by rfl) (by rfl) (by rfl) (by rfl) (.tmp 68) (.tmp 69) 22 (by rfl) _ _ (by rfl) (by rfl) _ _ R2.out ?_)
          (with_reducible refine (joined_calls (some ⟨g2, 0, none⟩) (k + 1) c2 (ls ++ [[120]]) _ HS2.out (by simp [HC.out.many]) (by omega) (by rw [List.flatten_append, List.length_append, ← HN'.out]; simp; omega) (fun _ => HP.out.below B3.out)).mono ?_)
          rintro e w4 ⟨rfl, hB⟩
          have B4 := Lib.hid (two_below B3.out hB)
          clear hB B3
          go_wp2_with fail
          go_ret
          exact ⟨by simp, B4.out⟩
      · have g4 : (1000 : Int) < N := by omega
        go_wp2_with fail
        (with_reducible refine (awake_true _).mono ?_)
        rintro e w3 ⟨rfl, hB3⟩
        go_wp2_with fail
        go_ret
        exact ⟨rfl, hB3⟩

set_option maxHeartbeats 2000000 in
theorem parts_many (A : Option Addr) (len cap : Nat) (ls : List (List UInt8)) (w : World) (hC : Came w A len ls) (h99 : 99 < len) :
    Calls Tryd.prog 5 #[.slice A len cap] w fun e w' => e = .returned (.bool true) ∧ Below w.heap.size w w' := by
  have HC := Lib.hid hC
  have hmost := hC.most
  clear hC
  have g : (99 : Int) < len := by omega
  go_enter Tryd.func5, Tryd.ntmps5
  go_wp2_with fail
  go_loop [3, 4] (fun vn vi => ∃ (k : Nat) (N : Int), k ≤ len ∧ vi = .int .i64 k ∧ vn = .int .i64 N) (fun _ vi => len - (intOf vi).toNat)
  case atStart => exact ⟨0, 0, Nat.zero_le _, rfl, rfl⟩
  case round =>
    obtain ⟨k, N, hk, rfl, rfl⟩ := hrel
    by_cases h : k < len
    · have g2 : (k : Int) < len := by omega
      obtain ⟨b, off, rfl, hlt, hc⟩ := HC.out.lie (by rw [HC.out.many]; omega)
      have hc' := hc k (by rw [HC.out.many]; omega)
      generalize strB (ls.getD k []) = x at hc'
      clear hc
      go_wp2_with fail
      go_round
      case rel => exact ⟨k + 1, _, by omega, by go_num, rfl⟩
      case measure => simp [intOf]; omega
    · obtain rfl : k = len := by omega
      by_cases h4 : 1000 < N
      · go_wp2_with fail
        (with_reducible refine (awake_true _).mono ?_)
        rintro e w3 ⟨rfl, hB3⟩
        go_wp2_with fail
        go_ret
        exact ⟨rfl, hB3⟩
      · go_wp2_with fail
        (with_reducible refine (awake_true _).mono ?_)
        rintro e w3 ⟨rfl, hB3⟩
        go_wp2_with fail
        go_ret
        exact ⟨rfl, hB3⟩

theorem parts_calls (A : Option Addr) (len cap : Nat) (ls : List (List UInt8)) (w : World) (hC : Came w A len ls) (hnil : A = none → len = 0 ∧ cap = 0) (hp : Pow w) :
    Calls Tryd.prog 5 #[.slice A len cap] w fun e w' => e = .returned (.bool true) ∧ Below w.heap.size w w' := by
  by_cases h : len ≤ 99
  · exact parts_few A len cap ls w hC hnil h hp
  · exact parts_many A len cap ls w hC (by omega)

open Go.ChangeShapes Go.WideShapes Go.ChangeAt in
theorem nil_of {H : Type} {enc : TypeId × Value → H} {W : World} {a : Option Addr} {len cap : Nat} {d : DataW H} {p : List MemPlace}
    (h : ∃ fuel, DataW.trod enc Tryd.prog W 0 (fun _ => true) true fuel 22 (Value.cells (.slice a len cap)).toList = some (d, p)) : a = none → len = 0 ∧ cap = 0 := by
  rintro rfl
  obtain ⟨fuel, hf⟩ := h
  rcases open_strings Tryd.underlying22 Tryd.underlying9 (by kernel_rfl) hf with ⟨hcs, _⟩ | ⟨x, l, c, ss, hcs, _⟩
  · simp [Value.cells] at hcs
    exact hcs
  · simp [Value.cells] at hcs
end Go.Proofs.YtgcinbkecgfmbaaDoor
