/- old.Print with its parts: what each call does. No statement is proved here. -/
import Derived.Test.YtkfoppjogdphiaaRRight
import Derived.Test.YtkfoppjogdphiaaCJoins
import Derived.Test.YtkfoppjogdphiaaWWr
namespace Go.Proofs.Ytkfoppjogdphiaa
open Go.RowKit
open Go.Sort (grow)
open Wire (textL twoL fourL)

set_option maxHeartbeats 1000000 in
theorem flag_calls (b : Bool) (w : World) : Calls Try.prog 18 #[.bool b] w fun e w' => e = .returned (.string (strB (flagL b))) ∧ w' = w := by
  cases b
  all_goals
    go_enter Try.func18, Try.ntmps18
    go_wp2_with fail
    go_ret
    exact ⟨rfl, rfl⟩

set_option maxHeartbeats 1000000 in
theorem start_calls (r : Rec) (A : Option Addr) (n c : Nat) (w : World) (hv : Sps w (.slice A n c) r.spans) :
    Calls Try.prog 20 #[recV r (.slice A n c)] w fun e w' => e = .returned (.int .i64 (startI r.spans)) ∧ Below w.heap.size w w' := by
  have hn := hv.at_.1
  unfold recV
  by_cases h0 : n = 0
  · subst h0
    have e1 : startI r.spans = 0 := by rw [List.eq_nil_of_length_eq_zero hn]; rfl
    rw [e1]
    clear hv hn e1
    go_enter Try.func20, Try.ntmps20
    go_wp2_with fail
    go_ret
    exact ⟨rfl, below_one _ _⟩
  · obtain ⟨b, off, rfl, hl, hx⟩ := hv.at_.2.2 (by omega)
    obtain ⟨x, hx0⟩ : ∃ x, r.spans[0]? = some x := ⟨_, List.getElem?_eq_getElem (by omega)⟩
    have p0 := (hx 0 x hx0).1
    rw [Nat.zero_mul, Nat.add_zero] at p0
    have e1 : startI r.spans = x.1 := by
      cases hs : r.spans with
      | nil => rw [hs] at hx0; cases hx0
      | cons y l => rw [hs] at hx0; injection hx0 with h; rw [← h]; rfl
    rw [e1]
    have p1 : (w.alloc (.cells (recC r (.slice (some ⟨b, off, none⟩) n c)) 26)).cell? ⟨b, off, none⟩ = some (.int .i64 x.1) := ((below_one _ _).cell (p := ⟨b, off, none⟩) hl).trans p0
    unfold recC at p1
    have hn' : ((n : Int) == 0) = false := by simpa using h0
    have hn2 : (0 : Int) < (n : Int) := by omega
    clear hv hx hx0 p0 e1 hn
    go_enter Try.func20, Try.ntmps20
    go_wp2_with fail
    go_ret
    exact ⟨rfl, below_one _ _⟩

/-- A contract that lays blocks, in a world of the class. -/
theorem rg {f : FuncId} {args : Array Value} {v : Value} (h : ∀ W, Calls Try.prog f args W fun e w' => e = .returned v ∧ Below W.heap.size W w') (Y : World) :
    ∀ d os, Calls Try.prog f args (grow (redrawn Y d) os) fun e w'' => e = .returned v ∧ ∃ p : Regrown, w'' = grow (redrawn Y p.d) p.os :=
  fun _ _ => Calls.regrown_of (h _)
theorem rg0 {f : FuncId} {args : Array Value} {v : Value} (h : ∀ W, Calls Try.prog f args W fun e w' => e = .returned v ∧ w' = W) (Y : World) :
    ∀ d os, Calls Try.prog f args (grow (redrawn Y d) os) fun e w'' => e = .returned v ∧ ∃ p : Regrown, w'' = grow (redrawn Y p.d) p.os :=
  fun d os => (h _).mono fun _ _ ⟨he, hw⟩ => ⟨he, ⟨d, os⟩, hw⟩

set_option maxRecDepth 100000 in
set_option maxHeartbeats 8000000 in
theorem print_walk (r : Rec) (A : Option Addr) (n c : Nat) (w : World) (hv : Sps w (.slice A n c) r.spans) (T1 T2 T3 T4 T5 T6 T7 T8 P : ByteArray) (st : Int)
    (g1 : T1.size ≤ 70000) (g2 : T2.size ≤ 70000) (g3 : T3.size ≤ 70000) (g4 : T4.size ≤ 70000) (g5 : T5.size ≤ 70000) (g6 : T6.size ≤ 70000) (g7 : T7.size ≤ 70000) (g8 : T8.size ≤ 70000)
    (h1 : Hid (∀ W, Calls Try.prog 16 #[.string (strB r.it.mt)] W fun e w' => e = .returned (.string T1) ∧ Below W.heap.size W w'))
    (h2 : Hid (∀ W, Calls Try.prog 16 #[.string (strB r.it.tag)] W fun e w' => e = .returned (.string T2) ∧ Below W.heap.size W w'))
    (h3 : Hid (∀ W, Calls Try.prog 16 #[.string (strB r.it.key)] W fun e w' => e = .returned (.string T3) ∧ Below W.heap.size W w'))
    (h4 : Hid (∀ W, Calls Try.prog 17 #[.int .i64 r.it.seq] W fun e w' => e = .returned (.string T4) ∧ Below W.heap.size W w'))
    (h5 : Hid (∀ W, Calls Try.prog 17 #[.int .i64 r.it.ver] W fun e w' => e = .returned (.string T5) ∧ Below W.heap.size W w'))
    (h6 : Hid (∀ W, Calls Try.prog 18 #[.bool r.it.mark] W fun e w' => e = .returned (.string T6) ∧ w' = W))
    (h7 : Hid (∀ W, Calls Try.prog 19 #[.int .i64 r.size] W fun e w' => e = .returned (.string T7) ∧ Below W.heap.size W w'))
    (hs : Hid (∀ W, Sps W (.slice A n c) r.spans → Calls Try.prog 20 #[recV r (.slice A n c)] W fun e w' => e = .returned (.int .i64 st) ∧ Below W.heap.size W w'))
    (h8 : Hid (∀ W, Calls Try.prog 19 #[.int .i64 st] W fun e w' => e = .returned (.string T8) ∧ Below W.heap.size W w'))
    (h9 : Hid (∀ W, Calls Try.prog 15 #[.string (⟨#[79, 66, 74, 49]⟩ ++ T1 ++ T2 ++ T3 ++ T4 ++ T5 ++ T6 ++ T7 ++ T8)] W fun e w' => e = .returned (.string P) ∧ Below W.heap.size W w')) :
    Calls Try.prog 8 #[recV r (.slice A n c)] w fun e w' => e = .returned (.string P) ∧ Below w.heap.size w w' := by
  obtain ⟨Y, hY, hbY, hBox, hBY⟩ : ∃ Y, Y = (w.alloc (.cells (recC r (.slice A n c)) 26)).alloc (.cells #[.string (strB r.it.key), .int .i64 r.it.seq, .int .i64 r.it.ver, .bool r.it.mark, .string (strB r.it.mt), .string (strB r.it.tag), .string (strB r.it.body)] 23) ∧ RBox Y w.heap.size r (.slice A n c) ∧ Itm.At7 Y (w.heap.size + 1) 0 r.it ∧ Below w.heap.size w Y := by
    refine ⟨_, rfl, (RBox.new w r _).below (below_one _ _), ?_, below_trans' (below_one _ _) (below_one _ _)⟩
    have := heap_alloc_new (w.alloc (.cells (recC r (.slice A n c)) 26)) (.cells #[.string (strB r.it.key), .int .i64 r.it.seq, .int .i64 r.it.ver, .bool r.it.mark, .string (strB r.it.mt), .string (strB r.it.tag), .string (strB r.it.body)] 23)
    rw [show (w.alloc (.cells (recC r (.slice A n c)) 26)).heap.size = w.heap.size + 1 by simp] at this
    exact Itm.Box.at_ (x := r.it) this
  have q := fun d os => hbY.at_.below hbY.lt (below_regrown Y d os)
  have k0 := fun d os => (q d os).c0
  have k1 := fun d os => (q d os).c1
  have k2 := fun d os => (q d os).c2
  have k3 := fun d os => (q d os).c3
  have k4 := fun d os => (q d os).c4
  have k5 := fun d os => (q d os).c5
  have k6 := fun d os => (q d os).c6
  have k7 := fun d os => (q d os).c7
  have k8 := fun d os => (q d os).c8
  have j0 := fun d os => cell_regrown hBox.c0 d os
  have j1 := fun d os => cell_regrown hBox.c1 d os
  have j2 := fun d os => cell_regrown hBox.c2 d os
  have j3 := fun d os => cell_regrown hBox.c3 d os
  have j4 := fun d os => cell_regrown hBox.c4 d os
  have j5 := fun d os => cell_regrown hBox.c5 d os
  simp only [Nat.zero_add] at j0 j1 j2 j3 j4 j5
  have hvY := hv.below hBY
  have C1 := Lib.hid (rg h1.out Y)
  have C2 := Lib.hid (rg h2.out Y)
  have C3 := Lib.hid (rg h3.out Y)
  have C4 := Lib.hid (rg h4.out Y)
  have C5 := Lib.hid (rg h5.out Y)
  have C6 := Lib.hid (rg0 h6.out Y)
  have C7 := Lib.hid (rg h7.out Y)
  have CS : Hid (∀ d os, _) := Lib.hid (fun d os => Calls.regrown_of (w := Y) (d := d) (os := os) (hs.out _ (hvY.below (below_regrown Y d os))))
  have C8 := Lib.hid (rg h8.out Y)
  have C9 := Lib.hid (rg h9.out Y)
  have HY := Lib.hid hY
  have HBY := Lib.hid hBY
  unfold recC at HY
  unfold recV at CS
  clear hY hbY hBox hBY q hvY hv h1 h2 h3 h4 h5 h6 h7 hs h8 h9
  unfold recV
  go_enter Try.func8, Try.ntmps8
  go_wp2_with fail
  rw [← HY.out]
  refine wp_region_quiet_below (by kernel_rfl) (by kernel_rfl) ?_
  (try simp only [List.append_eq, List.cons_append, List.nil_append])
  repeat (first | go_big_quiet_step (first | (with_reducible exact C1.out _ _) | (with_reducible exact C2.out _ _) | (with_reducible exact C3.out _ _) | (with_reducible exact C4.out _ _) | (with_reducible exact C5.out _ _) | (with_reducible exact C6.out _ _) | (with_reducible exact C7.out _ _) | (with_reducible exact CS.out _ _) | (with_reducible exact C8.out _ _) | (with_reducible exact C9.out _ _)))
  refine wpQuiet_nil ?_
  intro _ hw'
  obtain ⟨⟨dq, osq⟩, hw''⟩ := hw'
  subst hw''
  go_wp2_with fail
  go_ret
  exact ⟨rfl, Below.trans HBY.out ((below_regrown Y dq osq).mono HBY.out.size)⟩

theorem print_bytes (r : Rec) : (⟨#[79, 66, 74, 49]⟩ ++ strB (textL r.it.mt) ++ strB (textL r.it.tag) ++ strB (textL r.it.key) ++ strB (fourL r.it.seq) ++ strB (fourL r.it.ver) ++ strB (flagL r.it.mark) ++ strB (twoL r.size) ++ strB (twoL (startI r.spans)) : ByteArray) = strB (bodyL r) := by
  rw [show (⟨#[79, 66, 74, 49]⟩ : ByteArray) = strB kindL from rfl]
  simp only [strB_append, List.append_assoc]
  rfl

theorem text_size (l : List UInt8) : (strB (textL l)).size ≤ 70000 := by rw [strB_size, Wire.textL_len]; omega

theorem body_len (r : Rec) : (bodyL r).length ≤ 300000 := by
  have h1 := Wire.textL_len r.it.mt
  have h2 := Wire.textL_len r.it.tag
  have h3 := Wire.textL_len r.it.key
  simp only [bodyL, kindL, restL, List.length_append, Wire.fourL_len, Wire.twoL_len, flagL_len, List.length_cons, List.length_nil]
  omega

theorem print_calls (r : Rec) (A : Option Addr) (n c : Nat) (w : World) (hv : Sps w (.slice A n c) r.spans) :
    Calls Try.prog 8 #[recV r (.slice A n c)] w fun e w' => e = .returned (.string (strB (printL r))) ∧ Below w.heap.size w w' := by
  refine print_walk r A n c w hv _ _ _ _ _ _ _ _ _ _ (text_size _) (text_size _) (text_size _) ?_ ?_ ?_ ?_ ?_ (Lib.hid (Wire.text_calls _)) (Lib.hid (Wire.text_calls _)) (Lib.hid (Wire.text_calls _)) (Lib.hid (Wire.four_calls _)) (Lib.hid (Wire.four_calls _)) (Lib.hid (flag_calls _)) (Lib.hid (Wire.two_calls _)) (Lib.hid (fun W h => start_calls r A n c W h)) (Lib.hid (Wire.two_calls _)) (Lib.hid fun W => ?_)
  · rw [strB_size, Wire.fourL_len]; omega
  · rw [strB_size, Wire.fourL_len]; omega
  · rw [strB_size, flagL_len]; omega
  · rw [strB_size, Wire.twoL_len]; omega
  · rw [strB_size, Wire.twoL_len]; omega
  · rw [print_bytes]
    have hl := body_len r
    exact Crc.seal_calls (strB (bodyL r)) W (by rw [strB_size]; omega)

end Go.Proofs.Ytkfoppjogdphiaa
