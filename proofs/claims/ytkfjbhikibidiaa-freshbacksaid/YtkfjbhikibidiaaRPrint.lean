/- fresh.Print with its parts: what each call does. No statement is proved here. -/
import Derived.Test.YtkfjbhikibidiaaRRight
import Derived.Test.YtkfjbhikibidiaaCJoins
import Derived.Test.YtkfjbhikibidiaaWWr
import Derived.Test.YtkfjbhikibidiaaSB
namespace Go.Proofs.Ytkfjbhikibidiaa
open Go.RowKit
open Go.Sort (grow)
open Wire (textL twoL fourL)

set_option maxHeartbeats 1000000 in
theorem flag_calls (b : Bool) (w : World) : Calls Try.prog 18 #[.bool b] w fun e w' => e = .returned (.string (strB (flagL b))) ∧ w' = w := by
  cases b
  all_goals
    go_enter Try.func18, Try.ntmps18
    go_wp2_with fail
    go_ret
    exact ⟨rfl, rfl⟩

theorem SBox.kept {w w' : World} {g b : Nat} {x : Int × Int} (h : SBox w g x) (k : Lib.OthersKept 5 (some b) w w') (hg : g ≠ b) : SBox w' g x :=
  k g _ h (fun e => hg (Option.some.inj e)) (fun c fz e => by injection e with _ e2 _; exact absurd e2 (by decide))

theorem take_next {l : List (Int × Int)} {i : Nat} {x : Int × Int} (h : l[i]? = some x) : spL (l.take (i + 1)) = spL (l.take i) ++ (twoL x.1 ++ twoL x.2) := by
  rw [List.take_add_one, h]
  exact spL_snoc _ _

set_option maxRecDepth 100000 in
set_option maxHeartbeats 4000000 in
theorem runs_calls (l : List (Int × Int)) (A : Option Addr) (n c : Nat) (w : World) (hv : Sps w (.slice A n c) l) (hlen : n ≤ 1000) :
    Calls Try.prog 20 #[.slice A n c] w fun e w' => e = .returned (.string (strB (runsL l))) ∧ Below w.heap.size w w' := by
  have hn := hv.at_.1
  have HN := Lib.hid hn
  have HV := Lib.hid hv
  have HB0 := Lib.hid (Bld.new w)
  clear hn hv
  go_enter Try.func20, Try.ntmps20
  go_wp2_with fail
  (with_reducible refine (Wire.two_calls (n : Int) _).mono ?_)
  rintro e w1 ⟨rfl, hB1⟩
  replace HB0 := Lib.hid (HB0.out.below hB1)
  have hb1 : Below w.heap.size w w1 := below_trans' (below_one _ _) hB1
  clear hB1
  go_wp2_with fail
  (with_reducible refine (bput_calls w.heap.size w.heap.size [] (twoL (n : Int)) _ HB0.out (by rw [Wire.twoL_len]; simp)).mono ?_)
  rintro e w2 ⟨rfl, hB2, hb2, _⟩
  have HBD := Lib.hid hB2
  have HBR0 := Lib.hid (hb1.trans hb2)
  clear hb1 hB2 hb2 HB0
  go_wp2_with fail
  go_loopw [12] (fun u12 wr => ∃ i : Nat, i ≤ n ∧ u12 = .int .i64 i ∧ Hid (Bld w.heap.size w.heap.size (twoL (n : Int) ++ spL (l.take i)) wr) ∧ Hid (Below w.heap.size w wr)) (fun u _ => n - (intOf u).toNat)
  case atStart => exact ⟨0, Nat.zero_le _, rfl, Lib.hid (by simpa [spL] using HBD.out), HBR0⟩
  case round =>
    obtain ⟨i, hi', rfl, HD, HBR⟩ := hrel
    by_cases hlt : i < n
    · obtain ⟨x, hx⟩ : ∃ x, l[i]? = some x := ⟨_, List.getElem?_eq_getElem (by have := HN.out; omega)⟩
      obtain ⟨b, off, rfl, hbl, hcell⟩ := HV.out.at_.2.2 (by omega)
      have c0 := (HBR.out.cell (p := ⟨b, off + i * 2, none⟩) hbl).trans (hcell i x hx).1
      have c1 := (HBR.out.cell (p := ⟨b, off + i * 2 + 1, none⟩) hbl).trans (hcell i x hx).2
      have hi1 : (0 : Int) ≤ (i : Int) := by omega
      have hi2 : (i : Int) < (n : Int) := by omega
      have HT := Lib.hid (take_next hx)
      have HL : Hid ((twoL (n : Int) ++ spL (l.take i)).length ≤ 10000) := Lib.hid (by
        rw [List.length_append, Wire.twoL_len, spL_len, List.length_take]
        omega)
      have HSX := Lib.hid (SBox.new wr x)
      have HD1 := Lib.hid (HD.out.below (below_one wr (.cells #[.int .i64 x.1, .int .i64 x.2] 41)))
      have HB1 := Lib.hid (HBR.out.trans ((below_one wr (.cells #[.int .i64 x.1, .int .i64 x.2] 41)).mono HBR.out.size))
      have hne : wr.heap.size ≠ w.heap.size := by have := HD.out.lt; omega
      clear hcell hx HD HBR
      go_wp2_with fail
      (with_reducible refine (Wire.two_calls x.1 _).mono ?_)
      rintro e w3 ⟨rfl, hB3⟩
      replace HSX := Lib.hid (HSX.out.below hB3)
      replace HD1 := Lib.hid (HD1.out.below hB3)
      replace HB1 := Lib.hid (HB1.out.trans (hB3.mono HB1.out.size))
      clear hB3 c0 c1
      go_wp2_with fail
      (with_reducible refine (bput_calls w.heap.size w.heap.size _ (twoL x.1) _ HD1.out (by rw [Wire.twoL_len]; have := HL.out; omega)).mono ?_)
      rintro e w4 ⟨rfl, hD4, hB4, hK4⟩
      replace HSX := Lib.hid (HSX.out.kept hK4 hne)
      replace HD1 := Lib.hid hD4
      replace HB1 := Lib.hid (HB1.out.trans hB4)
      have d1 := HSX.out.c1
      clear hD4 hB4 hK4
      go_wp2_with fail
      (with_reducible refine (Wire.two_calls x.2 _).mono ?_)
      rintro e w5 ⟨rfl, hB5⟩
      replace HD1 := Lib.hid (HD1.out.below hB5)
      replace HB1 := Lib.hid (HB1.out.trans (hB5.mono HB1.out.size))
      clear hB5 d1 HSX
      go_wp2_with fail
      (with_reducible refine (bput_calls w.heap.size w.heap.size _ (twoL x.2) _ HD1.out (by rw [List.length_append, Wire.twoL_len, Wire.twoL_len]; have := HL.out; omega)).mono ?_)
      rintro e w6 ⟨rfl, hD6, hB6, hK6⟩
      have HD6 : Hid (Bld w.heap.size w.heap.size (twoL (n : Int) ++ spL (l.take (i + 1))) w6) := Lib.hid (by
        rw [HT.out]
        simpa only [List.append_assoc] using hD6)
      have HB6 := Lib.hid (HB1.out.trans hB6)
      clear hD6 hB6 hK6
      go_wp2_with fail
      exact ⟨⟨i + 1, by omega, by go_num, HD6, HB6⟩, by simp [intOf]; omega⟩
    · obtain rfl : i = n := by omega
      have e1 : twoL (i : Int) ++ spL (l.take i) = runsL l := by
        rw [List.take_of_length_le (by rw [HN.out]; exact Nat.le_refl _)]
        unfold runsL
        rw [HN.out]
      rw [e1] at HD
      clear e1
      go_wp2_with fail
      (with_reducible refine (bget_calls w.heap.size w.heap.size _ _ HD.out).mono ?_)
      rintro e w3 ⟨rfl, hB3⟩
      have HB3 := Lib.hid (HBR.out.trans hB3)
      clear hB3
      go_wp2_with fail
      go_ret
      exact ⟨rfl, HB3.out⟩

/-- A contract that lays blocks, in a world of the class. -/
theorem rg {f : FuncId} {args : Array Value} {v : Value} (h : ∀ W, Calls Try.prog f args W fun e w' => e = .returned v ∧ Below W.heap.size W w') (Y : World) :
    ∀ d os, Calls Try.prog f args (grow (redrawn Y d) os) fun e w'' => e = .returned v ∧ ∃ p : Regrown, w'' = grow (redrawn Y p.d) p.os :=
  fun _ _ => Calls.regrown_of (h _)
theorem rg0 {f : FuncId} {args : Array Value} {v : Value} (h : ∀ W, Calls Try.prog f args W fun e w' => e = .returned v ∧ w' = W) (Y : World) :
    ∀ d os, Calls Try.prog f args (grow (redrawn Y d) os) fun e w'' => e = .returned v ∧ ∃ p : Regrown, w'' = grow (redrawn Y p.d) p.os :=
  fun d os => (h _).mono fun _ _ ⟨he, hw⟩ => ⟨he, ⟨d, os⟩, hw⟩

set_option maxRecDepth 100000 in
set_option maxHeartbeats 8000000 in
theorem print_walk (r : Rec) (A : Option Addr) (n c : Nat) (w : World) (hv : Sps w (.slice A n c) r.spans) (T1 T2 T3 T4 T5 T6 T7 T8 P : ByteArray)
    (g1 : T1.size ≤ 70000) (g2 : T2.size ≤ 70000) (g3 : T3.size ≤ 70000) (g4 : T4.size ≤ 70000) (g5 : T5.size ≤ 70000) (g6 : T6.size ≤ 70000) (g7 : T7.size ≤ 70000) (g8 : T8.size ≤ 70000)
    (h1 : Hid (∀ W, Calls Try.prog 16 #[.string (strB r.it.key)] W fun e w' => e = .returned (.string T1) ∧ Below W.heap.size W w'))
    (h2 : Hid (∀ W, Calls Try.prog 17 #[.int .i64 r.it.seq] W fun e w' => e = .returned (.string T2) ∧ Below W.heap.size W w'))
    (h3 : Hid (∀ W, Calls Try.prog 17 #[.int .i64 r.it.ver] W fun e w' => e = .returned (.string T3) ∧ Below W.heap.size W w'))
    (h4 : Hid (∀ W, Calls Try.prog 18 #[.bool r.it.mark] W fun e w' => e = .returned (.string T4) ∧ w' = W))
    (h5 : Hid (∀ W, Calls Try.prog 19 #[.int .i64 r.size] W fun e w' => e = .returned (.string T5) ∧ Below W.heap.size W w'))
    (hs : Hid (∀ W, Sps W (.slice A n c) r.spans → Calls Try.prog 20 #[.slice A n c] W fun e w' => e = .returned (.string T6) ∧ Below W.heap.size W w'))
    (h7 : Hid (∀ W, Calls Try.prog 16 #[.string (strB r.it.tag)] W fun e w' => e = .returned (.string T7) ∧ Below W.heap.size W w'))
    (h8 : Hid (∀ W, Calls Try.prog 16 #[.string (strB r.it.mt)] W fun e w' => e = .returned (.string T8) ∧ Below W.heap.size W w'))
    (h9 : Hid (∀ W, Calls Try.prog 15 #[.string (⟨#[79, 66, 74, 50]⟩ ++ T1 ++ T2 ++ T3 ++ T4 ++ T5 ++ T6 ++ T7 ++ T8)] W fun e w' => e = .returned (.string P) ∧ Below W.heap.size W w')) :
    Calls Try.prog 8 #[recV r (.slice A n c)] w fun e w' => e = .returned (.string P) ∧ Below w.heap.size w w' := by
  obtain ⟨Y, hY, hbY, hBox, hBY⟩ : ∃ Y, Y = (w.alloc (.cells (recC r (.slice A n c)) 26)).alloc (.cells #[.string (strB r.it.key), .int .i64 r.it.seq, .int .i64 r.it.ver, .bool r.it.mark, .string (strB r.it.mt), .string (strB r.it.tag), .string (strB r.it.body)] 23) ∧ RBox Y w.heap.size r (.slice A n c) ∧ Itm.At7 Y (w.heap.size + 1) 0 r.it ∧ Below w.heap.size w Y := by
    refine ⟨_, rfl, (RBox.new w r _).below (below_one _ _), ?_, below_trans' (below_one _ _) (below_one _ _)⟩
    have := heap_alloc_new (w.alloc (.cells (recC r (.slice A n c)) 26)) (.cells #[.string (strB r.it.key), .int .i64 r.it.seq, .int .i64 r.it.ver, .bool r.it.mark, .string (strB r.it.mt), .string (strB r.it.tag), .string (strB r.it.body)] 23)
    rw [show (w.alloc (.cells (recC r (.slice A n c)) 26)).heap.size = w.heap.size + 1 by simp] at this
    exact Itm.Box.at_ (x := r.it) this
  have q := fun d os => hbY.at_.below hbY.lt (below_regrown Y d os)
  have k0 := fun d os => (q d os).c0
  have k1 := fun d os => (q d os).c1
  have k2 := fun d os => (q d os).c2
  have k3 := fun d os => (q d os).c3
  have k4 := fun d os => (q d os).c4
  have k5 := fun d os => (q d os).c5
  have k6 := fun d os => (q d os).c6
  have k7 := fun d os => (q d os).c7
  have k8 := fun d os => (q d os).c8
  have j0 := fun d os => cell_regrown hBox.c0 d os
  have j1 := fun d os => cell_regrown hBox.c1 d os
  have j2 := fun d os => cell_regrown hBox.c2 d os
  have j3 := fun d os => cell_regrown hBox.c3 d os
  have j4 := fun d os => cell_regrown hBox.c4 d os
  have j5 := fun d os => cell_regrown hBox.c5 d os
  simp only [Nat.zero_add] at j0 j1 j2 j3 j4 j5
  have hvY := hv.below hBY
  have C1 := Lib.hid (rg h1.out Y)
  have C2 := Lib.hid (rg h2.out Y)
  have C3 := Lib.hid (rg h3.out Y)
  have C4 := Lib.hid (rg0 h4.out Y)
  have C5 := Lib.hid (rg h5.out Y)
  have C7 := Lib.hid (rg h7.out Y)
  have CS : Hid (∀ d os, _) := Lib.hid (fun d os => Calls.regrown_of (w := Y) (d := d) (os := os) (hs.out _ (hvY.below (below_regrown Y d os))))
  have C8 := Lib.hid (rg h8.out Y)
  have C9 := Lib.hid (rg h9.out Y)
  have HY := Lib.hid hY
  have HBY := Lib.hid hBY
  unfold recC at HY
  clear hY hbY hBox hBY q hvY hv h1 h2 h3 h4 h5 hs h7 h8 h9
  unfold recV
  go_enter Try.func8, Try.ntmps8
  go_wp2_with fail
  rw [← HY.out]
  refine wp_region_quiet_below (by kernel_rfl) (by kernel_rfl) ?_
  (try simp only [List.append_eq, List.cons_append, List.nil_append])
  repeat (first | go_big_quiet_step (first | (with_reducible exact C1.out _ _) | (with_reducible exact C2.out _ _) | (with_reducible exact C3.out _ _) | (with_reducible exact C4.out _ _) | (with_reducible exact C5.out _ _) | (with_reducible exact C7.out _ _) | (with_reducible exact CS.out _ _) | (with_reducible exact C8.out _ _) | (with_reducible exact C9.out _ _)))
  refine wpQuiet_nil ?_
  intro _ hw'
  obtain ⟨⟨dq, osq⟩, hw''⟩ := hw'
  subst hw''
  go_wp2_with fail
  go_ret
  exact ⟨rfl, Below.trans HBY.out ((below_regrown Y dq osq).mono HBY.out.size)⟩

theorem print_bytes (r : Rec) : (⟨#[79, 66, 74, 50]⟩ ++ strB (textL r.it.key) ++ strB (fourL r.it.seq) ++ strB (fourL r.it.ver) ++ strB (flagL r.it.mark) ++ strB (twoL r.size) ++ strB (runsL r.spans) ++ strB (textL r.it.tag) ++ strB (textL r.it.mt) : ByteArray) = strB (bodyL r) := by
  rw [show (⟨#[79, 66, 74, 50]⟩ : ByteArray) = strB kindL from rfl]
  simp only [strB_append, List.append_assoc]
  rfl

theorem text_size (l : List UInt8) : (strB (textL l)).size ≤ 70000 := by rw [strB_size, Wire.textL_len]; omega

theorem body_len (r : Rec) (h : r.spans.length ≤ 1000) : (bodyL r).length ≤ 300000 := by
  have h1 := Wire.textL_len r.it.mt
  have h2 := Wire.textL_len r.it.tag
  have h3 := Wire.textL_len r.it.key
  simp only [bodyL, kindL, restL, List.length_append, Wire.fourL_len, Wire.twoL_len, flagL_len, runsL_len, List.length_cons, List.length_nil]
  omega

theorem print_calls (r : Rec) (A : Option Addr) (n c : Nat) (w : World) (hv : Sps w (.slice A n c) r.spans) (hlen : n ≤ 1000) :
    Calls Try.prog 8 #[recV r (.slice A n c)] w fun e w' => e = .returned (.string (strB (printL r))) ∧ Below w.heap.size w w' := by
  have hn : r.spans.length ≤ 1000 := by rw [hv.at_.1]; exact hlen
  refine print_walk r A n c w hv _ _ _ _ _ _ _ _ _ (text_size _) ?_ ?_ ?_ ?_ ?_ (text_size _) (text_size _) (Lib.hid (Wire.text_calls _)) (Lib.hid (Wire.four_calls _)) (Lib.hid (Wire.four_calls _)) (Lib.hid (flag_calls _)) (Lib.hid (Wire.two_calls _)) (Lib.hid (fun W h => runs_calls r.spans A n c W h hlen)) (Lib.hid (Wire.text_calls _)) (Lib.hid (Wire.text_calls _)) (Lib.hid fun W => ?_)
  · rw [strB_size, Wire.fourL_len]; omega
  · rw [strB_size, Wire.fourL_len]; omega
  · rw [strB_size, flagL_len]; omega
  · rw [strB_size, Wire.twoL_len]; omega
  · rw [strB_size, runsL_len]; omega
  · rw [print_bytes]
    have hl := body_len r hn
    exact Crc.seal_calls (strB (bodyL r)) W (by rw [strB_size]; omega)

end Go.Proofs.Ytkfjbhikibidiaa
