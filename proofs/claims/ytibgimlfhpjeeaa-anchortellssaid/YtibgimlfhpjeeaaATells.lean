/- AnchorTells: the walk. No statement is proved here. -/
import Derived.Test.YtibgimlfhpjeeaaAAwake
import Derived.Test.YtibgimlfhpjeeaaARParse
namespace Go.Proofs.Ytibgimlfhpjeeaa
open Go.RowKit Go.Sort

/-- What lies: the shape, and both answers. -/
structure TL (w W : World) (x R : Sh) (ga gb : Nat) : Prop where
  x : SBox W w.heap.size x
  a : SBox W ga R
  b : SBox W gb R
  below : Below w.heap.size w W
theorem TL.more {w W W' : World} {x R : Sh} {ga gb : Nat} (h : TL w W x R ga gb) (k : Below W.heap.size W W') : TL w W' x R ga gb := ⟨h.x.below k, h.a.below k, h.b.below k, below_trans' h.below k⟩

set_option maxRecDepth 100000 in
set_option maxHeartbeats 16000000 in
theorem tells_calls (x : Sh) (s : ByteArray) (n : Int) (w : World) (hsz : s.size < 9223372036854775808) :
    Calls Try.prog 3 #[shV x, .string s, .int .i64 n] w fun e w' => e = .returned (.bool true) ∧ Below w.heap.size w w' := by
  obtain ⟨l, rfl⟩ : ∃ l, s = strB l := ⟨s.data.toList, (strB_of s).symm⟩
  have CX := Lib.hid (right_calls x)
  have RX := Lib.hid (rright_calls x)
  have PX := Lib.hid (print_calls x)
  have QX := Lib.hid (rprint_calls x)
  have SX := Lib.hid (size_calls x)
  have TX := Lib.hid (rsize_calls x)
  have LX := Lib.hid (place_calls x n)
  have MX := Lib.hid (rplace_calls x n)
  unfold shV at CX RX PX QX SX TX LX MX
  have HX0 := Lib.hid (SBox.new w x)
  have HB0 := Lib.hid (below_one w (.cells #[.int .i64 x.pages, .int .i64 x.journal] 23))
  unfold shV
  by_cases hlen : (300 : Int) < ((strB l).size : Int)
  · have hl2 : 300 < (strB l).size := by omega
    go_enter Try.func3, Try.ntmps3
    go_wp2_with fail
    (with_reducible refine (awake_true _).mono ?_)
    rintro e w2 ⟨rfl, hB2⟩
    go_wp2_with fail
    go_ret
    exact ⟨rfl, below_trans' HB0.out hB2⟩
  · have hl2 : ¬ 300 < (strB l).size := by omega
    obtain ⟨R, hR⟩ : ∃ R, R = parseS l := ⟨_, rfl⟩
    obtain ⟨b, hb⟩ : ∃ b, b = isS l := ⟨_, rfl⟩
    have hPC := parse_calls l
    have hQC := rparse_calls l
    rw [← hR, ← hb] at hPC hQC
    have HPC := Lib.hid hPC
    have HQC := Lib.hid hQC
    unfold shV at HPC HQC
    clear hPC hQC hR hb
    obtain ⟨Y, hY⟩ : ∃ Y, Y = w.alloc (.cells #[.int .i64 x.pages, .int .i64 x.journal] 23) := ⟨_, rfl⟩
    rw [← hY] at HX0 HB0
    have HY := Lib.hid hY
    clear hY
    go_enter Try.func3, Try.ntmps3
    go_wp2_with fail
    rw [← HY.out]
    clear HY
    (with_reducible refine (CX.out _).mono ?_)
    rintro e w1 ⟨rfl, hB1⟩
    replace HX0 := Lib.hid (SBox.below (x := x) HX0.out hB1)
    replace HB0 := Lib.hid (below_trans' HB0.out hB1)
    clear hB1 CX
    go_wp2_with fail
    (with_reducible refine (HPC.out _).mono ?_)
    rintro e w2 ⟨rfl, hB2⟩
    have hB2' := below_trans' hB2 (below_one w2 (.cells #[.int .i64 R.pages, .int .i64 R.journal] 23))
    replace HX0 := Lib.hid (SBox.below (x := x) HX0.out hB2')
    replace HB0 := Lib.hid (below_trans' HB0.out hB2')
    have HA := Lib.hid (SBox.new w2 R)
    obtain ⟨W3, hW3⟩ : ∃ W3, W3 = w2.alloc (.cells #[.int .i64 R.pages, .int .i64 R.journal] 23) := ⟨_, rfl⟩
    rw [← hW3] at HX0 HB0 HA
    have HW3 := Lib.hid hW3
    clear hB2 hB2' hW3 HPC
    go_wp2_with fail
    rw [← HW3.out]
    clear HW3
    (with_reducible refine (HQC.out _).mono ?_)
    rintro e w4 ⟨rfl, hB4⟩
    have hB4' := below_trans' hB4 (below_one w4 (.cells #[.int .i64 R.pages, .int .i64 R.journal] 23))
    have HP : Hid (TL w _ x R w2.heap.size w4.heap.size) := Lib.hid ⟨SBox.below (x := x) HX0.out hB4', SBox.below (x := R) HA.out hB4', SBox.new w4 R, below_trans' HB0.out hB4'⟩
    obtain ⟨W6, hW6⟩ : ∃ W6, W6 = w4.alloc (.cells #[.int .i64 R.pages, .int .i64 R.journal] 23) := ⟨_, rfl⟩
    rw [← hW6] at HP
    have HW6 := Lib.hid hW6
    clear hB4 hB4' hW6 HQC HX0 HB0 HA
    go_wp2_with fail
    rw [← HW6.out]
    clear HW6
    have g := fun d os => HP.out.more (below_regrown W6 d os)
    have i0 := fun d os => (g d os).x.c0
    have i1 := fun d os => (g d os).x.c1
    have a0 := fun d os => (g d os).a.c0
    have a1 := fun d os => (g d os).a.c1
    have b0 := fun d os => (g d os).b.c0
    have b1 := fun d os => (g d os).b.c1
    have hq := eql23 R R
    rw [decide_eq_true rfl] at hq
    unfold shV at hq
    have D0 := Lib.hid (rg awake_true W6)
    have D1 := Lib.hid (rg RX.out W6)
    have D2 := Lib.hid (rg PX.out W6)
    have D3 := Lib.hid (rg QX.out W6)
    have D4 := Lib.hid (rg SX.out W6)
    have D5 := Lib.hid (rg TX.out W6)
    have D6 := Lib.hid (rg0 (log_calls n) W6)
    have D7 := Lib.hid (rg0 (rlog_calls n) W6)
    have D8 := Lib.hid (rg LX.out W6)
    have D9 := Lib.hid (rg MX.out W6)
    clear g RX PX QX SX TX LX MX
    cases hr : rightS x
    all_goals
      rw [hr] at D1
      refine wp_region_quiet_below (by kernel_rfl) (by kernel_rfl) ?_
      (try simp only [List.append_eq, List.cons_append, List.nil_append])
      repeat (first | go_big_quiet_step (first | (with_reducible exact D0.out _ _) | (with_reducible exact D1.out _ _) | (with_reducible exact D2.out _ _) | (with_reducible exact D3.out _ _) | (with_reducible exact D4.out _ _) | (with_reducible exact D5.out _ _) | (with_reducible exact D6.out _ _) | (with_reducible exact D7.out _ _) | (with_reducible exact D8.out _ _) | (with_reducible exact D9.out _ _)))
      refine wpQuiet_nil ?_
      intro _ hw'
      obtain ⟨⟨dq, osq⟩, hw''⟩ := hw'
      subst hw''
      go_wp2_with fail
      go_ret
      exact ⟨rfl, (HP.out.more (below_regrown W6 dq osq)).below⟩

end Go.Proofs.Ytibgimlfhpjeeaa
