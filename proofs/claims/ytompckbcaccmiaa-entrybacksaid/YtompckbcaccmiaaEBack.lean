/- EntryBack: the walk. No statement is proved here. -/
import Derived.Test.YtompckbcaccmiaaEApart
import Derived.BigRegion
import Derived.IntWalk
namespace Go.Proofs.Ytompckbcaccmiaa
open Go.RowKit Go.Sort
open Wire (TK TP But twoL fourL numV numS markS)
open Crc (sealB Only RowB bur oth bur_len bur_at bur_step bur_zero bur_getD bur_opens oth_step opens getD_of ext_getD)

theorem ne8 (Y : UInt8) : ((Y.toNat : Int) != 0) = (Y != 0) := by
  rw [Bool.eq_iff_iff, bne_iff_ne, bne_iff_ne]
  constructor
  · intro h e; subst e; exact h rfl
  · intro h e
    exact h (UInt8.toNat_inj.1 (by show Y.toNat = 0; omega))

theorem conv_bytes (w : World) (l : List UInt8) : ∃ (cap : Nat) (Y : World), (convert 9 39 (.string (strB l))).run Try.prog w = .ok (.slice (some ⟨w.heap.size, 0, none⟩) l.length cap) Y ∧ RowB Y w.heap.size l ∧ Below w.heap.size w Y ∧ w.heap.size < Y.heap.size := by
  have h := run_bytes_of_string (P := Try.prog) w 9 39 5 (strB l) Try.underlying9 Try.underlying39 Try.underlying5
  rw [strB_size] at h
  have hR := RowB.new w l (grownCap w l.length 0 5)
  exact ⟨_, _, h, hR.keep rfl, (Below.refl w.heap.size w).drew.alloc (Nat.le_refl _) _, (hR.keep rfl).lt⟩

/-- Of what lay there nothing but two blocks has turned. -/
structure Only2 (g h : Nat) (w w' : World) : Prop where
  os : w'.os = w.os
  tape : w'.tape = w.tape
  output : w'.output = w.output
  size : w'.heap.size = w.heap.size
  block : ∀ k, k ≠ g → k ≠ h → w'.heap[k]? = w.heap[k]?
section
variable {g h : Nat} {u v w : World}
theorem Only2.refl (g h : Nat) (w : World) : Only2 g h w w := ⟨rfl, rfl, rfl, rfl, fun _ _ _ => rfl⟩
theorem Only2.fst (a : Only2 g h u v) (k : Only g v w) : Only2 g h u w := ⟨k.os.trans a.os, k.tape.trans a.tape, k.output.trans a.output, k.size.trans a.size, fun i h1 h2 => (k.block i h1).trans (a.block i h1 h2)⟩
theorem Only2.snd (a : Only2 g h u v) (k : Only h v w) : Only2 g h u w := ⟨k.os.trans a.os, k.tape.trans a.tape, k.output.trans a.output, k.size.trans a.size, fun i h1 h2 => (k.block i h2).trans (a.block i h1 h2)⟩
theorem Only2.drew (a : Only2 g h u v) : Only2 g h u v.drew := ⟨a.os, a.tape, a.output, a.size, a.block⟩
theorem Only2.below {B : Nat} (a : Only2 g h u v) (h1 : B ≤ g) (h2 : B ≤ h) : Below B u v := ⟨a.os, a.tape, a.output, by rw [a.size]; exact Nat.le_refl _, fun k hk => a.block k (by omega) (by omega)⟩
theorem Only2.cell (a : Only2 g h u v) {p : Addr} (h1 : p.block ≠ g) (h2 : p.block ≠ h) : v.cell? p = u.cell? p := World.cell?_of_block (w := u) (a.block p.block h1 h2)
end

/-- What lies when the entry and the bytes are there. -/
structure BK (w W : World) (x : En) (b0 b1 b2 b3 : UInt8) : Prop where
  x : EBox W w.heap.size x
  y : W.heap[w.heap.size + 1]? = some (.cells #[.int .u8 b0.toNat, .int .u8 b1.toNat, .int .u8 b2.toNat, .int .u8 b3.toNat] 37 (0, 0))
  below : Below w.heap.size w W
section
variable {w W W' : World} {x : En} {b0 b1 b2 b3 : UInt8}
theorem BK.more (h : BK w W x b0 b1 b2 b3) (hb : Below W.heap.size W W') : BK w W' x b0 b1 b2 b3 :=
  ⟨h.x.below hb, (hb.block _ (Array.getElem?_eq_some_iff.1 h.y).1).trans h.y, below_trans' h.below hb⟩
theorem BK.new (w : World) (x : En) (b0 b1 b2 b3 : UInt8) : BK w ((w.alloc (.cells (enC x) 23)).alloc (.cells #[.int .u8 b0.toNat, .int .u8 b1.toNat, .int .u8 b2.toNat, .int .u8 b3.toNat] 37)) x b0 b1 b2 b3 := by
  refine ⟨(EBox.new w x).below (below_one _ _), ?_, below_trans' (below_one _ _) (below_one _ _)⟩
  have := heap_alloc_new (w.alloc (.cells (enC x) 23)) (.cells #[.int .u8 b0.toNat, .int .u8 b1.toNat, .int .u8 b2.toNat, .int .u8 b3.toNat] 37)
  rw [show (w.alloc (.cells (enC x) 23)).heap.size = w.heap.size + 1 by simp] at this
  exact this
end

theorem parseP {x : En} (h : rightE x = true) (w : World) : Calls Try.prog 9 #[.string (strB (printL x))] w fun e w' => e = .returned (.tuple #[enV x, .bool true]) ∧ Below w.heap.size w w' := by
  have k := parse_calls (printL x) w
  rw [parse_print h, is_print h] at k
  exact k
theorem homeL (m : Nat) (d : List UInt8) (hm : m < 512) (hd : d.length = 208) (w : World) : Calls Try.prog 14 #[.string (strB (leafL (m : Nat) d)), .int .i64 (m : Nat)] w fun e w' => e = .returned (.tuple #[.string (strB d), .bool true]) ∧ Below w.heap.size w w' := by
  have k := home_calls (leafL (m : Nat) d) (m : Nat) w
  obtain ⟨e1, e2⟩ := home_leaf (no := (m : Nat)) (d := d) (by omega) (by omega) hd
  rw [e1, e2] at k
  exact k
theorem leaf_ne_print (no : Int) (d : List UInt8) (x : En) : ((strB (printL x)).toList == (strB (leafL no d)).toList) = false := by
  rw [strB_toList, strB_toList, beq_eq_false_iff_ne]
  intro h
  have h1 := home_print (x := x) no
  obtain ⟨z, hz⟩ := print_is x
  obtain ⟨z', hz'⟩ := leaf_is no d
  rw [hz, hz'] at h
  have := congrArg (List.take 4) h
  rw [Wire.take_app _ _ 4 (kindL_len _), Wire.take_app _ _ 4 rfl] at this
  exact kind_leaf _ this
theorem parseT (l : List UInt8) (o : Bool) (w : World) (ho : isE l = !o) : Calls Try.prog 9 #[.string (strB l)] w fun e w' => ∃ R, e = .returned (.tuple #[enV R, .bool (!o)]) ∧ Below w.heap.size w w' := by
  refine (parse_calls l w).mono ?_
  rintro e w' ⟨rfl, hB⟩
  rw [ho]
  exact ⟨_, rfl, hB⟩
theorem homeT (l : List UInt8) (m : Nat) (o : Bool) (w : World) (ho : homeB l (m : Nat) = !o) : Calls Try.prog 14 #[.string (strB l), .int .i64 (m : Nat)] w fun e w' => ∃ d, e = .returned (.tuple #[.string (strB d), .bool (!o)]) ∧ Below w.heap.size w w' := by
  refine (home_calls l (m : Nat) w).mono ?_
  rintro e w' ⟨rfl, hB⟩
  rw [ho]
  exact ⟨_, rfl, hB⟩

set_option maxRecDepth 100000 in
set_option maxHeartbeats 32000000 in
theorem back_law (x : En) (n : Nat) (b0 b1 b2 b3 : UInt8) (w : World) (hn : n < 65536) :
    Calls Try.prog 5 #[enV x, .int .u16 n, .agg #[.int .u8 b0.toNat, .int .u8 b1.toNat, .int .u8 b2.toNat, .int .u8 b3.toNat]] w fun e w' => e = .returned (.bool true) ∧ Below w.heap.size w w' := by
  obtain ⟨Z, hZ⟩ : ∃ Z, Z = zer 208 := ⟨_, rfl⟩
  have CZ := Lib.hid page_no
  rw [← hZ] at CZ
  have HZ := Lib.hid hZ
  have CX := Lib.hid (right_calls x)
  have PX := Lib.hid (fun h W => print_calls x W h)
  unfold enV at CX PX
  obtain ⟨Y, hY, hBK⟩ : ∃ Y, Y = (w.alloc (.cells (enC x) 23)).alloc (.cells #[.int .u8 b0.toNat, .int .u8 b1.toNat, .int .u8 b2.toNat, .int .u8 b3.toNat] 37) ∧ BK w Y x b0 b1 b2 b3 := ⟨_, rfl, BK.new w x b0 b1 b2 b3⟩
  have k4 := hBK.x.at_.c4
  have hy4 := hY
  rw [hY] at k4
  unfold enC at hY k4
  have HY := Lib.hid hY
  have HP := Lib.hid hBK
  have hsz := strB_size x.data
  have HSZ := Lib.hid hsz
  clear hY hBK hZ hy4 hsz
  by_cases hlen : 300 < (strB x.data).size
  · have hlen' : (300 : Int) < ((strB x.data).size : Int) := by omega
    unfold enV
    go_enter Try.func5, Try.ntmps5
    go_wp2_with fail
    rw [← HY.out]
    (with_reducible refine (awake_true _).mono ?_)
    rintro e w2 ⟨rfl, hB2⟩
    go_wp2_with fail
    go_ret
    exact ⟨rfl, (HP.out.more hB2).below⟩
  · have hlen' : ¬ (300 : Int) < ((strB x.data).size : Int) := by omega
    cases rx : rightE x with
    | false =>
      unfold enV
      go_enter Try.func5, Try.ntmps5
      go_wp2_with fail
      rw [← HY.out]
      (with_reducible refine (CX.out _).mono ?_)
      rintro e w1 ⟨rfl, hB1⟩
      rw [rx]
      go_wp2_with fail
      (with_reducible refine (awake_true _).mono ?_)
      rintro e w2 ⟨rfl, hB2⟩
      go_wp2_with fail
      go_ret
      exact ⟨rfl, ((HP.out.more hB1).more hB2).below⟩
    | true =>
      obtain ⟨m, hm⟩ : ∃ m : Nat, (n : Int) % 512 = (m : Int) := ⟨n % 512, by omega⟩
      obtain ⟨k, hk⟩ : ∃ k : Nat, (n : Int) % 256 = (k : Int) := ⟨n % 256, by omega⟩
      have hm5 : m < 512 := by omega
      have hk2 : k < 256 := by omega
      obtain ⟨S, hS⟩ : ∃ S, S = printL x := ⟨_, rfl⟩
      have HX1 := Lib.hid (PX.out (by have := right_data rx; omega))
      have HPP := Lib.hid (parseP rx)
      rw [← hS] at HX1 HPP
      unfold enV at HPP
      have HSL : Hid (S.length = 256) := Lib.hid (by rw [hS]; exact print_len rx)
      have HDL := Lib.hid (pgD_len rx)
      have HTE : Hid (∀ i, i ≤ 4 → k + i ≤ 256 → isE (bur S k [b0, b1, b2, b3] i) = !oth [b0, b1, b2, b3] i) := Lib.hid (fun i h1 h2 => by rw [hS]; exact turnedE rx (by simpa using h1) h1 h2)
      have HS := Lib.hid hS
      have HRX := Lib.hid rx
      clear PX hS
      unfold enV
      go_enter Try.func5, Try.ntmps5
      go_wp2_with fail
      rw [← HY.out]
      (with_reducible refine (CX.out _).mono ?_)
      rintro e w1 ⟨rfl, hB1⟩
      rw [rx]
      replace HP := Lib.hid (HP.out.more hB1)
      clear hB1 k4 hlen hlen' HY CX rx
      go_wp2_with fail
      (with_reducible refine (CZ.out _).mono ?_)
      rintro e w3 ⟨rfl, hB3⟩
      replace HP := Lib.hid (HP.out.more hB3)
      clear hB3
      rcases Bool.eq_false_or_eq_true x.last with hl | hl
      · clear CZ
        have hpd : pgD x = Z := by unfold pgD; rw [hl]; exact HZ.out.symm
        rw [hpd] at HDL
        obtain ⟨L, hL⟩ : ∃ L, L = leafL (m : Nat) Z := ⟨_, rfl⟩
        have HCL := Lib.hid (fun W => leaf_calls (m : Nat) Z W (by rw [HDL.out]; omega))
        have HHL := Lib.hid (homeL m Z hm5 HDL.out)
        have HNE := Lib.hid (leaf_ne_print (m : Nat) Z x)
        rw [← hL] at HCL HHL HNE
        rw [← HS.out] at HNE
        unfold lfV at HCL
        have HLL : Hid (L.length = 256) := Lib.hid (by rw [hL]; exact leaf_len (by rw [HDL.out]; omega))
        have HTH : Hid (∀ i, i ≤ 4 → k + i ≤ 256 → homeB (bur L k [b0, b1, b2, b3] i) (m : Nat) = !oth [b0, b1, b2, b3] i) := Lib.hid (fun i h1 h2 => by rw [hL]; exact turnedH (by omega) (by omega) HDL.out (by simpa using h1) h1 h2)
        have HL := Lib.hid (LBox.new w3 (m : Nat) Z)
        have HP4 := Lib.hid (HP.out.more (below_one w3 (.cells #[.int .i64 (m : Nat), .string (strB Z)] 31)))
        obtain ⟨W4, hW4⟩ : ∃ W4, W4 = w3.alloc (.cells #[.int .i64 (m : Nat), .string (strB Z)] 31) := ⟨_, rfl⟩
        rw [← hW4] at HL HP4
        have HW4 := Lib.hid hW4
        have k2 : ∀ o, (w3.alloc o).cell? ⟨w.heap.size, 2, none⟩ = some (.bool true) := fun o => by rw [← hl]; exact (HP.out.more (below_one w3 o)).x.at_.c2
        have k4 : ∀ o, (w3.alloc o).cell? ⟨w.heap.size, 4, none⟩ = some (.string (strB x.data)) := fun o => (HP.out.more (below_one w3 o)).x.at_.c4
        clear hW4 hpd hl hL HS HRX HZ HSZ
        go_wp2_with fail
        rw [← HW4.out]
        clear k2 k4 HW4
        have q := fun d os => HP4.out.more (below_regrown W4 d os)
        have i0 := fun d os => (q d os).x.at_.c0
        have i1 := fun d os => (q d os).x.at_.c1
        have i2 := fun d os => (q d os).x.at_.c2
        have i3 := fun d os => (q d os).x.at_.c3
        have i4 := fun d os => (q d os).x.at_.c4
        have l0 := fun d os => cell_regrown HL.out.c0 d os
        have l1 := fun d os => cell_regrown HL.out.c1 d os
        have D1 := Lib.hid (rg HX1.out W4)
        have D2 := Lib.hid (rg HCL.out W4)
        clear q
        refine wp_region_quiet_below (by kernel_rfl) (by kernel_rfl) ?_
        (try simp only [List.append_eq, List.cons_append, List.nil_append])
        repeat (first | go_big_quiet_step (first | (with_reducible exact D1.out _ _) | (with_reducible exact D2.out _ _)))
        refine wpQuiet_nil ?_
        intro _ hw'
        obtain ⟨⟨dq, osq⟩, hw''⟩ := hw'
        replace HP := Lib.hid (HP4.out.more (below_regrown W4 dq osq))
        replace HL := Lib.hid (HL.out.below (below_regrown W4 dq osq))
        obtain ⟨w5, hw5⟩ : ∃ w5, w5 = grow (redrawn W4 dq) osq := ⟨_, rfl⟩
        rw [← hw5] at HP HL
        subst hw''
        dsimp only
        rw [← hw5]
        clear hw5 i0 i1 i2 i3 i4 l0 l1 D1 D2 HP4 HX1 HCL
        go_wp2_with fail
        (with_reducible refine (HPP.out _).mono ?_)
        rintro e w6 ⟨rfl, hB6⟩
        have HA := Lib.hid (EBox.new w6 x)
        have hB6' := below_trans' hB6 (below_one w6 (.cells (enC x) 23))
        replace HP := Lib.hid (HP.out.more hB6')
        replace HL := Lib.hid (HL.out.below hB6')
        unfold enC at HA HP HL
        have l0 := HL.out.c0
        clear hB6 hB6' HPP
        go_wp2_with fail
        (with_reducible refine (HHL.out _).mono ?_)
        rintro e w7 ⟨rfl, hB7⟩
        replace HP := Lib.hid (HP.out.more hB7)
        replace HL := Lib.hid (HL.out.below hB7)
        replace HA := Lib.hid (EBox.below (x := x) HA.out hB7)
        clear hB7 l0 HHL
        obtain ⟨c1, Y1, v1, r1, s1, t1⟩ := conv_bytes w7 S
        obtain ⟨c2, Y2, v2, r2, s2, t2⟩ := conv_bytes Y1 L
        rw [HSL.out] at v1
        rw [HLL.out] at v2
        have HR1 : Hid (RowB Y2 w7.heap.size S) := Lib.hid (r1.keep (s2.block _ t1))
        have HR2 := Lib.hid r2
        have HP2 := Lib.hid ((HP.out.more s1).more s2)
        have HL2 := Lib.hid ((HL.out.below s1).below s2)
        have hz1 : (strB S).size = 256 := by rw [strB_size]; exact HSL.out
        have hz2 : (strB L).size = 256 := by rw [strB_size]; exact HLL.out
        have hne := HNE.out
        have hq := neq23 x x
        rw [decide_eq_true rfl] at hq
        unfold enV at hq
        obtain ⟨a0, a1, a2, a3, a4⟩ := HA.out.at_
        obtain ⟨i0, i1, i2, i3, i4⟩ := HP.out.x.at_
        have l1 := HL.out.c1
        have HG1 : Hid (w.heap.size + 1 < w7.heap.size) := Lib.hid (Array.getElem?_eq_some_iff.1 HP.out.y).1
        have HG2 := Lib.hid t1
        have HGL := Lib.hid HL.out.lt
        clear r1 s1 t1 r2 s2 t2
        go_wp2_with fail
        clear a0 a1 a2 a3 a4 i0 i1 i2 i3 i4 l1 hne hq hz1 hz2 v1 v2 HNE HA HP HL
        have hgy : Y1.heap.size ≠ w7.heap.size := by have := HG2.out; omega
        have HBY := Lib.hid HP2.out.below
        have HYY := Lib.hid HP2.out.y
        have HG3 : Hid (w.heap.size ≤ w7.heap.size) := Lib.hid (by have := HG1.out; omega)
        have HG4 : Hid (w.heap.size ≤ Y1.heap.size) := Lib.hid (by have := HG1.out; have := HG2.out; omega)
        have hb1 : w.heap.size + 1 ≠ w7.heap.size := by have := HG1.out; omega
        have hb2 : w.heap.size + 1 ≠ Y1.heap.size := by have := HG1.out; have := HG2.out; omega
        have hl1 : w3.heap.size ≠ w7.heap.size := by have := HGL.out; omega
        have hl2 : w3.heap.size ≠ Y1.heap.size := by have := HGL.out; have := HG2.out; omega
        clear HG1 HG2 HGL HP2
        simp only [hk]
        clear hk hm
        generalize w7.heap.size = g at *
        generalize Y1.heap.size = h at *
        generalize w3.heap.size = gl at *
        go_loopw [17, 18] (fun o v wr => ∃ i : Nat, i ≤ 4 ∧ k + i ≤ 256 ∧ v = .int .i64 i ∧ o = .bool (oth [b0, b1, b2, b3] i) ∧ RowB wr g (bur S k [b0, b1, b2, b3] i) ∧ RowB wr h (bur L k [b0, b1, b2, b3] i) ∧ Only2 g h Y2 wr) (fun _ v _ => 4 - (intOf v).toNat)
        case atStart => exact ⟨0, Nat.zero_le _, by omega, rfl, rfl, by rw [bur_zero (by rw [HSL.out]; omega)]; exact HR1.out, by rw [bur_zero (by rw [HLL.out]; omega)]; exact HR2.out, Only2.refl _ _ _⟩
        case round =>
          obtain ⟨i, hi, hki, rfl, rfl, hR1, hR2, hO⟩ := hrel
          by_cases hc : i < 4 ∧ k + i < 256
          · obtain ⟨hi4, hkl⟩ := hc
            have e1 := bur_len (x := S) (k := k) (f := [b0, b1, b2, b3]) (i := i) hi (by rw [HSL.out]; omega)
            have e2 := bur_len (x := L) (k := k) (f := [b0, b1, b2, b3]) (i := i) hi (by rw [HLL.out]; omega)
            have j1 : k + i < (bur S k [b0, b1, b2, b3] i).length := by rw [e1, HSL.out]; exact hkl
            have j2 : k + i < (bur L k [b0, b1, b2, b3] i).length := by rw [e2, HLL.out]; exact hkl
            have c1 := hR1.cell j1
            rw [bur_at hi (by rw [HSL.out]; exact hkl)] at c1
            have f1 := hR1.free j1
            have c2 := hR2.cell j2
            rw [bur_at hi (by rw [HLL.out]; exact hkl)] at c2
            have f2 := hR2.free j2
            have c3 : wr.cell? ⟨w.heap.size + 1, i, none⟩ = some (.int .u8 (([b0, b1, b2, b3].getD i 0).toNat : Nat)) := by
              rw [hO.cell (by exact hb1) (by exact hb2), Go.Joins.cell_of_block HYY.out]
              have : i = 0 ∨ i = 1 ∨ i = 2 ∨ i = 3 := by omega
              rcases this with rfl | rfl | rfl | rfl <;> rfl
            have HT1 := Lib.hid (bur_step (x := S) (k := k) (f := [b0, b1, b2, b3]) (i := i) (by simp; omega) (by rw [HSL.out]; exact hkl))
            have HT2 := Lib.hid (bur_step (x := L) (k := k) (f := [b0, b1, b2, b3]) (i := i) (by simp; omega) (by rw [HLL.out]; exact hkl))
            have HT := Lib.hid (oth_step (f := [b0, b1, b2, b3]) (i := i) (by simp; omega))
            have HA1 := Lib.hid hR1
            have HA2 := Lib.hid hR2
            have HOn := Lib.hid hO
            have HJ1 := Lib.hid j1
            have HJ2 := Lib.hid j2
            clear hR1 hR2 hO e1 e2 j1 j2
            have hgo : ∀ (X Y : UInt8), bits .xor .u8 (X.toNat : Int) (Y.toNat : Int) = ((X.toNat ^^^ Y.toNat : Nat) : Int) := fun X Y => by
              exact u8_xor_nat _ _ X.toNat_lt Y.toNat_lt
            generalize S.getD (k + i) 0 = X1 at *
            generalize L.getD (k + i) 0 = X2 at *
            generalize [b0, b1, b2, b3].getD i 0 = Yb at *
            have hx1 := hgo X1 Yb
            have hx2 := hgo X2 Yb
            clear hgo
            have c5 : ∀ v, (wr.setCell ⟨g, k + i, none⟩ v).cell? ⟨h, k + i, none⟩ = some (.int .u8 (X2.toNat : Nat)) := fun v => by
              rw [World.cell?_setCell_other _ _ _ _ (fun e => hgy (congrArg Addr.block e).symm)]; exact c2
            have f5 : ∀ v, (wr.setCell ⟨g, k + i, none⟩ v).frozen? ⟨h, k + i, none⟩ = false := fun v =>
              (World.frozen?_of_block (w := wr) (Below.heap_setCell _ _ _ _ hgy)).trans f2
            go_wp2
            have w1' : IntKind.i64.wrap ((k : Int) + (i : Int)) = (k : Int) + i := IntWalk.i64_in _ (by omega)
            have w2' : ((k : Int) + (i : Int)).toNat = k + i := by omega
            have w3' : (0 : Int) ≤ (k : Int) + i := by omega
            have w4' : ((k : Int) + (i : Int)) < 256 := by omega
            have w5' : k + i < 256 := by omega
            go_region
            clear w1' w2' w3' w4' w5'
            have hA1 : RowB (((wr.setCell ⟨g, k + i, none⟩ (.int .u8 ((X1.toNat ^^^ Yb.toNat : Nat) : Int))).setCell ⟨h, k + i, none⟩ (.int .u8 ((X2.toNat ^^^ Yb.toNat : Nat) : Int))).drew) g (bur S k [b0, b1, b2, b3] (i + 1)) := by
              rw [HT1.out, ← UInt8.toNat_xor]
              exact (RowB.keep (HA1.out.set HJ1.out (X1 ^^^ Yb)) (Below.heap_setCell _ _ _ _ (fun e => hgy e.symm))).keep rfl
            have hA2 : RowB (((wr.setCell ⟨g, k + i, none⟩ (.int .u8 ((X1.toNat ^^^ Yb.toNat : Nat) : Int))).setCell ⟨h, k + i, none⟩ (.int .u8 ((X2.toNat ^^^ Yb.toNat : Nat) : Int))).drew) h (bur L k [b0, b1, b2, b3] (i + 1)) := by
              rw [HT2.out, ← UInt8.toNat_xor]
              exact (RowB.set (HA2.out.keep (Below.heap_setCell _ _ _ _ hgy)) HJ2.out (X2 ^^^ Yb)).keep rfl
            have hO2 : Only2 g h Y2 (((wr.setCell ⟨g, k + i, none⟩ (.int .u8 ((X1.toNat ^^^ Yb.toNat : Nat) : Int))).setCell ⟨h, k + i, none⟩ (.int .u8 ((X2.toNat ^^^ Yb.toNat : Nat) : Int))).drew) := ((HOn.out.fst ((Only.refl g wr).setCell _ rfl _)).snd ((Only.refl h _).setCell _ rfl _)).drew
            have c4 : (((wr.setCell ⟨g, k + i, none⟩ (.int .u8 ((X1.toNat ^^^ Yb.toNat : Nat) : Int))).setCell ⟨h, k + i, none⟩ (.int .u8 ((X2.toNat ^^^ Yb.toNat : Nat) : Int))).drew).cell? ⟨w.heap.size + 1, i, none⟩ = some (.int .u8 (Yb.toNat : Nat)) := by
              rw [World.cell?_drew, World.cell?_setCell_other _ _ _ _ (fun e => hb2 (congrArg Addr.block e).symm), World.cell?_setCell_other _ _ _ _ (fun e => hb1 (congrArg Addr.block e).symm)]; exact c3
            have HB1 := Lib.hid hA1
            have HB2 := Lib.hid hA2
            have HO2 := Lib.hid hO2
            clear hA1 hA2 hO2 c1 c2 c3 f1 f2 c5 f5 hx1 hx2 HT1 HT2 HA1 HA2 HOn HJ1 HJ2
            generalize ((wr.setCell ⟨g, k + i, none⟩ (.int .u8 ((X1.toNat ^^^ Yb.toNat : Nat) : Int))).setCell ⟨h, k + i, none⟩ (.int .u8 ((X2.toNat ^^^ Yb.toNat : Nat) : Int))).drew = wr2 at *
            generalize oth [b0, b1, b2, b3] i = o at *
            cases o with
            | true =>
              go_wp2
              go_roundw
              case rel => exact ⟨i + 1, by omega, by omega, by go_num, by rw [HT.out]; rfl, HB1.out, HB2.out, HO2.out⟩
              case measure => simp [intOf]; omega
            | false =>
              go_wp2
              go_roundw
              case rel => exact ⟨i + 1, by omega, by omega, by go_num, by rw [HT.out, ne8, Bool.false_or], HB1.out, HB2.out, HO2.out⟩
              case measure => simp [intOf]; omega
          · have v1 := hR1.back c1
            have v2 := hR2.back c2
            rw [bur_len (by simpa using hi) (by rw [HSL.out]; omega), HSL.out] at v1
            rw [bur_len (by simpa using hi) (by rw [HLL.out]; omega), HLL.out] at v2
            have HOE := Lib.hid (HTE.out i hi (by omega))
            have HOH := Lib.hid (HTH.out i hi (by omega))
            have HB : Hid (Below w.heap.size w wr) := Lib.hid (HBY.out.trans (hO.below HG3.out HG4.out))
            have HLw : Hid (LBox wr gl (m : Nat) Z) := Lib.hid ((hO.block gl hl1 hl2).trans HL2.out)
            have HV2 : Hid (∀ w', Below wr.heap.size wr w' → (convert 39 9 (.slice (some ⟨h, 0, none⟩) 256 c2)).run Try.prog w' = .ok (.string (strB (bur L k [b0, b1, b2, b3] i))) w') := Lib.hid (fun w' hb => by
              have := (hR2.keep (hb.block h hR2.lt)).back c2
              rw [bur_len (by simpa using hi) (by rw [HLL.out]; omega), HLL.out] at this
              exact this)
            clear hR1 hR2 hO v2 HTE HTH HR1 HR2
            generalize bur S k [b0, b1, b2, b3] i = B1 at *
            generalize bur L k [b0, b1, b2, b3] i = B2 at *
            generalize oth [b0, b1, b2, b3] i = o at *
            have hend : (decide ((i : Int) < 4) && decide ((k : Int) + (i : Int) < 256)) = false := by
              rw [Bool.and_eq_false_iff, decide_eq_false_iff_not, decide_eq_false_iff_not]; omega
            by_cases hi4 : i < 4
            · have hkl : ¬ ((k : Int) + (i : Int)) < 256 := by omega
              clear hc hend
              go_wp2_with fail
              (with_reducible refine (parseT B1 o _ HOE.out).mono ?_)
              rintro e w8 ⟨R, rfl, hB8⟩
              have hB8' := below_trans' hB8 (below_one w8 (.cells (enC R) 23))
              have v2 := HV2.out _ hB8'
              have l0 := (HLw.out.below hB8').c0
              replace HB := Lib.hid (below_trans' HB.out hB8')
              unfold enC at HB v2 l0
              unfold enV
              clear hB8 hB8' v1 HV2 HLw
              go_wp2_with fail
              (with_reducible refine (homeT B2 m o _ HOH.out).mono ?_)
              rintro e w9 ⟨d9, rfl, hB9⟩
              replace HB := Lib.hid (below_trans' HB.out hB9)
              clear hB9 v2 l0
              go_wp2_with fail
              (with_reducible refine (awake_true _).mono ?_)
              rintro e w10 ⟨rfl, hB10⟩
              replace HB := Lib.hid (below_trans' HB.out hB10)
              clear hB10
              cases o
              all_goals
                go_wp2_with fail
                go_ret
                exact ⟨rfl, HB.out⟩
            · clear hc hend
              go_wp2_with fail
              (with_reducible refine (parseT B1 o _ HOE.out).mono ?_)
              rintro e w8 ⟨R, rfl, hB8⟩
              have hB8' := below_trans' hB8 (below_one w8 (.cells (enC R) 23))
              have v2 := HV2.out _ hB8'
              have l0 := (HLw.out.below hB8').c0
              replace HB := Lib.hid (below_trans' HB.out hB8')
              unfold enC at HB v2 l0
              unfold enV
              clear hB8 hB8' v1 HV2 HLw
              go_wp2_with fail
              (with_reducible refine (homeT B2 m o _ HOH.out).mono ?_)
              rintro e w9 ⟨d9, rfl, hB9⟩
              replace HB := Lib.hid (below_trans' HB.out hB9)
              clear hB9 v2 l0
              go_wp2_with fail
              (with_reducible refine (awake_true _).mono ?_)
              rintro e w10 ⟨rfl, hB10⟩
              replace HB := Lib.hid (below_trans' HB.out hB10)
              clear hB10
              cases o
              all_goals
                go_wp2_with fail
                go_ret
                exact ⟨rfl, HB.out⟩
      · clear CZ
        have hpd : pgD x = x.data := by unfold pgD; rw [hl]; rfl
        rw [hpd] at HDL
        obtain ⟨L, hL⟩ : ∃ L, L = leafL (m : Nat) x.data := ⟨_, rfl⟩
        have HCL := Lib.hid (fun W => leaf_calls (m : Nat) x.data W (by rw [HDL.out]; omega))
        have HHL := Lib.hid (homeL m x.data hm5 HDL.out)
        have HNE := Lib.hid (leaf_ne_print (m : Nat) x.data x)
        rw [← hL] at HCL HHL HNE
        rw [← HS.out] at HNE
        unfold lfV at HCL
        have HLL : Hid (L.length = 256) := Lib.hid (by rw [hL]; exact leaf_len (by rw [HDL.out]; omega))
        have HTH : Hid (∀ i, i ≤ 4 → k + i ≤ 256 → homeB (bur L k [b0, b1, b2, b3] i) (m : Nat) = !oth [b0, b1, b2, b3] i) := Lib.hid (fun i h1 h2 => by rw [hL]; exact turnedH (by omega) (by omega) HDL.out (by simpa using h1) h1 h2)
        have HL := Lib.hid (LBox.new w3 (m : Nat) x.data)
        have HP4 := Lib.hid (HP.out.more (below_one w3 (.cells #[.int .i64 (m : Nat), .string (strB x.data)] 31)))
        obtain ⟨W4, hW4⟩ : ∃ W4, W4 = w3.alloc (.cells #[.int .i64 (m : Nat), .string (strB x.data)] 31) := ⟨_, rfl⟩
        rw [← hW4] at HL HP4
        have HW4 := Lib.hid hW4
        have k2 : ∀ o, (w3.alloc o).cell? ⟨w.heap.size, 2, none⟩ = some (.bool false) := fun o => by rw [← hl]; exact (HP.out.more (below_one w3 o)).x.at_.c2
        have k4 : ∀ o, (w3.alloc o).cell? ⟨w.heap.size, 4, none⟩ = some (.string (strB x.data)) := fun o => (HP.out.more (below_one w3 o)).x.at_.c4
        clear hW4 hpd hl hL HS HRX HZ HSZ
        go_wp2_with fail
        rw [← HW4.out]
        clear k2 k4 HW4
        have q := fun d os => HP4.out.more (below_regrown W4 d os)
        have i0 := fun d os => (q d os).x.at_.c0
        have i1 := fun d os => (q d os).x.at_.c1
        have i2 := fun d os => (q d os).x.at_.c2
        have i3 := fun d os => (q d os).x.at_.c3
        have i4 := fun d os => (q d os).x.at_.c4
        have l0 := fun d os => cell_regrown HL.out.c0 d os
        have l1 := fun d os => cell_regrown HL.out.c1 d os
        have D1 := Lib.hid (rg HX1.out W4)
        have D2 := Lib.hid (rg HCL.out W4)
        clear q
        refine wp_region_quiet_below (by kernel_rfl) (by kernel_rfl) ?_
        (try simp only [List.append_eq, List.cons_append, List.nil_append])
        repeat (first | go_big_quiet_step (first | (with_reducible exact D1.out _ _) | (with_reducible exact D2.out _ _)))
        refine wpQuiet_nil ?_
        intro _ hw'
        obtain ⟨⟨dq, osq⟩, hw''⟩ := hw'
        replace HP := Lib.hid (HP4.out.more (below_regrown W4 dq osq))
        replace HL := Lib.hid (HL.out.below (below_regrown W4 dq osq))
        obtain ⟨w5, hw5⟩ : ∃ w5, w5 = grow (redrawn W4 dq) osq := ⟨_, rfl⟩
        rw [← hw5] at HP HL
        subst hw''
        dsimp only
        rw [← hw5]
        clear hw5 i0 i1 i2 i3 i4 l0 l1 D1 D2 HP4 HX1 HCL
        go_wp2_with fail
        (with_reducible refine (HPP.out _).mono ?_)
        rintro e w6 ⟨rfl, hB6⟩
        have HA := Lib.hid (EBox.new w6 x)
        have hB6' := below_trans' hB6 (below_one w6 (.cells (enC x) 23))
        replace HP := Lib.hid (HP.out.more hB6')
        replace HL := Lib.hid (HL.out.below hB6')
        unfold enC at HA HP HL
        have l0 := HL.out.c0
        clear hB6 hB6' HPP
        go_wp2_with fail
        (with_reducible refine (HHL.out _).mono ?_)
        rintro e w7 ⟨rfl, hB7⟩
        replace HP := Lib.hid (HP.out.more hB7)
        replace HL := Lib.hid (HL.out.below hB7)
        replace HA := Lib.hid (EBox.below (x := x) HA.out hB7)
        clear hB7 l0 HHL
        obtain ⟨c1, Y1, v1, r1, s1, t1⟩ := conv_bytes w7 S
        obtain ⟨c2, Y2, v2, r2, s2, t2⟩ := conv_bytes Y1 L
        rw [HSL.out] at v1
        rw [HLL.out] at v2
        have HR1 : Hid (RowB Y2 w7.heap.size S) := Lib.hid (r1.keep (s2.block _ t1))
        have HR2 := Lib.hid r2
        have HP2 := Lib.hid ((HP.out.more s1).more s2)
        have HL2 := Lib.hid ((HL.out.below s1).below s2)
        have hz1 : (strB S).size = 256 := by rw [strB_size]; exact HSL.out
        have hz2 : (strB L).size = 256 := by rw [strB_size]; exact HLL.out
        have hne := HNE.out
        have hq := neq23 x x
        rw [decide_eq_true rfl] at hq
        unfold enV at hq
        obtain ⟨a0, a1, a2, a3, a4⟩ := HA.out.at_
        obtain ⟨i0, i1, i2, i3, i4⟩ := HP.out.x.at_
        have l1 := HL.out.c1
        have HG1 : Hid (w.heap.size + 1 < w7.heap.size) := Lib.hid (Array.getElem?_eq_some_iff.1 HP.out.y).1
        have HG2 := Lib.hid t1
        have HGL := Lib.hid HL.out.lt
        clear r1 s1 t1 r2 s2 t2
        go_wp2_with fail
        clear a0 a1 a2 a3 a4 i0 i1 i2 i3 i4 l1 hne hq hz1 hz2 v1 v2 HNE HA HP HL
        have hgy : Y1.heap.size ≠ w7.heap.size := by have := HG2.out; omega
        have HBY := Lib.hid HP2.out.below
        have HYY := Lib.hid HP2.out.y
        have HG3 : Hid (w.heap.size ≤ w7.heap.size) := Lib.hid (by have := HG1.out; omega)
        have HG4 : Hid (w.heap.size ≤ Y1.heap.size) := Lib.hid (by have := HG1.out; have := HG2.out; omega)
        have hb1 : w.heap.size + 1 ≠ w7.heap.size := by have := HG1.out; omega
        have hb2 : w.heap.size + 1 ≠ Y1.heap.size := by have := HG1.out; have := HG2.out; omega
        have hl1 : w3.heap.size ≠ w7.heap.size := by have := HGL.out; omega
        have hl2 : w3.heap.size ≠ Y1.heap.size := by have := HGL.out; have := HG2.out; omega
        clear HG1 HG2 HGL HP2
        simp only [hk]
        clear hk hm
        generalize w7.heap.size = g at *
        generalize Y1.heap.size = h at *
        generalize w3.heap.size = gl at *
        go_loopw [17, 18] (fun o v wr => ∃ i : Nat, i ≤ 4 ∧ k + i ≤ 256 ∧ v = .int .i64 i ∧ o = .bool (oth [b0, b1, b2, b3] i) ∧ RowB wr g (bur S k [b0, b1, b2, b3] i) ∧ RowB wr h (bur L k [b0, b1, b2, b3] i) ∧ Only2 g h Y2 wr) (fun _ v _ => 4 - (intOf v).toNat)
        case atStart => exact ⟨0, Nat.zero_le _, by omega, rfl, rfl, by rw [bur_zero (by rw [HSL.out]; omega)]; exact HR1.out, by rw [bur_zero (by rw [HLL.out]; omega)]; exact HR2.out, Only2.refl _ _ _⟩
        case round =>
          obtain ⟨i, hi, hki, rfl, rfl, hR1, hR2, hO⟩ := hrel
          by_cases hc : i < 4 ∧ k + i < 256
          · obtain ⟨hi4, hkl⟩ := hc
            have e1 := bur_len (x := S) (k := k) (f := [b0, b1, b2, b3]) (i := i) hi (by rw [HSL.out]; omega)
            have e2 := bur_len (x := L) (k := k) (f := [b0, b1, b2, b3]) (i := i) hi (by rw [HLL.out]; omega)
            have j1 : k + i < (bur S k [b0, b1, b2, b3] i).length := by rw [e1, HSL.out]; exact hkl
            have j2 : k + i < (bur L k [b0, b1, b2, b3] i).length := by rw [e2, HLL.out]; exact hkl
            have c1 := hR1.cell j1
            rw [bur_at hi (by rw [HSL.out]; exact hkl)] at c1
            have f1 := hR1.free j1
            have c2 := hR2.cell j2
            rw [bur_at hi (by rw [HLL.out]; exact hkl)] at c2
            have f2 := hR2.free j2
            have c3 : wr.cell? ⟨w.heap.size + 1, i, none⟩ = some (.int .u8 (([b0, b1, b2, b3].getD i 0).toNat : Nat)) := by
              rw [hO.cell (by exact hb1) (by exact hb2), Go.Joins.cell_of_block HYY.out]
              have : i = 0 ∨ i = 1 ∨ i = 2 ∨ i = 3 := by omega
              rcases this with rfl | rfl | rfl | rfl <;> rfl
            have HT1 := Lib.hid (bur_step (x := S) (k := k) (f := [b0, b1, b2, b3]) (i := i) (by simp; omega) (by rw [HSL.out]; exact hkl))
            have HT2 := Lib.hid (bur_step (x := L) (k := k) (f := [b0, b1, b2, b3]) (i := i) (by simp; omega) (by rw [HLL.out]; exact hkl))
            have HT := Lib.hid (oth_step (f := [b0, b1, b2, b3]) (i := i) (by simp; omega))
            have HA1 := Lib.hid hR1
            have HA2 := Lib.hid hR2
            have HOn := Lib.hid hO
            have HJ1 := Lib.hid j1
            have HJ2 := Lib.hid j2
            clear hR1 hR2 hO e1 e2 j1 j2
            have hgo : ∀ (X Y : UInt8), bits .xor .u8 (X.toNat : Int) (Y.toNat : Int) = ((X.toNat ^^^ Y.toNat : Nat) : Int) := fun X Y => by
              exact u8_xor_nat _ _ X.toNat_lt Y.toNat_lt
            generalize S.getD (k + i) 0 = X1 at *
            generalize L.getD (k + i) 0 = X2 at *
            generalize [b0, b1, b2, b3].getD i 0 = Yb at *
            have hx1 := hgo X1 Yb
            have hx2 := hgo X2 Yb
            clear hgo
            have c5 : ∀ v, (wr.setCell ⟨g, k + i, none⟩ v).cell? ⟨h, k + i, none⟩ = some (.int .u8 (X2.toNat : Nat)) := fun v => by
              rw [World.cell?_setCell_other _ _ _ _ (fun e => hgy (congrArg Addr.block e).symm)]; exact c2
            have f5 : ∀ v, (wr.setCell ⟨g, k + i, none⟩ v).frozen? ⟨h, k + i, none⟩ = false := fun v =>
              (World.frozen?_of_block (w := wr) (Below.heap_setCell _ _ _ _ hgy)).trans f2
            go_wp2
            have w1' : IntKind.i64.wrap ((k : Int) + (i : Int)) = (k : Int) + i := IntWalk.i64_in _ (by omega)
            have w2' : ((k : Int) + (i : Int)).toNat = k + i := by omega
            have w3' : (0 : Int) ≤ (k : Int) + i := by omega
            have w4' : ((k : Int) + (i : Int)) < 256 := by omega
            have w5' : k + i < 256 := by omega
            go_region
            clear w1' w2' w3' w4' w5'
            have hA1 : RowB (((wr.setCell ⟨g, k + i, none⟩ (.int .u8 ((X1.toNat ^^^ Yb.toNat : Nat) : Int))).setCell ⟨h, k + i, none⟩ (.int .u8 ((X2.toNat ^^^ Yb.toNat : Nat) : Int))).drew) g (bur S k [b0, b1, b2, b3] (i + 1)) := by
              rw [HT1.out, ← UInt8.toNat_xor]
              exact (RowB.keep (HA1.out.set HJ1.out (X1 ^^^ Yb)) (Below.heap_setCell _ _ _ _ (fun e => hgy e.symm))).keep rfl
            have hA2 : RowB (((wr.setCell ⟨g, k + i, none⟩ (.int .u8 ((X1.toNat ^^^ Yb.toNat : Nat) : Int))).setCell ⟨h, k + i, none⟩ (.int .u8 ((X2.toNat ^^^ Yb.toNat : Nat) : Int))).drew) h (bur L k [b0, b1, b2, b3] (i + 1)) := by
              rw [HT2.out, ← UInt8.toNat_xor]
              exact (RowB.set (HA2.out.keep (Below.heap_setCell _ _ _ _ hgy)) HJ2.out (X2 ^^^ Yb)).keep rfl
            have hO2 : Only2 g h Y2 (((wr.setCell ⟨g, k + i, none⟩ (.int .u8 ((X1.toNat ^^^ Yb.toNat : Nat) : Int))).setCell ⟨h, k + i, none⟩ (.int .u8 ((X2.toNat ^^^ Yb.toNat : Nat) : Int))).drew) := ((HOn.out.fst ((Only.refl g wr).setCell _ rfl _)).snd ((Only.refl h _).setCell _ rfl _)).drew
            have c4 : (((wr.setCell ⟨g, k + i, none⟩ (.int .u8 ((X1.toNat ^^^ Yb.toNat : Nat) : Int))).setCell ⟨h, k + i, none⟩ (.int .u8 ((X2.toNat ^^^ Yb.toNat : Nat) : Int))).drew).cell? ⟨w.heap.size + 1, i, none⟩ = some (.int .u8 (Yb.toNat : Nat)) := by
              rw [World.cell?_drew, World.cell?_setCell_other _ _ _ _ (fun e => hb2 (congrArg Addr.block e).symm), World.cell?_setCell_other _ _ _ _ (fun e => hb1 (congrArg Addr.block e).symm)]; exact c3
            have HB1 := Lib.hid hA1
            have HB2 := Lib.hid hA2
            have HO2 := Lib.hid hO2
            clear hA1 hA2 hO2 c1 c2 c3 f1 f2 c5 f5 hx1 hx2 HT1 HT2 HA1 HA2 HOn HJ1 HJ2
            generalize ((wr.setCell ⟨g, k + i, none⟩ (.int .u8 ((X1.toNat ^^^ Yb.toNat : Nat) : Int))).setCell ⟨h, k + i, none⟩ (.int .u8 ((X2.toNat ^^^ Yb.toNat : Nat) : Int))).drew = wr2 at *
            generalize oth [b0, b1, b2, b3] i = o at *
            cases o with
            | true =>
              go_wp2
              go_roundw
              case rel => exact ⟨i + 1, by omega, by omega, by go_num, by rw [HT.out]; rfl, HB1.out, HB2.out, HO2.out⟩
              case measure => simp [intOf]; omega
            | false =>
              go_wp2
              go_roundw
              case rel => exact ⟨i + 1, by omega, by omega, by go_num, by rw [HT.out, ne8, Bool.false_or], HB1.out, HB2.out, HO2.out⟩
              case measure => simp [intOf]; omega
          · have v1 := hR1.back c1
            have v2 := hR2.back c2
            rw [bur_len (by simpa using hi) (by rw [HSL.out]; omega), HSL.out] at v1
            rw [bur_len (by simpa using hi) (by rw [HLL.out]; omega), HLL.out] at v2
            have HOE := Lib.hid (HTE.out i hi (by omega))
            have HOH := Lib.hid (HTH.out i hi (by omega))
            have HB : Hid (Below w.heap.size w wr) := Lib.hid (HBY.out.trans (hO.below HG3.out HG4.out))
            have HLw : Hid (LBox wr gl (m : Nat) x.data) := Lib.hid ((hO.block gl hl1 hl2).trans HL2.out)
            have HV2 : Hid (∀ w', Below wr.heap.size wr w' → (convert 39 9 (.slice (some ⟨h, 0, none⟩) 256 c2)).run Try.prog w' = .ok (.string (strB (bur L k [b0, b1, b2, b3] i))) w') := Lib.hid (fun w' hb => by
              have := (hR2.keep (hb.block h hR2.lt)).back c2
              rw [bur_len (by simpa using hi) (by rw [HLL.out]; omega), HLL.out] at this
              exact this)
            clear hR1 hR2 hO v2 HTE HTH HR1 HR2
            generalize bur S k [b0, b1, b2, b3] i = B1 at *
            generalize bur L k [b0, b1, b2, b3] i = B2 at *
            generalize oth [b0, b1, b2, b3] i = o at *
            have hend : (decide ((i : Int) < 4) && decide ((k : Int) + (i : Int) < 256)) = false := by
              rw [Bool.and_eq_false_iff, decide_eq_false_iff_not, decide_eq_false_iff_not]; omega
            by_cases hi4 : i < 4
            · have hkl : ¬ ((k : Int) + (i : Int)) < 256 := by omega
              clear hc hend
              go_wp2_with fail
              (with_reducible refine (parseT B1 o _ HOE.out).mono ?_)
              rintro e w8 ⟨R, rfl, hB8⟩
              have hB8' := below_trans' hB8 (below_one w8 (.cells (enC R) 23))
              have v2 := HV2.out _ hB8'
              have l0 := (HLw.out.below hB8').c0
              replace HB := Lib.hid (below_trans' HB.out hB8')
              unfold enC at HB v2 l0
              unfold enV
              clear hB8 hB8' v1 HV2 HLw
              go_wp2_with fail
              (with_reducible refine (homeT B2 m o _ HOH.out).mono ?_)
              rintro e w9 ⟨d9, rfl, hB9⟩
              replace HB := Lib.hid (below_trans' HB.out hB9)
              clear hB9 v2 l0
              go_wp2_with fail
              (with_reducible refine (awake_true _).mono ?_)
              rintro e w10 ⟨rfl, hB10⟩
              replace HB := Lib.hid (below_trans' HB.out hB10)
              clear hB10
              cases o
              all_goals
                go_wp2_with fail
                go_ret
                exact ⟨rfl, HB.out⟩
            · clear hc hend
              go_wp2_with fail
              (with_reducible refine (parseT B1 o _ HOE.out).mono ?_)
              rintro e w8 ⟨R, rfl, hB8⟩
              have hB8' := below_trans' hB8 (below_one w8 (.cells (enC R) 23))
              have v2 := HV2.out _ hB8'
              have l0 := (HLw.out.below hB8').c0
              replace HB := Lib.hid (below_trans' HB.out hB8')
              unfold enC at HB v2 l0
              unfold enV
              clear hB8 hB8' v1 HV2 HLw
              go_wp2_with fail
              (with_reducible refine (homeT B2 m o _ HOH.out).mono ?_)
              rintro e w9 ⟨d9, rfl, hB9⟩
              replace HB := Lib.hid (below_trans' HB.out hB9)
              clear hB9 v2 l0
              go_wp2_with fail
              (with_reducible refine (awake_true _).mono ?_)
              rintro e w10 ⟨rfl, hB10⟩
              replace HB := Lib.hid (below_trans' HB.out hB10)
              clear hB10
              cases o
              all_goals
                go_wp2_with fail
                go_ret
                exact ⟨rfl, HB.out⟩

end Go.Proofs.Ytompckbcaccmiaa
