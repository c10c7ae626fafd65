/- disk's calls, by a deed: the law's 'does'. No statement is proved here. -/
import Derived.Test.YtnnbbkfdijionaaRead
import Derived.Test.YtnnbbkfdijionaaActs
namespace Go.Proofs.Ytnnbbkfdijionaa
open Go.RowKit

/-- Write, whatever comes. -/
def wrOk (d : DK) (at_ : Int) (data : ByteArray) : Prop := 0 ≤ at_ ∧ at_ < d.sure.length ∧ data.size ≤ 256
instance (d : DK) (at_ : Int) (data : ByteArray) : Decidable (wrOk d at_ data) := by unfold wrOk; infer_instance
def wrD (d : DK) (at_ : Int) (data : ByteArray) : DK := if wrOk d at_ data then writeD d at_ data else d
def wrE (d : DK) (at_ : Int) (data : ByteArray) : Int := if wrOk d at_ data then (if deedB d = true then 0 else 12) else 1

theorem write_calls (v : Value) (d : DK) (at_ : Int) (data : ByteArray) (w : World) (hv : IsDisk w v d) (hd : d.ok) :
    Calls Try.prog 22 #[v, .int .i64 at_, .string data] w fun e w' => ∃ v', e = .returned (.tuple #[v', .int .i64 (wrE d at_ data)]) ∧ IsDisk w' v' (wrD d at_ data) ∧ Below w.heap.size w w' := by
  unfold wrE wrD
  by_cases h : wrOk d at_ data
  · rw [if_pos h, if_pos h]
    exact write_may v d at_ data w hv hd h.1 h.2.1 h.2.2
  · rw [if_neg h, if_neg h]
    exact write_arg v d at_ data w hv h

/-- Read, whatever comes. -/
def rdOk (d : DK) (at_ : Int) : Prop := 0 ≤ at_ ∧ at_ < d.sure.length
instance (d : DK) (at_ : Int) : Decidable (rdOk d at_) := by unfold rdOk; infer_instance
def rdS (d : DK) (at_ : Int) : ByteArray := if rdOk d at_ ∧ d.dead = false then readF d.wet d.sure at_ else ⟨#[]⟩
def rdE (d : DK) (at_ : Int) : Int := if rdOk d at_ then (if d.dead = false then 0 else 12) else 1

theorem read_calls (v : Value) (d : DK) (at_ : Int) (w : World) (hv : IsDisk w v d) (hd : d.ok) :
    Calls Try.prog 23 #[v, .int .i64 at_] w fun e w' => e = .returned (.tuple #[.string (rdS d at_), .int .i64 (rdE d at_)]) ∧ Below w.heap.size w w' := by
  unfold rdS rdE
  by_cases h : rdOk d at_
  · by_cases hde : d.dead = false
    · rw [if_pos ⟨h, hde⟩, if_pos h, if_pos hde]
      exact read_ok v d at_ w hv hd h.1 h.2 hde
    · rw [if_neg (fun x => hde x.2), if_pos h, if_neg hde]
      exact read_down v d at_ w hv h.1 h.2 (by simpa using hde)
  · rw [if_neg (fun x => h x.1), if_neg h]
    exact read_arg v d at_ w hv h

def flD (d : DK) : DK := if deedB d = true then { deedD d with sure := settleF allBits d.wet d.sure, wet := [] } else deedD d
def flE (d : DK) : Int := if deedB d = true then 0 else 12
def stD (d : DK) (stay : Nat) : DK := ⟨settleF stay d.wet d.sure, [], false, -1⟩

/-- Behind a deed: the disk, what was read, the error. -/
def doesD (d : DK) (a : AK) : DK := if a.kind = 0 then wrD d a.place a.data else if a.kind = 2 then flD d else if a.kind = 3 then { d with left := max a.place (-1) } else if a.kind = 4 then stD d a.stay else d
def doesS (d : DK) (a : AK) : ByteArray := if a.kind = 1 then rdS d a.place else ⟨#[]⟩
def doesE (d : DK) (a : AK) : Int := if a.kind = 0 then wrE d a.place a.data else if a.kind = 1 then rdE d a.place else if a.kind = 2 then flE d else 0

/-- Three boxes that were laid one behind another. -/
theorem three_new (w : World) (a b c : Obj) : ∃ X g1 g2 g3, ((w.alloc a).alloc b).alloc c = X ∧ w.heap.size = g1 ∧ w.heap.size + 1 = g2 ∧ w.heap.size + 1 + 1 = g3 ∧ X.heap[g1]? = some a ∧ X.heap[g2]? = some b ∧ X.heap[g3]? = some c ∧ Below w.heap.size w X ∧ w.heap.size ≤ g3 ∧ g3 ≠ g1 := by
  refine ⟨_, _, _, _, rfl, rfl, rfl, rfl, box_alloc (box_alloc (heap_alloc_new w a) b) c, ?_, ?_, (((Below.refl _ _).alloc (Nat.le_refl _) _).alloc (by simp) _).alloc (by simp; omega) _, by omega, by omega⟩
  · exact box_alloc (by have := heap_alloc_new (w.alloc a) b; simpa using this) c
  · have := heap_alloc_new ((w.alloc a).alloc b) c
    simpa using this

set_option maxHeartbeats 1000000 in
theorem does_write (v : Value) (d : DK) (place : Int) (data : ByteArray) (stay : Nat) (w : World) (hv : IsDisk w v d) (hd : d.ok) (hst : stay < 18446744073709551616) :
    Calls Try.prog 13 #[v, .agg #[.int .i64 0, .int .i64 place, .string data, .int .u64 stay]] w fun e w' => ∃ v', e = .returned (.tuple #[v', .string ⟨#[]⟩, .int .i64 (wrE d place data)]) ∧ IsDisk w' v' (wrD d place data) ∧ Below w.heap.size w w' := by
  obtain ⟨A, n, c, A', m, c', rfl⟩ := hv.parts
  obtain ⟨E, hE⟩ : ∃ E, E = wrE d place data := ⟨_, rfl⟩
  obtain ⟨D, hD⟩ : ∃ D, D = wrD d place data := ⟨_, rfl⟩
  rw [← hE, ← hD]
  have HV := Lib.hid hv
  have HD := Lib.hid hd
  have HS := Lib.hid hst
  clear hv hd hst
  go_enter Try.func13, Try.ntmps13
  go_upto_region 1 with (fail)
  obtain ⟨X, g1, g2, g3, eX, e1, e2, e3, hG1, hG2, hG3, hB, hle, hne⟩ := three_new w (.cells #[.slice A n c, .slice A' m c', .bool d.dead, .int .i64 d.left] 28) (.cells #[.int .i64 0, .int .i64 place, .string data, .int .u64 stay] 35) (.cells #[.slice none 0 0, .slice none 0 0, .bool false, .int .i64 0] 28)
  rw [eX, e3, e2, e1]
  rw [e1] at hB hle
  have HVX := Lib.hid (HV.out.below (e1 ▸ hB))
  have E1 := Lib.hid e1
  have HB := Lib.hid hB
  have HG1 := Lib.hid hG1
  have HG3 := Lib.hid hG3
  clear eX e1 e2 e3 hB
  obtain ⟨⟨p0, p1, p2, p3⟩, f0, f1, f2, f3⟩ := box4 hG1
  obtain ⟨⟨q0, q1, q2, q3⟩, _⟩ := box4 hG2
  clear hG1 hG2 hG3
  have hcl := write_calls _ _ place data _ HVX.out HD.out
  rw [← hE, ← hD] at hcl
  clear hE hD
  have HCL := Lib.hid hcl
  clear hcl
  go_wp2_with fail
  with_reducible refine HCL.out.mono ?_
  rintro e w1 ⟨v1, rfl, hv1, hb1⟩
  obtain ⟨A1, n1, c1, A1', m1, c1', rfl⟩ := hv1.parts
  have hg1 := box_kept g1 HG1.out hb1
  have hg3 := box_kept g3 HG3.out hb1
  have hbw := HB.out.trans (hb1.mono (E1.out ▸ HB.out.size))
  obtain ⟨w2, e2, hG2, hK2, hB2⟩ := box_store4 hg1 (.slice A1 n1 c1) (.slice A1' m1 c1') (.bool D.dead) (.int .i64 D.left)
  have HV2 := Lib.hid (hv1.other hg1 (by decide) (by decide) hK2)
  have HB2 := Lib.hid (hB2 _ _ hbw (Nat.le_refl _))
  have hr2 : w2.heap[g3]? = _ := (hK2 _ hne).trans hg3
  clear p0 p1 p2 p3 f0 f1 f2 f3
  obtain ⟨⟨p0, p1, p2, p3⟩, f0, f1, f2, f3⟩ := box4 hg1
  have HG2 := Lib.hid hG2
  have HR2 := Lib.hid hr2
  have E2 := Lib.hid e2
  clear hb1 hv1 hg1 hg3 hbw e2 hG2 hK2 hB2 hr2 q0 q1 q2 q3
  go_upto_region 13 with (fail)
  rw [E2.out]
  clear p0 p1 p2 p3 f0 f1 f2 f3 E2
  obtain ⟨⟨p0, p1, p2, p3⟩, _⟩ := box4 HG2.out
  obtain ⟨⟨r0, r1, r2, r3⟩, s0, s1, s2, s3⟩ := box4 HR2.out
  go_wp2_with fail
  refine bodyPost_ret (v := .tuple #[.agg #[.slice A1 n1 c1, .slice A1' m1 c1', .bool D.dead, .int .i64 D.left], .string ⟨#[]⟩, .int .i64 E]) (by simp [results, Try.results13, go_sem, r0, r1, r2, r3, s0, s1, s2, s3]) rfl ⟨_, rfl, ?_, ?_⟩
  · exact HV2.out.other HR2.out (by decide) (by decide) (store4_other _ _ _ _ _ _)
  · rw [E1.out]; exact below_store4 HB2.out _ hle _ _ _ _

set_option maxHeartbeats 1000000 in
theorem does_flush (v : Value) (d : DK) (place : Int) (data : ByteArray) (stay : Nat) (w : World) (hv : IsDisk w v d) (hd : d.ok) (hst : stay < 18446744073709551616) :
    Calls Try.prog 13 #[v, .agg #[.int .i64 2, .int .i64 place, .string data, .int .u64 stay]] w fun e w' => ∃ v', e = .returned (.tuple #[v', .string ⟨#[]⟩, .int .i64 (flE d)]) ∧ IsDisk w' v' (flD d) ∧ Below w.heap.size w w' := by
  obtain ⟨A, n, c, A', m, c', rfl⟩ := hv.parts
  obtain ⟨E, hE⟩ : ∃ E, E = flE d := ⟨_, rfl⟩
  obtain ⟨D, hD⟩ : ∃ D, D = flD d := ⟨_, rfl⟩
  rw [← hE, ← hD]
  have HV := Lib.hid hv
  have HD := Lib.hid hd
  have HS := Lib.hid hst
  clear hv hd hst
  go_enter Try.func13, Try.ntmps13
  go_upto_region 1 with (fail)
  obtain ⟨X, g1, g2, g3, eX, e1, e2, e3, hG1, hG2, hG3, hB, hle, hne⟩ := three_new w (.cells #[.slice A n c, .slice A' m c', .bool d.dead, .int .i64 d.left] 28) (.cells #[.int .i64 2, .int .i64 place, .string data, .int .u64 stay] 35) (.cells #[.slice none 0 0, .slice none 0 0, .bool false, .int .i64 0] 28)
  rw [eX, e3, e2, e1]
  rw [e1] at hB hle
  have HVX := Lib.hid (HV.out.below (e1 ▸ hB))
  have E1 := Lib.hid e1
  have HB := Lib.hid hB
  have HG1 := Lib.hid hG1
  have HG3 := Lib.hid hG3
  clear eX e1 e2 e3 hB
  obtain ⟨⟨p0, p1, p2, p3⟩, f0, f1, f2, f3⟩ := box4 hG1
  obtain ⟨⟨q0, q1, q2, q3⟩, _⟩ := box4 hG2
  clear hG1 hG2 hG3
  have hcl : Calls Try.prog 19 _ _ fun e w' => ∃ v', e = .returned (.tuple #[v', .int .i64 (flE d)]) ∧ IsDisk w' v' (flD d) ∧ Below X.heap.size X w' := flush_calls _ _ _ HVX.out HD.out
  rw [← hE, ← hD] at hcl
  clear hE hD
  have HCL := Lib.hid hcl
  clear hcl
  go_wp2_with fail
  with_reducible refine HCL.out.mono ?_
  rintro e w1 ⟨v1, rfl, hv1, hb1⟩
  obtain ⟨A1, n1, c1, A1', m1, c1', rfl⟩ := hv1.parts
  have hg1 := box_kept g1 HG1.out hb1
  have hg3 := box_kept g3 HG3.out hb1
  have hbw := HB.out.trans (hb1.mono (E1.out ▸ HB.out.size))
  obtain ⟨w2, e2, hG2, hK2, hB2⟩ := box_store4 hg1 (.slice A1 n1 c1) (.slice A1' m1 c1') (.bool D.dead) (.int .i64 D.left)
  have HV2 := Lib.hid (hv1.other hg1 (by decide) (by decide) hK2)
  have HB2 := Lib.hid (hB2 _ _ hbw (Nat.le_refl _))
  have hr2 : w2.heap[g3]? = _ := (hK2 _ hne).trans hg3
  clear p0 p1 p2 p3 f0 f1 f2 f3
  obtain ⟨⟨p0, p1, p2, p3⟩, f0, f1, f2, f3⟩ := box4 hg1
  have HG2 := Lib.hid hG2
  have HR2 := Lib.hid hr2
  have E2 := Lib.hid e2
  clear hb1 hv1 hg1 hg3 hbw e2 hG2 hK2 hB2 hr2 q0 q1 q2 q3
  go_upto_region 13 with (fail)
  rw [E2.out]
  clear p0 p1 p2 p3 f0 f1 f2 f3 E2
  obtain ⟨⟨p0, p1, p2, p3⟩, _⟩ := box4 HG2.out
  obtain ⟨⟨r0, r1, r2, r3⟩, s0, s1, s2, s3⟩ := box4 HR2.out
  go_wp2_with fail
  refine bodyPost_ret (v := .tuple #[.agg #[.slice A1 n1 c1, .slice A1' m1 c1', .bool D.dead, .int .i64 D.left], .string ⟨#[]⟩, .int .i64 E]) (by simp [results, Try.results13, go_sem, r0, r1, r2, r3, s0, s1, s2, s3]) rfl ⟨_, rfl, ?_, ?_⟩
  · exact HV2.out.other HR2.out (by decide) (by decide) (store4_other _ _ _ _ _ _)
  · rw [E1.out]; exact below_store4 HB2.out _ hle _ _ _ _

set_option maxHeartbeats 1000000 in
theorem does_arm (v : Value) (d : DK) (place : Int) (data : ByteArray) (stay : Nat) (w : World) (hv : IsDisk w v d) (hd : d.ok) (hst : stay < 18446744073709551616) :
    Calls Try.prog 13 #[v, .agg #[.int .i64 3, .int .i64 place, .string data, .int .u64 stay]] w fun e w' => ∃ v', e = .returned (.tuple #[v', .string ⟨#[]⟩, .int .i64 0]) ∧ IsDisk w' v' { d with left := max place (-1) } ∧ Below w.heap.size w w' := by
  obtain ⟨A, n, c, A', m, c', rfl⟩ := hv.parts
  obtain ⟨D, hD⟩ : ∃ D : DK, D = { d with left := max place (-1) } := ⟨_, rfl⟩
  rw [← hD]
  have HV := Lib.hid hv
  have HD := Lib.hid hd
  have HS := Lib.hid hst
  clear hv hd hst
  go_enter Try.func13, Try.ntmps13
  go_upto_region 1 with (fail)
  obtain ⟨X, g1, g2, g3, eX, e1, e2, e3, hG1, hG2, hG3, hB, hle, hne⟩ := three_new w (.cells #[.slice A n c, .slice A' m c', .bool d.dead, .int .i64 d.left] 28) (.cells #[.int .i64 3, .int .i64 place, .string data, .int .u64 stay] 35) (.cells #[.slice none 0 0, .slice none 0 0, .bool false, .int .i64 0] 28)
  rw [eX, e3, e2, e1]
  rw [e1] at hB hle
  have HVX := Lib.hid (HV.out.below (e1 ▸ hB))
  have E1 := Lib.hid e1
  have HB := Lib.hid hB
  have HG1 := Lib.hid hG1
  have HG3 := Lib.hid hG3
  clear eX e1 e2 e3 hB
  obtain ⟨⟨p0, p1, p2, p3⟩, f0, f1, f2, f3⟩ := box4 hG1
  obtain ⟨⟨q0, q1, q2, q3⟩, _⟩ := box4 hG2
  clear hG1 hG2 hG3
  have hcl := arm_calls _ _ place _ HVX.out
  rw [← hD] at hcl
  clear hD
  have HCL := Lib.hid hcl
  clear hcl
  go_wp2_with fail
  with_reducible refine HCL.out.mono ?_
  rintro e w1 ⟨v1, rfl, hv1, hb1⟩
  obtain ⟨A1, n1, c1, A1', m1, c1', rfl⟩ := hv1.parts
  have hg1 := box_kept g1 HG1.out hb1
  have hg3 := box_kept g3 HG3.out hb1
  have hbw := HB.out.trans (hb1.mono (E1.out ▸ HB.out.size))
  obtain ⟨w2, e2, hG2, hK2, hB2⟩ := box_store4 hg1 (.slice A1 n1 c1) (.slice A1' m1 c1') (.bool D.dead) (.int .i64 D.left)
  have HV2 := Lib.hid (hv1.other hg1 (by decide) (by decide) hK2)
  have HB2 := Lib.hid (hB2 _ _ hbw (Nat.le_refl _))
  have hr2 : w2.heap[g3]? = _ := (hK2 _ hne).trans hg3
  clear p0 p1 p2 p3 f0 f1 f2 f3
  obtain ⟨⟨p0, p1, p2, p3⟩, f0, f1, f2, f3⟩ := box4 hg1
  have HG2 := Lib.hid hG2
  have HR2 := Lib.hid hr2
  have E2 := Lib.hid e2
  clear hb1 hv1 hg1 hg3 hbw e2 hG2 hK2 hB2 hr2 q0 q1 q2 q3
  go_upto_region 13 with (fail)
  rw [E2.out]
  clear p0 p1 p2 p3 f0 f1 f2 f3 E2
  obtain ⟨⟨p0, p1, p2, p3⟩, _⟩ := box4 HG2.out
  obtain ⟨⟨r0, r1, r2, r3⟩, s0, s1, s2, s3⟩ := box4 HR2.out
  go_wp2_with fail
  refine bodyPost_ret (v := .tuple #[.agg #[.slice A1 n1 c1, .slice A1' m1 c1', .bool D.dead, .int .i64 D.left], .string ⟨#[]⟩, .int .i64 0]) (by simp [results, Try.results13, go_sem, r0, r1, r2, r3, s0, s1, s2, s3]) rfl ⟨_, rfl, ?_, ?_⟩
  · exact HV2.out.other HR2.out (by decide) (by decide) (store4_other _ _ _ _ _ _)
  · rw [E1.out]; exact below_store4 HB2.out _ hle _ _ _ _

set_option maxHeartbeats 1000000 in
theorem does_start (v : Value) (d : DK) (place : Int) (data : ByteArray) (stay : Nat) (w : World) (hv : IsDisk w v d) (hd : d.ok) (hst : stay < 18446744073709551616) :
    Calls Try.prog 13 #[v, .agg #[.int .i64 4, .int .i64 place, .string data, .int .u64 stay]] w fun e w' => ∃ v', e = .returned (.tuple #[v', .string ⟨#[]⟩, .int .i64 0]) ∧ IsDisk w' v' (stD d stay) ∧ Below w.heap.size w w' := by
  obtain ⟨A, n, c, A', m, c', rfl⟩ := hv.parts
  obtain ⟨D, hD⟩ : ∃ D : DK, D = stD d stay := ⟨_, rfl⟩
  rw [← hD]
  have HV := Lib.hid hv
  have HD := Lib.hid hd
  have HS := Lib.hid hst
  clear hv hd hst
  go_enter Try.func13, Try.ntmps13
  go_upto_region 1 with (fail)
  obtain ⟨X, g1, g2, g3, eX, e1, e2, e3, hG1, hG2, hG3, hB, hle, hne⟩ := three_new w (.cells #[.slice A n c, .slice A' m c', .bool d.dead, .int .i64 d.left] 28) (.cells #[.int .i64 4, .int .i64 place, .string data, .int .u64 stay] 35) (.cells #[.slice none 0 0, .slice none 0 0, .bool false, .int .i64 0] 28)
  rw [eX, e3, e2, e1]
  rw [e1] at hB hle
  have HVX := Lib.hid (HV.out.below (e1 ▸ hB))
  have E1 := Lib.hid e1
  have HB := Lib.hid hB
  have HG1 := Lib.hid hG1
  have HG3 := Lib.hid hG3
  clear eX e1 e2 e3 hB
  obtain ⟨⟨p0, p1, p2, p3⟩, f0, f1, f2, f3⟩ := box4 hG1
  obtain ⟨⟨q0, q1, q2, q3⟩, _⟩ := box4 hG2
  clear hG1 hG2 hG3
  have hcl : Calls Try.prog 20 _ _ fun e w' => ∃ v', e = .returned v' ∧ IsDisk w' v' (stD d stay) ∧ Below X.heap.size X w' := start_calls _ _ stay _ HVX.out HD.out HS.out
  rw [← hD] at hcl
  clear hD
  have HCL := Lib.hid hcl
  clear hcl
  go_wp2_with fail
  with_reducible refine HCL.out.mono ?_
  rintro e w1 ⟨v1, rfl, hv1, hb1⟩
  obtain ⟨A1, n1, c1, A1', m1, c1', rfl⟩ := hv1.parts
  have hg1 := box_kept g1 HG1.out hb1
  have hg3 := box_kept g3 HG3.out hb1
  have hbw := HB.out.trans (hb1.mono (E1.out ▸ HB.out.size))
  obtain ⟨w2, e2, hG2, hK2, hB2⟩ := box_store4 hg1 (.slice A1 n1 c1) (.slice A1' m1 c1') (.bool D.dead) (.int .i64 D.left)
  have HV2 := Lib.hid (hv1.other hg1 (by decide) (by decide) hK2)
  have HB2 := Lib.hid (hB2 _ _ hbw (Nat.le_refl _))
  have hr2 : w2.heap[g3]? = _ := (hK2 _ hne).trans hg3
  clear p0 p1 p2 p3 f0 f1 f2 f3
  obtain ⟨⟨p0, p1, p2, p3⟩, f0, f1, f2, f3⟩ := box4 hg1
  have HG2 := Lib.hid hG2
  have HR2 := Lib.hid hr2
  have E2 := Lib.hid e2
  clear hb1 hv1 hg1 hg3 hbw e2 hG2 hK2 hB2 hr2 q0 q1 q2 q3
  go_upto_region 13 with (fail)
  rw [E2.out]
  clear p0 p1 p2 p3 f0 f1 f2 f3 E2
  obtain ⟨⟨p0, p1, p2, p3⟩, _⟩ := box4 HG2.out
  obtain ⟨⟨r0, r1, r2, r3⟩, s0, s1, s2, s3⟩ := box4 HR2.out
  go_wp2_with fail
  refine bodyPost_ret (v := .tuple #[.agg #[.slice A1 n1 c1, .slice A1' m1 c1', .bool D.dead, .int .i64 D.left], .string ⟨#[]⟩, .int .i64 0]) (by simp [results, Try.results13, go_sem, r0, r1, r2, r3, s0, s1, s2, s3]) rfl ⟨_, rfl, ?_, ?_⟩
  · exact HV2.out.other HR2.out (by decide) (by decide) (store4_other _ _ _ _ _ _)
  · rw [E1.out]; exact below_store4 HB2.out _ hle _ _ _ _

set_option maxHeartbeats 1000000 in
theorem does_read (v : Value) (d : DK) (place : Int) (data : ByteArray) (stay : Nat) (w : World) (hv : IsDisk w v d) (hd : d.ok) (hst : stay < 18446744073709551616) :
    Calls Try.prog 13 #[v, .agg #[.int .i64 1, .int .i64 place, .string data, .int .u64 stay]] w fun e w' => ∃ v', e = .returned (.tuple #[v', .string (rdS d place), .int .i64 (rdE d place)]) ∧ IsDisk w' v' d ∧ Below w.heap.size w w' := by
  obtain ⟨A, n, c, A', m, c', rfl⟩ := hv.parts
  obtain ⟨E, hE⟩ : ∃ E, E = rdE d place := ⟨_, rfl⟩
  obtain ⟨S, hS⟩ : ∃ S, S = rdS d place := ⟨_, rfl⟩
  rw [← hE, ← hS]
  have HV := Lib.hid hv
  have HD := Lib.hid hd
  have HS := Lib.hid hst
  clear hv hd hst
  go_enter Try.func13, Try.ntmps13
  go_upto_region 1 with (fail)
  obtain ⟨X, g1, g2, g3, eX, e1, e2, e3, hG1, hG2, hG3, hB, hle, hne⟩ := three_new w (.cells #[.slice A n c, .slice A' m c', .bool d.dead, .int .i64 d.left] 28) (.cells #[.int .i64 1, .int .i64 place, .string data, .int .u64 stay] 35) (.cells #[.slice none 0 0, .slice none 0 0, .bool false, .int .i64 0] 28)
  rw [eX, e3, e2, e1]
  rw [e1] at hB hle
  have HVX := Lib.hid (HV.out.below (e1 ▸ hB))
  have E1 := Lib.hid e1
  have HB := Lib.hid hB
  have HG1 := Lib.hid hG1
  have HG3 := Lib.hid hG3
  clear eX e1 e2 e3 hB
  obtain ⟨⟨p0, p1, p2, p3⟩, f0, f1, f2, f3⟩ := box4 hG1
  obtain ⟨⟨q0, q1, q2, q3⟩, _⟩ := box4 hG2
  clear hG1 hG2 hG3
  have hcl := read_calls _ _ place _ HVX.out HD.out
  rw [← hE, ← hS] at hcl
  clear hE hS
  have HCL := Lib.hid hcl
  clear hcl
  go_wp2_with fail
  with_reducible refine HCL.out.mono ?_
  rintro e w1 ⟨rfl, hb1⟩
  have HV1 := Lib.hid (HVX.out.below hb1)
  have hg1 := box_kept g1 HG1.out hb1
  have HR2 := Lib.hid (box_kept g3 HG3.out hb1)
  have HB2 := Lib.hid (HB.out.trans (hb1.mono (E1.out ▸ HB.out.size)))
  clear hb1 p0 p1 p2 p3 f0 f1 f2 f3 q0 q1 q2 q3
  obtain ⟨⟨p0, p1, p2, p3⟩, _⟩ := box4 hg1
  obtain ⟨⟨r0, r1, r2, r3⟩, s0, s1, s2, s3⟩ := box4 HR2.out
  clear hg1
  go_wp2_with fail
  refine bodyPost_ret (v := .tuple #[.agg #[.slice A n c, .slice A' m c', .bool d.dead, .int .i64 d.left], .string S, .int .i64 E]) (by simp [results, Try.results13, go_sem, r0, r1, r2, r3, s0, s1, s2, s3]) rfl ⟨_, rfl, ?_, ?_⟩
  · exact HV1.out.other HR2.out (by decide) (by decide) (store4_other _ _ _ _ _ _)
  · rw [E1.out]; exact below_store4 HB2.out _ hle _ _ _ _

set_option maxHeartbeats 1000000 in
theorem does_none (v : Value) (d : DK) (kind place : Int) (data : ByteArray) (stay : Nat) (w : World) (hv : IsDisk w v d) (hd : d.ok) (hst : stay < 18446744073709551616) (h0 : ¬ kind = 0) (h1 : ¬ kind = 1) (h2 : ¬ kind = 2) (h3 : ¬ kind = 3) (h4 : ¬ kind = 4) :
    Calls Try.prog 13 #[v, .agg #[.int .i64 kind, .int .i64 place, .string data, .int .u64 stay]] w fun e w' => ∃ v', e = .returned (.tuple #[v', .string ⟨#[]⟩, .int .i64 0]) ∧ IsDisk w' v' d ∧ Below w.heap.size w w' := by
  obtain ⟨A, n, c, A', m, c', rfl⟩ := hv.parts
  have k0 : (kind == 0) = false := by simpa using h0
  have k1 : (kind == 1) = false := by simpa using h1
  have k2 : (kind == 2) = false := by simpa using h2
  have k3 : (kind == 3) = false := by simpa using h3
  have k4 : (kind == 4) = false := by simpa using h4
  clear h0 h1 h2 h3 h4
  have HV := Lib.hid hv
  have HD := Lib.hid hd
  have HS := Lib.hid hst
  clear hv hd hst
  go_enter Try.func13, Try.ntmps13
  go_upto_region 1 with (fail)
  obtain ⟨X, g1, g2, g3, eX, e1, e2, e3, hG1, hG2, hG3, hB, hle, hne⟩ := three_new w (.cells #[.slice A n c, .slice A' m c', .bool d.dead, .int .i64 d.left] 28) (.cells #[.int .i64 kind, .int .i64 place, .string data, .int .u64 stay] 35) (.cells #[.slice none 0 0, .slice none 0 0, .bool false, .int .i64 0] 28)
  rw [eX, e3, e2, e1]
  rw [e1] at hB hle
  have HVX := Lib.hid (HV.out.below (e1 ▸ hB))
  have E1 := Lib.hid e1
  have HB := Lib.hid hB
  have HG1 := Lib.hid hG1
  have HG3 := Lib.hid hG3
  clear eX e1 e2 e3 hB
  obtain ⟨⟨p0, p1, p2, p3⟩, f0, f1, f2, f3⟩ := box4 hG1
  obtain ⟨⟨q0, q1, q2, q3⟩, _⟩ := box4 hG2
  clear hG1 hG2 hG3
  obtain ⟨⟨r0, r1, r2, r3⟩, s0, s1, s2, s3⟩ := box4 HG3.out
  go_wp2_with fail
  refine bodyPost_ret (v := .tuple #[.agg #[.slice A n c, .slice A' m c', .bool d.dead, .int .i64 d.left], .string ⟨#[]⟩, .int .i64 0]) (by simp [results, Try.results13, go_sem, r0, r1, r2, r3, s0, s1, s2, s3]) rfl ⟨_, rfl, ?_, ?_⟩
  · exact HVX.out.other HG3.out (by decide) (by decide) (store4_other _ _ _ _ _ _)
  · rw [E1.out]; exact below_store4 HB.out _ hle _ _ _ _

/-- does: a disk behind a deed. -/
theorem does_calls (v : Value) (d : DK) (a : AK) (w : World) (hv : IsDisk w v d) (hd : d.ok) (hst : a.stay < 18446744073709551616) :
    Calls Try.prog 13 #[v, a.v] w fun e w' => ∃ v', e = .returned (.tuple #[v', .string (doesS d a), .int .i64 (doesE d a)]) ∧ IsDisk w' v' (doesD d a) ∧ Below w.heap.size w w' := by
  obtain ⟨kind, place, data, stay⟩ := a
  unfold doesS doesE doesD AK.v
  dsimp only at hst ⊢
  by_cases h0 : kind = 0
  · subst h0; exact does_write v d place data stay w hv hd hst
  by_cases h1 : kind = 1
  · subst h1; exact does_read v d place data stay w hv hd hst
  by_cases h2 : kind = 2
  · subst h2; exact does_flush v d place data stay w hv hd hst
  by_cases h3 : kind = 3
  · subst h3; exact does_arm v d place data stay w hv hd hst
  by_cases h4 : kind = 4
  · subst h4; exact does_start v d place data stay w hv hd hst
  rw [if_neg h1, if_neg h0, if_neg h1, if_neg h2, if_neg h0, if_neg h2, if_neg h3, if_neg h4]
  exact does_none v d kind place data stay w hv hd hst h0 h1 h2 h3 h4

end Go.Proofs.Ytnnbbkfdijionaa
