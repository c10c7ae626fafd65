/- EntryBack: for whatever entry, number and four bytes: an entry that may be written, and a page, are parsed as they were, and up to four other bytes side by side are told; the law is true; the statement, from its walk. -/
import Derived.Test.YtompckbcaccmiaaRows
import Derived.Test.YtompckbcaccmiaaEBackN
import Derived.Test.YtompckbcaccmiaaOpen
import Derived.WalkKit
import Derived.ProofKit
import Derived.OpenShut
import Derived.ShutString
import Derived.ChangeOld
import Derived.Below
import Derived.SizedLaws
namespace Go.Proofs.Ytompckbcaccmiaa
open Go.ChangeShapes Go.WideShapes Go.ChangeAt Go.RowKit
open Go.ChangeMaps (open_string shut_string)

set_option maxHeartbeats 1000000 in
set_option maxRecDepth 100000 in
theorem entryBack_lifted (os : Os) (started : os.Started) (H : Type) (enc : TypeId × Value → H) :
    ReturnsInHanded {} Try.checked os 5 .any (Rows.entryBackSpec.pre6 enc Try.prog Try.f5 Rows.entryBackRow.domain false) (Rows.entryBackSpec.post enc Try.prog Try.f5 false true false false) := by
  refine returnsInHanded_of_change_sized (C := Try.checked) own started (by kernel_rfl) Try.func5
    (ChangeSpec.witness6 (enc := enc) (C := Try.checked) false ⟨#[], #[.agg #[.int .i64 0, .int .i64 0, .bool false, .int .i64 0, .string ⟨#[]⟩], .int .u16 0, .agg #[.int .u8 0, .int .u8 0, .int .u8 0, .int .u8 0]], []⟩ 8 (by kernel_rfl) (by kernel_rfl) (by kernel_rfl) (by kernel_rfl)) ?_
  intro W base args ds gs before hval0 hW hcnd hsz0 _
  have hsz : (DataW.weightsEach Try.prog (Try.f5.params.toList ++ Rows.entryBackSpec.plain.varTypes Try.prog) (ds ++ gs)).all (· ≤ reachBytes) = true := hsz0
  clear hsz0
  have hval : ∀ (j : Nat) t v, Try.f5.params[j]? = some t → args[j]? = some v → Value.okWide Try.prog W .any base t v := hval0
  have hW' := hW
  obtain ⟨p, q, hA0, hV, rfl, hfz, hnd⟩ := hW
  have hA : DataW.TrodAll enc Try.prog W 0 (fun _ => true) true Try.f5.params.toList args.toList ds p := hA0
  rw [Try.params5] at hA hval hsz
  obtain ⟨v0, vs0, d0, ds0, p0, q0, hargs, rfl, rfl, h0, r'0⟩ := trodAll_cons hA
  obtain ⟨v1, vs1, d1, ds1, p1, q1, rfl, rfl, rfl, h1, r'1⟩ := trodAll_cons r'0
  obtain ⟨v2, vs2, d2, ds2, p2, q2, rfl, rfl, rfl, h2, r'2⟩ := trodAll_cons r'1
  obtain ⟨rfl, rfl, rfl⟩ := trodAll_nil r'2
  obtain rfl : args = #[v0, v1, v2] := by cases args; simp_all
  obtain ⟨rfl, rfl⟩ := trodVars_none hV
  have k'0 := h0
  have lt0 : ∀ x ∈ p0, x.block < W.heap.size := by obtain ⟨m, hm⟩ := k'0; exact DataW.trod_lt m _ _ _ hm
  obtain ⟨x0, rfl⟩ := en_of (hval 0 23 v0 rfl rfl) h0
  obtain ⟨a1, rfl, rfl, rfl, z1⟩ := open_int Try.underlying36 (hval 1 36 v1 rfl rfl) h1
  obtain ⟨x1, rfl, b1⟩ := u16_of z1
  have k'2 := h2
  have lt2 : ∀ x ∈ p2, x.block < W.heap.size := by obtain ⟨m, hm⟩ := k'2; exact DataW.trod_lt m _ _ _ hm
  obtain ⟨cs2, rfl, hsz2, _⟩ : ∃ cs, v2 = .agg cs ∧ cs.size = Try.prog.cellsOf 37 ∧ Row.okWide Try.prog W .any base 37 cs := by
    have := hval 2 37 v2 rfl rfl
    simpa [Value.okWide, Try.underlying37] using this
  rw [show Try.prog.cellsOf 37 = 4 by kernel_rfl] at hsz2
  obtain ⟨l2⟩ := cs2
  obtain ⟨e2_0, e2_1, e2_2, e2_3, rfl⟩ := list4 l2 hsz2
  obtain ⟨fuel2, hf2⟩ := h2
  obtain ⟨xs2, m2, _, _, _, hxl2, hel2⟩ := DataW.trod_array Try.underlying37 hf2
  have g2_0 := hel2 0 (by omega)
  rw [show Try.prog.cellsOf 5 = 1 by kernel_rfl, List.getElem?_eq_getElem (by omega)] at g2_0
  obtain ⟨a2_0, ea2_0, _, w2_0⟩ := DataW.trod_int Try.underlying5 g2_0
  obtain rfl : e2_0 = .int .u8 a2_0 := List.head_eq_of_cons_eq (show [e2_0] = [Value.int .u8 a2_0] from ea2_0)
  obtain ⟨x2_0, rfl, b2_0⟩ := u8_of w2_0
  have g2_1 := hel2 1 (by omega)
  rw [show Try.prog.cellsOf 5 = 1 by kernel_rfl, List.getElem?_eq_getElem (by omega)] at g2_1
  obtain ⟨a2_1, ea2_1, _, w2_1⟩ := DataW.trod_int Try.underlying5 g2_1
  obtain rfl : e2_1 = .int .u8 a2_1 := List.head_eq_of_cons_eq (show [e2_1] = [Value.int .u8 a2_1] from ea2_1)
  obtain ⟨x2_1, rfl, b2_1⟩ := u8_of w2_1
  have g2_2 := hel2 2 (by omega)
  rw [show Try.prog.cellsOf 5 = 1 by kernel_rfl, List.getElem?_eq_getElem (by omega)] at g2_2
  obtain ⟨a2_2, ea2_2, _, w2_2⟩ := DataW.trod_int Try.underlying5 g2_2
  obtain rfl : e2_2 = .int .u8 a2_2 := List.head_eq_of_cons_eq (show [e2_2] = [Value.int .u8 a2_2] from ea2_2)
  obtain ⟨x2_2, rfl, b2_2⟩ := u8_of w2_2
  have g2_3 := hel2 3 (by omega)
  rw [show Try.prog.cellsOf 5 = 1 by kernel_rfl, List.getElem?_eq_getElem (by omega)] at g2_3
  obtain ⟨a2_3, ea2_3, _, w2_3⟩ := DataW.trod_int Try.underlying5 g2_3
  obtain rfl : e2_3 = .int .u8 a2_3 := List.head_eq_of_cons_eq (show [e2_3] = [Value.int .u8 a2_3] from ea2_3)
  obtain ⟨x2_3, rfl, b2_3⟩ := u8_of w2_3
  clear hA0 hval0
  refine (back_calls x0 x1 x2_0 x2_1 x2_2 x2_3 W b1 b2_0 b2_1 b2_2 b2_3).mono fun e W' ⟨he, bel⟩ => ?_
  subst he
  exact ⟨_, rfl, _, _, _, [], _, [], hW', trodAll_mk1 (shut_bool Try.underlying4 _), (trodAll_cons_mk (Below.trod laidOut (by kernel_rfl) (of_decide_eq_true (by kernel_rfl)) k'0 bel lt0) (trodAll_cons_mk (shut_int Try.underlying36 z1) (trodAll_cons_mk (Below.trod laidOut (by kernel_rfl) (of_decide_eq_true (by kernel_rfl)) k'2 bel lt2) trodAll_mk0))), rfl, bel.frame _, fun h => by cases h⟩

theorem entryBack_holds : Rows.EntryBackSaid :=
  OpenClaim.holds_of_wide 5 Try.f5 rfl rfl rfl rfl rfl rfl rfl ⟨rfl, rfl, rfl, rfl, rfl⟩ rfl rfl rfl rfl rfl (by kernel_rfl) Try.func5 (by kernel_rfl)
    (of_decide_eq_true (by kernel_rfl)) (by unfold Func.isWrapper; first | (rw [if_pos (by decide +kernel)]; kernel_rfl) | (rw [if_neg (by decide +kernel)]; exact ⟨rfl, rfl⟩))
    (fun os started H enc _ => entryBack_lifted os started H enc)
#print axioms entryBack_holds
end Go.Proofs.Ytompckbcaccmiaa
