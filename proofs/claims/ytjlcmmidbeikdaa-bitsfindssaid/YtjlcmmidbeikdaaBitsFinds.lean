/- BitsFinds: for every text and two numbers: a run that is found is free, and no earlier one of as many is, what is found in pieces are the first free pages, and there is no run where there is none in pieces; the law is true; the statement, from its walk. -/
import Derived.Test.YtjlcmmidbeikdaaRows
import Derived.Test.YtjlcmmidbeikdaaFinds
import Derived.Test.YtjlcmmidbeikdaaOpen
import Derived.WalkKit
import Derived.ProofKit
import Derived.OpenShut
import Derived.ShutString
import Derived.ChangeOld
import Derived.Below
import Derived.SizedLaws
namespace Go.Proofs.Ytjlcmmidbeikdaa
open Go.ChangeShapes Go.WideShapes Go.ChangeAt Go.RowKit
open Go.ChangeMaps (open_string shut_string)

set_option maxHeartbeats 1000000 in
set_option maxRecDepth 100000 in
theorem bitsFinds_lifted (os : Os) (started : os.Started) (H : Type) (enc : TypeId × Value → H) :
    ReturnsInHanded {} Try.checked os 5 .any (Rows.bitsFindsSpec.pre6 enc Try.prog Try.f5 Rows.bitsFindsRow.domain false) (Rows.bitsFindsSpec.post enc Try.prog Try.f5 false true false false) := by
  refine returnsInHanded_of_change_sized (C := Try.checked) own started (by kernel_rfl) Try.func5
    (ChangeSpec.witness6 (enc := enc) (C := Try.checked) false ⟨#[], #[.string ByteArray.empty, .agg #[.int .u16 0, .int .u16 0]], []⟩ 8 (by kernel_rfl) (by kernel_rfl) (by kernel_rfl) (by kernel_rfl)) ?_
  intro W base args ds gs before hval0 hW hcnd hsz0 _
  have hsz : (DataW.weightsEach Try.prog (Try.f5.params.toList ++ Rows.bitsFindsSpec.plain.varTypes Try.prog) (ds ++ gs)).all (· ≤ reachBytes) = true := hsz0
  clear hsz0
  have hval : ∀ (j : Nat) t v, Try.f5.params[j]? = some t → args[j]? = some v → Value.okWide Try.prog W .any base t v := hval0
  have hW' := hW
  obtain ⟨p, q, hA0, hV, rfl, hfz, hnd⟩ := hW
  have hA : DataW.TrodAll enc Try.prog W 0 (fun _ => true) true Try.f5.params.toList args.toList ds p := hA0
  rw [Try.params5] at hA hval hsz
  obtain ⟨v0, vs0, d0, ds0, p0, q0, hargs, rfl, rfl, h0, r'0⟩ := trodAll_cons hA
  obtain ⟨v1, vs1, d1, ds1, p1, q1, rfl, rfl, rfl, h1, r'1⟩ := trodAll_cons r'0
  obtain ⟨rfl, rfl, rfl⟩ := trodAll_nil r'1
  obtain rfl : args = #[v0, v1] := by cases args; simp_all
  obtain ⟨rfl, rfl⟩ := trodVars_none hV
  obtain ⟨x0, rfl, rfl, rfl, z0⟩ := open_string Try.underlying9 (hval 0 9 v0 rfl rfl) h0
  have k'1 := h1
  have lt1 : ∀ x ∈ p1, x.block < W.heap.size := by obtain ⟨m, hm⟩ := k'1; exact DataW.trod_lt m _ _ _ hm
  obtain ⟨cs1, rfl, hsz1, _⟩ : ∃ cs, v1 = .agg cs ∧ cs.size = Try.prog.cellsOf 41 ∧ Row.okWide Try.prog W .any base 41 cs := by
    have := hval 1 41 v1 rfl rfl
    simpa [Value.okWide, Try.underlying41] using this
  rw [show Try.prog.cellsOf 41 = 2 by kernel_rfl] at hsz1
  obtain ⟨l1⟩ := cs1
  obtain ⟨e1_0, e1_1, rfl⟩ := list2 l1 hsz1
  obtain ⟨fuel1, hf1⟩ := h1
  obtain ⟨xs1, m1, _, _, _, hxl1, hel1⟩ := DataW.trod_array Try.underlying41 hf1
  have g1_0 := hel1 0 (by omega)
  rw [show Try.prog.cellsOf 38 = 1 by kernel_rfl, List.getElem?_eq_getElem (by omega)] at g1_0
  obtain ⟨a1_0, ea1_0, _, w1_0⟩ := DataW.trod_int Try.underlying38 g1_0
  obtain rfl : e1_0 = .int .u16 a1_0 := List.head_eq_of_cons_eq (show [e1_0] = [Value.int .u16 a1_0] from ea1_0)
  obtain ⟨x1_0, rfl, b1_0⟩ := u16_of w1_0
  have g1_1 := hel1 1 (by omega)
  rw [show Try.prog.cellsOf 38 = 1 by kernel_rfl, List.getElem?_eq_getElem (by omega)] at g1_1
  obtain ⟨a1_1, ea1_1, _, w1_1⟩ := DataW.trod_int Try.underlying38 g1_1
  obtain rfl : e1_1 = .int .u16 a1_1 := List.head_eq_of_cons_eq (show [e1_1] = [Value.int .u16 a1_1] from ea1_1)
  obtain ⟨x1_1, rfl, b1_1⟩ := u16_of w1_1
  clear hA0 hval0
  refine (finds_calls x0 x1_0 x1_1 W b1_0 b1_1).mono fun e W' ⟨he, bel⟩ => ?_
  subst he
  exact ⟨_, rfl, _, _, _, [], _, [], hW', trodAll_mk1 (shut_bool Try.underlying4 _), (trodAll_cons_mk (shut_string Try.underlying9 z0) (trodAll_cons_mk (Below.trod laidOut (by kernel_rfl) (of_decide_eq_true (by kernel_rfl)) k'1 bel lt1) trodAll_mk0)), rfl, bel.frame _, fun h => by cases h⟩

theorem bitsFinds_holds : Rows.BitsFindsSaid :=
  OpenClaim.holds_of_wide 5 Try.f5 rfl rfl rfl rfl rfl rfl rfl ⟨rfl, rfl, rfl, rfl, rfl⟩ rfl rfl rfl rfl rfl (by kernel_rfl) Try.func5 (by kernel_rfl)
    (of_decide_eq_true (by kernel_rfl)) (by unfold Func.isWrapper; first | (rw [if_pos (by decide +kernel)]; kernel_rfl) | (rw [if_neg (by decide +kernel)]; exact ⟨rfl, rfl⟩))
    (fun os started H enc _ => bitsFinds_lifted os started H enc)
#print axioms bitsFinds_holds
end Go.Proofs.Ytjlcmmidbeikdaa
