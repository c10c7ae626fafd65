/- ChainStays: a text that is put again begins where it did, in the pages that it had, as far as it needs them, whatever the pages and the sizes; the statement, from its walk. -/
import Derived.Test.YtgeiemccjionpaaGreatRows
import Derived.Test.YtgeiemccjionpaaGreatMg47
import Derived.Test.YtgeiemccjionpaaGreatMg42
import Derived.Test.YtgeiemccjionpaaGreatMg43
import Derived.Test.YtgeiemccjionpaaGreatMg46
import Derived.WalkKit
import Derived.ProofKit
import Derived.OpenShut
import Derived.ShutString
import Derived.ChangeOld
import Derived.Below
import Derived.SizedLaws
namespace Go.Proofs.YtgeiemccjionpaaGreat
open Go.ChangeShapes Go.WideShapes Go.ChangeAt Go.RowKit
open Go.ChangeMaps (open_string shut_string)
open Chn Dsk Vlt

set_option maxHeartbeats 1000000 in
set_option maxRecDepth 100000 in
theorem chainStays_lifted (os : Os) (started : os.Started) (H : Type) (enc : TypeId × Value → H) :
    ReturnsInHanded {} Tryz.checked os 7 .any (Rows.chainStaysSpec.pre6 enc Tryz.prog Tryz.f7 Rows.chainStaysRow.domain false) (Rows.chainStaysSpec.post enc Tryz.prog Tryz.f7 false true false false) := by
  refine returnsInHanded_of_change_sized (C := Tryz.checked) own started (by kernel_rfl) Tryz.func7
    (ChangeSpec.witness6 (enc := enc) (C := Tryz.checked) false ⟨#[], #[.int .u8 0, .agg #[.int .u16 0, .int .u16 0]], []⟩ 8 (by kernel_rfl) (by kernel_rfl) (by kernel_rfl) (by kernel_rfl)) ?_
  intro W base args ds gs before hval0 hW hcnd hsz0 _
  have hsz : (DataW.weightsEach Tryz.prog (Tryz.f7.params.toList ++ Rows.chainStaysSpec.plain.varTypes Tryz.prog) (ds ++ gs)).all (· ≤ reachBytes) = true := hsz0
  clear hsz0
  have hval : ∀ (j : Nat) t v, Tryz.f7.params[j]? = some t → args[j]? = some v → Value.okWide Tryz.prog W .any base t v := hval0
  have hW' := hW
  obtain ⟨p, q, hA0, hV, rfl, hfz, hnd⟩ := hW
  have hA : DataW.TrodAll enc Tryz.prog W 0 (fun _ => true) true Tryz.f7.params.toList args.toList ds p := hA0
  rw [Tryz.params7] at hA hval hsz
  obtain ⟨v0, vs0, d0, ds0, p0, q0, hargs, rfl, rfl, h0, r'0⟩ := trodAll_cons hA
  obtain ⟨v1, vs1, d1, ds1, p1, q1, rfl, rfl, rfl, h1, r'1⟩ := trodAll_cons r'0
  obtain ⟨rfl, rfl, rfl⟩ := trodAll_nil r'1
  obtain rfl : args = #[v0, v1] := by cases args; simp_all
  obtain ⟨rfl, rfl⟩ := trodVars_none hV
  obtain ⟨a0, rfl, rfl, rfl, z0⟩ := open_int Tryz.underlying5 (hval 0 5 v0 rfl rfl) h0
  obtain ⟨x0, rfl, b0⟩ := u8_of z0
  have k'1 := h1
  have lt1 : ∀ x ∈ p1, x.block < W.heap.size := by obtain ⟨m, hm⟩ := k'1; exact DataW.trod_lt m _ _ _ hm
  obtain ⟨cs1, rfl, hsz1, _⟩ : ∃ cs, v1 = .agg cs ∧ cs.size = Tryz.prog.cellsOf 61 ∧ Row.okWide Tryz.prog W .any base 61 cs := by
    have := hval 1 61 v1 rfl rfl
    simpa [Value.okWide, Tryz.underlying61] using this
  rw [show Tryz.prog.cellsOf 61 = 2 by kernel_rfl] at hsz1
  obtain ⟨l1⟩ := cs1
  obtain ⟨e1_0, e1_1, rfl⟩ := list2 l1 hsz1
  obtain ⟨fuel1, hf1⟩ := h1
  obtain ⟨xs1, m1, _, _, _, hxl1, hel1⟩ := DataW.trod_array Tryz.underlying61 hf1
  have g1_0 := hel1 0 (by omega)
  rw [show Tryz.prog.cellsOf 37 = 1 by kernel_rfl, List.getElem?_eq_getElem (by omega)] at g1_0
  obtain ⟨a1_0, ea1_0, _, w1_0⟩ := DataW.trod_int Tryz.underlying37 g1_0
  obtain rfl : e1_0 = .int .u16 a1_0 := List.head_eq_of_cons_eq (show [e1_0] = [Value.int .u16 a1_0] from ea1_0)
  obtain ⟨x1_0, rfl, b1_0⟩ := u16_of w1_0
  have g1_1 := hel1 1 (by omega)
  rw [show Tryz.prog.cellsOf 37 = 1 by kernel_rfl, List.getElem?_eq_getElem (by omega)] at g1_1
  obtain ⟨a1_1, ea1_1, _, w1_1⟩ := DataW.trod_int Tryz.underlying37 g1_1
  obtain rfl : e1_1 = .int .u16 a1_1 := List.head_eq_of_cons_eq (show [e1_1] = [Value.int .u16 a1_1] from ea1_1)
  obtain ⟨x1_1, rfl, b1_1⟩ := u16_of w1_1
  clear hA0 hval0
  refine (stays_calls (x0 : Int) (x1_0 : Int) (x1_1 : Int) W awake_true (by omega) (by omega) (by omega)).mono fun e W' ⟨he, bel⟩ => ?_
  subst he
  exact ⟨_, rfl, _, _, _, [], _, [], hW', trodAll_mk1 (shut_bool Tryz.underlying4 _), (trodAll_cons_mk (shut_int Tryz.underlying5 z0) (trodAll_cons_mk (Below.trod laidOut (by kernel_rfl) (of_decide_eq_true (by kernel_rfl)) k'1 bel lt1) trodAll_mk0)), rfl, bel.frame _, fun h => by cases h⟩

theorem chainStays_holds : Rows.ChainStaysSaid :=
  OpenClaim.holds_of_wide 7 Tryz.f7 rfl rfl rfl rfl rfl rfl rfl ⟨rfl, rfl, rfl, rfl, rfl⟩ rfl rfl rfl rfl rfl (by kernel_rfl) Tryz.func7 (by kernel_rfl)
    (of_decide_eq_true (by kernel_rfl)) (by unfold Func.isWrapper; first | (rw [if_pos (by decide +kernel)]; kernel_rfl) | (rw [if_neg (by decide +kernel)]; exact ⟨rfl, rfl⟩))
    (fun os started H enc _ => chainStays_lifted os started H enc)
#print axioms chainStays_holds
end Go.Proofs.YtgeiemccjionpaaGreat
