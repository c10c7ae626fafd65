/- AnchorPlaces: a shape is parsed as it was, one other byte in its sector is told; the journal and pages have sectors of their own, all below the size of the disk; the statement, from its walk. -/
import Derived.Test.YtibgimlfhpjeeaaRows
import Derived.Test.YtibgimlfhpjeeaaAPlaces
import Derived.Test.YtibgimlfhpjeeaaOpen
import Derived.WalkKit
import Derived.ProofKit
import Derived.OpenShut
import Derived.ShutString
import Derived.ChangeOld
import Derived.Below
import Derived.SizedLaws
namespace Go.Proofs.Ytibgimlfhpjeeaa
open Go.ChangeShapes Go.WideShapes Go.ChangeAt Go.RowKit
open Go.ChangeMaps (open_string shut_string)

set_option maxHeartbeats 1000000 in
set_option maxRecDepth 100000 in
theorem anchorPlaces_lifted (os : Os) (started : os.Started) (H : Type) (enc : TypeId × Value → H) :
    ReturnsInHanded {} Try.checked os 4 .any (Rows.anchorPlacesSpec.pre6 enc Try.prog Try.f4 Rows.anchorPlacesRow.domain false) (Rows.anchorPlacesSpec.post enc Try.prog Try.f4 false true false false) := by
  refine returnsInHanded_of_change_sized (C := Try.checked) own started (by kernel_rfl) Try.func4
    (ChangeSpec.witness6 (enc := enc) (C := Try.checked) false ⟨#[], #[.agg #[.int .i64 0, .int .i64 0], .agg #[.int .u16 0, .int .u16 0], .int .u16 0], []⟩ 8 (by kernel_rfl) (by kernel_rfl) (by kernel_rfl) (by kernel_rfl)) ?_
  intro W base args ds gs before hval0 hW hcnd hsz0 _
  have hsz : (DataW.weightsEach Try.prog (Try.f4.params.toList ++ Rows.anchorPlacesSpec.plain.varTypes Try.prog) (ds ++ gs)).all (· ≤ reachBytes) = true := hsz0
  clear hsz0
  have hval : ∀ (j : Nat) t v, Try.f4.params[j]? = some t → args[j]? = some v → Value.okWide Try.prog W .any base t v := hval0
  have hW' := hW
  obtain ⟨p, q, hA0, hV, rfl, hfz, hnd⟩ := hW
  have hA : DataW.TrodAll enc Try.prog W 0 (fun _ => true) true Try.f4.params.toList args.toList ds p := hA0
  rw [Try.params4] at hA hval hsz
  obtain ⟨v0, vs0, d0, ds0, p0, q0, hargs, rfl, rfl, h0, r'0⟩ := trodAll_cons hA
  obtain ⟨v1, vs1, d1, ds1, p1, q1, rfl, rfl, rfl, h1, r'1⟩ := trodAll_cons r'0
  obtain ⟨v2, vs2, d2, ds2, p2, q2, rfl, rfl, rfl, h2, r'2⟩ := trodAll_cons r'1
  obtain ⟨rfl, rfl, rfl⟩ := trodAll_nil r'2
  obtain rfl : args = #[v0, v1, v2] := by cases args; simp_all
  obtain ⟨rfl, rfl⟩ := trodVars_none hV
  have k'0 := h0
  have lt0 : ∀ x ∈ p0, x.block < W.heap.size := by obtain ⟨m, hm⟩ := k'0; exact DataW.trod_lt m _ _ _ hm
  obtain ⟨x0, rfl⟩ := sh_of (hval 0 23 v0 rfl rfl) h0
  have k'1 := h1
  have lt1 : ∀ x ∈ p1, x.block < W.heap.size := by obtain ⟨m, hm⟩ := k'1; exact DataW.trod_lt m _ _ _ hm
  obtain ⟨cs1, rfl, hsz1, _⟩ : ∃ cs, v1 = .agg cs ∧ cs.size = Try.prog.cellsOf 34 ∧ Row.okWide Try.prog W .any base 34 cs := by
    have := hval 1 34 v1 rfl rfl
    simpa [Value.okWide, Try.underlying34] using this
  rw [show Try.prog.cellsOf 34 = 2 by kernel_rfl] at hsz1
  obtain ⟨l1⟩ := cs1
  obtain ⟨e1_0, e1_1, rfl⟩ := list2 l1 hsz1
  obtain ⟨fuel1, hf1⟩ := h1
  obtain ⟨xs1, m1, _, _, _, hxl1, hel1⟩ := DataW.trod_array Try.underlying34 hf1
  have g1_0 := hel1 0 (by omega)
  rw [show Try.prog.cellsOf 33 = 1 by kernel_rfl, List.getElem?_eq_getElem (by omega)] at g1_0
  obtain ⟨a1_0, ea1_0, _, w1_0⟩ := DataW.trod_int Try.underlying33 g1_0
  obtain rfl : e1_0 = .int .u16 a1_0 := List.head_eq_of_cons_eq (show [e1_0] = [Value.int .u16 a1_0] from ea1_0)
  obtain ⟨x1_0, rfl, b1_0⟩ := u16_of w1_0
  have g1_1 := hel1 1 (by omega)
  rw [show Try.prog.cellsOf 33 = 1 by kernel_rfl, List.getElem?_eq_getElem (by omega)] at g1_1
  obtain ⟨a1_1, ea1_1, _, w1_1⟩ := DataW.trod_int Try.underlying33 g1_1
  obtain rfl : e1_1 = .int .u16 a1_1 := List.head_eq_of_cons_eq (show [e1_1] = [Value.int .u16 a1_1] from ea1_1)
  obtain ⟨x1_1, rfl, b1_1⟩ := u16_of w1_1
  obtain ⟨a2, rfl, rfl, rfl, z2⟩ := open_int Try.underlying33 (hval 2 33 v2 rfl rfl) h2
  obtain ⟨x2, rfl, b2⟩ := u16_of z2
  clear hA0 hval0
  refine (places_calls x0 x1_0 x1_1 x2 W b1_0 b1_1 b2).mono fun e W' ⟨he, bel⟩ => ?_
  subst he
  exact ⟨_, rfl, _, _, _, [], _, [], hW', trodAll_mk1 (shut_bool Try.underlying4 _), (trodAll_cons_mk (Below.trod laidOut (by kernel_rfl) (of_decide_eq_true (by kernel_rfl)) k'0 bel lt0) (trodAll_cons_mk (Below.trod laidOut (by kernel_rfl) (of_decide_eq_true (by kernel_rfl)) k'1 bel lt1) (trodAll_cons_mk (shut_int Try.underlying33 z2) trodAll_mk0))), rfl, bel.frame _, fun h => by cases h⟩

theorem anchorPlaces_holds : Rows.AnchorPlacesSaid :=
  OpenClaim.holds_of_wide 4 Try.f4 rfl rfl rfl rfl rfl rfl rfl ⟨rfl, rfl, rfl, rfl, rfl⟩ rfl rfl rfl rfl rfl (by kernel_rfl) Try.func4 (by kernel_rfl)
    (of_decide_eq_true (by kernel_rfl)) (by unfold Func.isWrapper; first | (rw [if_pos (by decide +kernel)]; kernel_rfl) | (rw [if_neg (by decide +kernel)]; exact ⟨rfl, rfl⟩))
    (fun os started H enc _ => anchorPlaces_lifted os started H enc)
#print axioms anchorPlaces_holds
end Go.Proofs.Ytibgimlfhpjeeaa
