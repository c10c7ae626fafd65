/- BitsTells: for every text, three numbers and runs: whether a page is taken, how many are free, which run, and which ones, are free first, where the catalog begins, and the bytes with other marks, or another catalog, are the document's; the law is true; the statement, from its walk. -/
import Derived.Test.YtjlcmmidbeikdaaRows
import Derived.Test.YtjlcmmidbeikdaaTold
import Derived.Test.YtjlcmmidbeikdaaOpen
import Derived.WalkKit
import Derived.ProofKit
import Derived.OpenShut
import Derived.ShutString
import Derived.ChangeOld
import Derived.Below
import Derived.SizedLaws
namespace Go.Proofs.Ytjlcmmidbeikdaa
open Go.ChangeShapes Go.WideShapes Go.ChangeAt Go.RowKit
open Go.ChangeMaps (open_string shut_string)

set_option maxHeartbeats 1000000 in
set_option maxRecDepth 100000 in
theorem bitsTells_lifted (os : Os) (started : os.Started) (H : Type) (enc : TypeId × Value → H) :
    ReturnsInHanded {} Try.checked os 3 .any (Rows.bitsTellsSpec.pre6 enc Try.prog Try.f3 Rows.bitsTellsRow.domain false) (Rows.bitsTellsSpec.post enc Try.prog Try.f3 false true false false) := by
  refine returnsInHanded_of_change_sized (C := Try.checked) own started (by kernel_rfl) Try.func3
    (ChangeSpec.witness6 (enc := enc) (C := Try.checked) false ⟨#[], #[.string ByteArray.empty, .agg #[.int .i64 0, .int .i64 0, .int .i64 0], .slice none 0 0], []⟩ 8 (by kernel_rfl) (by kernel_rfl) (by kernel_rfl) (by kernel_rfl)) ?_
  intro W base args ds gs before hval0 hW hcnd hsz0 _
  have hsz : (DataW.weightsEach Try.prog (Try.f3.params.toList ++ Rows.bitsTellsSpec.plain.varTypes Try.prog) (ds ++ gs)).all (· ≤ reachBytes) = true := hsz0
  clear hsz0
  have hval : ∀ (j : Nat) t v, Try.f3.params[j]? = some t → args[j]? = some v → Value.okWide Try.prog W .any base t v := hval0
  have hW' := hW
  obtain ⟨p, q, hA0, hV, rfl, hfz, hnd⟩ := hW
  have hA : DataW.TrodAll enc Try.prog W 0 (fun _ => true) true Try.f3.params.toList args.toList ds p := hA0
  rw [Try.params3] at hA hval hsz
  obtain ⟨v0, vs0, d0, ds0, p0, q0, hargs, rfl, rfl, h0, r'0⟩ := trodAll_cons hA
  obtain ⟨v1, vs1, d1, ds1, p1, q1, rfl, rfl, rfl, h1, r'1⟩ := trodAll_cons r'0
  obtain ⟨v2, vs2, d2, ds2, p2, q2, rfl, rfl, rfl, h2, r'2⟩ := trodAll_cons r'1
  obtain ⟨rfl, rfl, rfl⟩ := trodAll_nil r'2
  obtain rfl : args = #[v0, v1, v2] := by cases args; simp_all
  obtain ⟨rfl, rfl⟩ := trodVars_none hV
  obtain ⟨x0, rfl, rfl, rfl, z0⟩ := open_string Try.underlying9 (hval 0 9 v0 rfl rfl) h0
  have k'1 := h1
  have lt1 : ∀ x ∈ p1, x.block < W.heap.size := by obtain ⟨m, hm⟩ := k'1; exact DataW.trod_lt m _ _ _ hm
  obtain ⟨cs1, rfl, hsz1, _⟩ : ∃ cs, v1 = .agg cs ∧ cs.size = Try.prog.cellsOf 22 ∧ Row.okWide Try.prog W .any base 22 cs := by
    have := hval 1 22 v1 rfl rfl
    simpa [Value.okWide, Try.underlying22] using this
  rw [show Try.prog.cellsOf 22 = 3 by kernel_rfl] at hsz1
  obtain ⟨l1⟩ := cs1
  obtain ⟨e1_0, e1_1, e1_2, rfl⟩ := list3 l1 hsz1
  obtain ⟨fuel1, hf1⟩ := h1
  obtain ⟨xs1, m1, _, _, _, hxl1, hel1⟩ := DataW.trod_array Try.underlying22 hf1
  have g1_0 := hel1 0 (by omega)
  rw [show Try.prog.cellsOf 3 = 1 by kernel_rfl, List.getElem?_eq_getElem (by omega)] at g1_0
  obtain ⟨a1_0, ea1_0, _, w1_0⟩ := DataW.trod_int Try.underlying3 g1_0
  obtain rfl : e1_0 = .int .i64 a1_0 := List.head_eq_of_cons_eq (show [e1_0] = [Value.int .i64 a1_0] from ea1_0)
  obtain ⟨b1_0, c1_0⟩ := i64_of w1_0
  have g1_1 := hel1 1 (by omega)
  rw [show Try.prog.cellsOf 3 = 1 by kernel_rfl, List.getElem?_eq_getElem (by omega)] at g1_1
  obtain ⟨a1_1, ea1_1, _, w1_1⟩ := DataW.trod_int Try.underlying3 g1_1
  obtain rfl : e1_1 = .int .i64 a1_1 := List.head_eq_of_cons_eq (show [e1_1] = [Value.int .i64 a1_1] from ea1_1)
  obtain ⟨b1_1, c1_1⟩ := i64_of w1_1
  have g1_2 := hel1 2 (by omega)
  rw [show Try.prog.cellsOf 3 = 1 by kernel_rfl, List.getElem?_eq_getElem (by omega)] at g1_2
  obtain ⟨a1_2, ea1_2, _, w1_2⟩ := DataW.trod_int Try.underlying3 g1_2
  obtain rfl : e1_2 = .int .i64 a1_2 := List.head_eq_of_cons_eq (show [e1_2] = [Value.int .i64 a1_2] from ea1_2)
  obtain ⟨b1_2, c1_2⟩ := i64_of w1_2
  have k'2 := h2
  have lt2 : ∀ x ∈ p2, x.block < W.heap.size := by obtain ⟨m, hm⟩ := k'2; exact DataW.trod_lt m _ _ _ hm
  obtain ⟨A2, len2, cap2, rfl⟩ := okWide_slice Try.underlying23 (hval 2 23 v2 rfl rfl)
  obtain ⟨l2, s2⟩ : ∃ l, Sps W (.slice A2 len2 cap2) l := by
    obtain ⟨fuel, hf⟩ := h2
    exact sps_of hf
  clear hA0 hval0
  refine (tells_calls x0 a1_0 a1_1 a1_2 l2 A2 len2 cap2 W s2).mono fun e W' ⟨he, bel⟩ => ?_
  subst he
  exact ⟨_, rfl, _, _, _, [], _, [], hW', trodAll_mk1 (shut_bool Try.underlying4 _), (trodAll_cons_mk (shut_string Try.underlying9 z0) (trodAll_cons_mk (Below.trod laidOut (by kernel_rfl) (of_decide_eq_true (by kernel_rfl)) k'1 bel lt1) (trodAll_cons_mk (Below.trod laidOut (by kernel_rfl) (of_decide_eq_true (by kernel_rfl)) k'2 bel lt2) trodAll_mk0))), rfl, bel.frame _, fun h => by cases h⟩

theorem bitsTells_holds : Rows.BitsTellsSaid :=
  OpenClaim.holds_of_wide 3 Try.f3 rfl rfl rfl rfl rfl rfl rfl ⟨rfl, rfl, rfl, rfl, rfl⟩ rfl rfl rfl rfl rfl (by kernel_rfl) Try.func3 (by kernel_rfl)
    (of_decide_eq_true (by kernel_rfl)) (by unfold Func.isWrapper; first | (rw [if_pos (by decide +kernel)]; kernel_rfl) | (rw [if_neg (by decide +kernel)]; exact ⟨rfl, rfl⟩))
    (fun os started H enc _ => bitsTells_lifted os started H enc)
#print axioms bitsTells_holds
end Go.Proofs.Ytjlcmmidbeikdaa
