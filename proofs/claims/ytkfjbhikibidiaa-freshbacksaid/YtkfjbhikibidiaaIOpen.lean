/- Items that came in, opened. No statement is proved here. -/
import Derived.Test.YtkfjbhikibidiaaIBase
import Derived.ProofKit
import Derived.OpenShut
import Derived.ShutString
import Derived.ChangeOld
import Derived.Below
import Derived.SizedLaws
import Derived.Lib.SmallJoins
namespace Go.Proofs.Ytkfjbhikibidiaa.Itm
open Go.ChangeShapes Go.WideShapes Go.Deep Go.RowKit

theorem own : ownKnob Try.prog.godebug = none := by kernel_rfl
theorem laidOut : laidOutB Try.prog = true := by kernel_rfl

/-- Its texts lie within the reach. -/
def Sz (x : It) : Prop := x.key.length ≤ 1000000000000000 ∧ x.mt.length ≤ 1000000000000000 ∧ x.tag.length ≤ 1000000000000000 ∧ x.body.length ≤ 1000000000000000

def itD {H : Type} (x : It) : DataW H := .agg [.lit (.string x.key), .lit (.int .i64 x.seq), .lit (.int .i64 x.ver), .lit (.bool x.mark), .lit (.string x.mt), .lit (.string x.tag), .lit (.string x.body)]

section
variable {H : Type} {enc : TypeId × Value → H} {W : World}

set_option maxRecDepth 100000 in
/-- One item, by its seven cells. -/
theorem it_of {n : Nat} {cs : List Value} {x : DataW H × List MemPlace} (h : DataW.trod enc Try.prog W 0 (fun _ => true) true n 23 cs = some x) :
    ∃ a : It, cs = itC a ∧ x.1 = itD a := by
  obtain ⟨xs, m, _, rfl, hl, hlen, hf⟩ := DataW.trod_struct Try.underlying23 h
  have hc : Try.prog.cellsOf 23 = 7 := by kernel_rfl
  have c3 : Try.prog.cellsOf 3 = 1 := by kernel_rfl
  have c4 : Try.prog.cellsOf 4 = 1 := by kernel_rfl
  have c9 : Try.prog.cellsOf 9 = 1 := by kernel_rfl
  rw [hc] at hl
  obtain ⟨v0, v1, v2, v3, v4, v5, v6, rfl⟩ : ∃ v0 v1 v2 v3 v4 v5 v6, cs = [v0, v1, v2, v3, v4, v5, v6] := by
    match cs, hl with
    | [v0, v1, v2, v3, v4, v5, v6], _ => exact ⟨v0, v1, v2, v3, v4, v5, v6, rfl⟩
  match xs, hlen with
  | [y0, y1, y2, y3, y4, y5, y6], _ =>
    have h0 : DataW.trod enc Try.prog W 0 (fun _ => true) true m 9 (([v0, v1, v2, v3, v4, v5, v6].drop 0).take (Try.prog.cellsOf 9)) = some y0 := hf 0 _ rfl
    have h1 : DataW.trod enc Try.prog W 0 (fun _ => true) true m 3 (([v0, v1, v2, v3, v4, v5, v6].drop 1).take (Try.prog.cellsOf 3)) = some y1 := hf 1 _ rfl
    have h2 : DataW.trod enc Try.prog W 0 (fun _ => true) true m 3 (([v0, v1, v2, v3, v4, v5, v6].drop 2).take (Try.prog.cellsOf 3)) = some y2 := hf 2 _ rfl
    have h3 : DataW.trod enc Try.prog W 0 (fun _ => true) true m 4 (([v0, v1, v2, v3, v4, v5, v6].drop 3).take (Try.prog.cellsOf 4)) = some y3 := hf 3 _ rfl
    have h4 : DataW.trod enc Try.prog W 0 (fun _ => true) true m 9 (([v0, v1, v2, v3, v4, v5, v6].drop 4).take (Try.prog.cellsOf 9)) = some y4 := hf 4 _ rfl
    have h5 : DataW.trod enc Try.prog W 0 (fun _ => true) true m 9 (([v0, v1, v2, v3, v4, v5, v6].drop 5).take (Try.prog.cellsOf 9)) = some y5 := hf 5 _ rfl
    have h6 : DataW.trod enc Try.prog W 0 (fun _ => true) true m 9 (([v0, v1, v2, v3, v4, v5, v6].drop 6).take (Try.prog.cellsOf 9)) = some y6 := hf 6 _ rfl
    simp only [c3, c4, c9] at h0 h1 h2 h3 h4 h5 h6
    obtain ⟨s0, e0, f0, _⟩ := DataW.trod_string Try.underlying9 h0
    obtain ⟨s1, e1, f1, _⟩ := DataW.trod_int Try.underlying3 h1
    obtain ⟨s2, e2, f2, _⟩ := DataW.trod_int Try.underlying3 h2
    obtain ⟨s3, e3, f3⟩ := DataW.trod_bool Try.underlying4 h3
    obtain ⟨s4, e4, f4, _⟩ := DataW.trod_string Try.underlying9 h4
    obtain ⟨s5, e5, f5, _⟩ := DataW.trod_string Try.underlying9 h5
    obtain ⟨s6, e6, f6, _⟩ := DataW.trod_string Try.underlying9 h6
    simp at e0 e1 e2 e3 e4 e5 e6
    subst e0 e1 e2 e3 e4 e5 e6
    refine ⟨⟨s0.data.toList, s1, s2, s3, s4.data.toList, s5.data.toList, s6.data.toList⟩, ?_, ?_⟩
    · simp only [itC, strB_of]
    · simp [itD, f0, f1, f2, f3, f4, f5, f6]

theorem sz_of {a : It} (hR : ∀ n ∈ (itD a : DataW H).weights Try.prog 23, n ≤ reachBytes) : Sz a := by
  have hr : reachBytes ≤ 1000000000000000 := by decide
  have hw : (itD a : DataW H).weights Try.prog 23 = [a.key.length, a.mt.length, a.tag.length, a.body.length] := by
    simp [itD, DataW.weights, Try.underlying23, DataW.weightsEach]
  rw [hw] at hR
  exact ⟨Nat.le_trans (hR _ (by simp)) hr, Nat.le_trans (hR _ (by simp)) hr, Nat.le_trans (hR _ (by simp)) hr, Nat.le_trans (hR _ (by simp)) hr⟩

theorem weightsAll_mem {P : Program} {e : TypeId} : ∀ {l : List (DataW H)} {d : DataW H}, d ∈ l → ∀ n ∈ d.weights P e, n ∈ DataW.weightsAll P e l
  | x :: l, d, hd, n, hn => by
    simp only [DataW.weightsAll, List.mem_append]
    rcases List.mem_cons.1 hd with rfl | h
    · exact Or.inl hn
    · exact Or.inr (weightsAll_mem h n hn)

set_option maxRecDepth 100000 in
/-- An item that came in by value. -/
theorem itv_of {base : Nat} {v : Value} {d : DataW H} {p : List MemPlace} (hv : Value.okWide Try.prog W .any base 23 v) (h : ∃ fuel, DataW.trod enc Try.prog W 0 (fun _ => true) true fuel 23 (Value.cells v).toList = some (d, p))
    (hR : ∀ n ∈ d.weights Try.prog 23, n ≤ reachBytes) : ∃ x, v = itV x ∧ Sz x := by
  obtain ⟨cs, rfl, _, _⟩ : ∃ cs, v = .agg cs ∧ cs.size = Try.prog.cellsOf 23 ∧ Row.okWide Try.prog W .any base 23 cs := by
    simpa [Value.okWide, Try.underlying23] using hv
  obtain ⟨fuel, hf⟩ := h
  obtain ⟨x, hx, hd⟩ := it_of hf
  refine ⟨x, ?_, sz_of (H := H) fun n hn => hR n ?_⟩
  · have : cs.toList = itC x := hx
    obtain ⟨l⟩ := cs
    have e : l = itC x := this
    rw [e]
    rfl
  · rw [show d = itD x from hd]
    exact hn
end

end Go.Proofs.Ytkfjbhikibidiaa.Itm
