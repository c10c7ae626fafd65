/- Contracts and plain mathematics that the statement's proof wants: no statement is proved here, nothing is assumed. -/
import Derived.ProofKit
import Derived.OpenShut
import Derived.Below
import Derived.Deep.Slices
import Derived.Test.YtnbbijpmkhdgpaaGreatMg11
import Derived.Test.YtnbbijpmkhdgpaaGreatMg12
/- LOPlain -/
namespace Go.Proofs.YtnbbijpmkhdgpaaGreat.Vlt
open Go.RowKit Go.Sort
open Dsk

structure OInv (x : Sh) (i : Nat) (d : DK) : Prop where
  pl : Pl (NN x) i d
  up : d.dead = false
  left : d.left = -1
  sure : sureB d 0 = strB (printL x)
  now : nowB d 0 = strB (printL x)

theorem OInv.start {x : Sh} {i : Nat} {d : DK} (h : OInv x i d) (stay : Nat) : Pl (NN x) 0 (stD d stay) ∧ (stD d stay).dead = false ∧ (stD d stay).left = -1 ∧ sureB (stD d stay) 0 = strB (printL x) := by
  obtain ⟨a, b, c, e, f⟩ := start_is h.pl stay
  refine ⟨stD_pl h.pl stay, a, b, ?_⟩
  rcases f 0 with g | g
  · rw [g, h.sure]
  · rw [g, h.now]

theorem OInv.format {x : Sh} (hx : rightS x = true) : OInv x 0 (formatV x).disk := by
  obtain ⟨r, d, l, _⟩ := format_rest hx
  exact ⟨r.pl, r.up, l, r.head, by rw [← r.head]; exact (r.now 0).symm ▸ rfl⟩

theorem OInv.write {x : Sh} {i : Nat} {d : DK} (h : OInv x i d) (k : Nat) (data : ByteArray) : OInv x (i + 1) (wrD d ((k : Int) + 1) data) := by
  obtain ⟨e1, e2⟩ := deed_any h.up h.left
  have hp := wrD_pl h.pl ((k : Int) + 1) data
  refine ⟨hp, ?_, ?_, ?_, ?_⟩ <;> unfold wrD
  all_goals split
  all_goals first
    | exact h.up
    | exact h.left
    | exact h.sure
    | exact h.now
    | (unfold writeD; rw [if_pos e1, e2]; first | exact h.up | exact h.left | exact h.sure | skip)
  · show readF (withF ((k : Int) + 1, padB data) d.wet) d.sure ((0 : Nat) : Int) = _
    have := now_with h.pl.rise (k + 1) (padB data) 0 (zs := d.sure)
    rw [if_neg (by omega)] at this
    rw [show ((k : Int) + 1) = ((k + 1 : Nat) : Int) by omega]
    exact this.trans h.now

end Go.Proofs.YtnbbijpmkhdgpaaGreat.Vlt

/- AOpen -/
namespace Go.Proofs.YtnbbijpmkhdgpaaGreat.Vlt
open Go.ChangeShapes Go.WideShapes Go.Deep Go.RowKit

theorem list2 {α : Type} (l : List α) (h : (⟨l⟩ : Array α).size = 2) : ∃ a b, l = [a, b] := by
  match l, h with
  | [a, b], _ => exact ⟨a, b, rfl⟩
section
variable {H : Type} {enc : TypeId × Value → H} {W : World}

set_option maxRecDepth 100000 in
/-- A shape that came in by value. -/
theorem sh_of {base : Nat} {v : Value} {d : DataW H} {p : List MemPlace} (hv : Value.okWide Tryz.prog W .any base 30 v) (h : ∃ fuel, DataW.trod enc Tryz.prog W 0 (fun _ => true) true fuel 30 (Value.cells v).toList = some (d, p)) :
    ∃ x, v = shV x := by
  obtain ⟨cs, rfl, hsz, _⟩ : ∃ cs, v = .agg cs ∧ cs.size = Tryz.prog.cellsOf 30 ∧ Row.okWide Tryz.prog W .any base 30 cs := by
    simpa [Value.okWide, Tryz.underlying30] using hv
  obtain ⟨fuel, hf⟩ := h
  obtain ⟨l⟩ := cs
  have hf : DataW.trod enc Tryz.prog W 0 (fun _ => true) true fuel 30 l = some (d, p) := hf
  obtain ⟨xs, m, _, hd, hl, hlen, hf⟩ := DataW.trod_struct Tryz.underlying30 hf
  have hc : Tryz.prog.cellsOf 30 = 2 := by kernel_rfl
  have c3 : Tryz.prog.cellsOf 3 = 1 := by kernel_rfl
  rw [hc] at hl
  obtain ⟨v0, v1, rfl⟩ := list2 l hl
  match xs, hlen with
  | [y0, y1], _ =>
    have h0 : DataW.trod enc Tryz.prog W 0 (fun _ => true) true m 3 (([v0, v1].drop 0).take (Tryz.prog.cellsOf 3)) = some y0 := hf 0 _ rfl
    have h1 : DataW.trod enc Tryz.prog W 0 (fun _ => true) true m 3 (([v0, v1].drop 1).take (Tryz.prog.cellsOf 3)) = some y1 := hf 1 _ rfl
    simp only [c3] at h0 h1
    obtain ⟨s0, e0, _⟩ := DataW.trod_int Tryz.underlying3 h0
    obtain ⟨s1, e1, _⟩ := DataW.trod_int Tryz.underlying3 h1
    simp at e0 e1
    subst e0 e1
    exact ⟨⟨s0, s1⟩, rfl⟩
end

end Go.Proofs.YtnbbijpmkhdgpaaGreat.Vlt
