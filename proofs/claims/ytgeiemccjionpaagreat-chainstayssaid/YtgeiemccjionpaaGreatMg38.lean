/- Contracts and plain mathematics that the statement's proof wants: no statement is proved here, nothing is assumed. -/
import Derived.Test.YtgeiemccjionpaaGreatMg35
import Derived.Test.YtgeiemccjionpaaGreatMg37
/- HAwP -/
namespace Go.Proofs.YtgeiemccjionpaaGreat.Chn
open Go.RowKit Go.Sort
open Dsk Vlt
open Bit (tk markL runsN freeN)

def xA : Sh := ⟨16, 20⟩
def kA0 : VK := formatV xA
def kA1 : VK := putV kA0 16 [] (longL 300)
def kA2 : VK := putV kA1 16 [1, 2] [120]
def kA3 : VK := freeV kA2 (natI [1])
def kA4 : VK := freeV kA3 [0]
def zA : Nat → List UInt8 := fun _ => Ent.zer 208
theorem xA_right : rightS xA = true := by decide
theorem xA_n : PN xA = 16 := rfl
theorem cA0 : CV kA0 = zA := funext fun j => (Still.format xA_right).2 j
theorem tA0 : TV xA kA0 [] := TV.format xA_right
theorem m2_congr {C D : Nat → List UInt8} (h : C 0 = D 0) (n : Nat) (old : List Nat) (need : Nat) : m2C C n old need = m2C D n old need := by
  unfold m2C moreC m1C m0C
  rw [h]
theorem need300 : needC (longL 300).length = 2 := by rw [longL_len]; rfl
theorem allA1 : allC (CV kA0) (PN xA) [] (needC (longL 300).length) = [1, 2] := by
  rw [need300, cA0]
  decide +kernel
theorem fitA1 : fitC (CV kA0) (PN xA) [] (needC (longL 300).length) := (fit_iff (A := []) (O := []) (B := []) tA0.inv (.inl ⟨rfl, rfl⟩) _).2 (by rw [need300]; decide)
theorem putA1 : TV xA kA1 [([1, 2], longL 300)] := by
  have := (TV.put (A := []) (O := []) (B := []) xA_right tA0 (.inl ⟨rfl, rfl⟩) fitA1).1
  rw [allA1] at this
  exact this
theorem fitA2 : fitC (CV kA1) (PN xA) [1, 2] (needC ([120] : List UInt8).length) := (fit_iff (A := []) (O := [([1, 2], longL 300)]) (B := []) putA1.inv (.inr ⟨_, rfl⟩) _).2 (by decide)
theorem allA2 : allC (CV kA1) (PN xA) [1, 2] (needC ([120] : List UInt8).length) = [1] := by
  obtain ⟨_, a, b⟩ := TV.put (A := []) (O := [([1, 2], longL 300)]) (B := []) xA_right putA1 (.inr ⟨_, rfl⟩) fitA2
  have b := b (by simp)
  generalize allC (CV kA1) (PN xA) [1, 2] (needC ([120] : List UInt8).length) = l at *
  match l, a, b with
  | [p], _, b => simp at b; rw [b]
theorem putA2 : TV xA kA2 [([1], [120])] := by
  have := (TV.put (A := []) (O := [([1, 2], longL 300)]) (B := []) xA_right putA1 (.inr ⟨_, rfl⟩) fitA2).1
  rw [allA2] at this
  exact this
theorem fitA3 : ¬ fitC (CV kA2) (PN xA) [] (needC (longL 4000).length) := fun h => by
  have := (fit_iff (A := [([1], [120])]) (O := []) (B := []) putA2.inv (.inl ⟨rfl, rfl⟩) _).1 h
  rw [longL_len, xA_n] at this
  have e : needC 4000 = 20 := rfl
  rw [e] at this
  omega
theorem dropA : TV xA kA3 [] := TV.drop (A := []) (B := []) xA_right putA2
theorem cA3 : CV kA3 0 = markL (m2C (fun _ => m2C zA 16 [] 2) 16 [1, 2] 1) false (onesI [1]) := by
  have h1 := (freeV_is xA_right putA2.still (natI [1])).2 0
  rw [if_pos rfl] at h1
  have h2 := (putV_is (A := []) (O := [([1, 2], longL 300)]) (B := []) xA_right putA1.still [120] putA1.inv (.inr ⟨_, rfl⟩) fitA2).2 0
  have h3 := (putV_is (A := []) (O := []) (B := []) xA_right tA0.still (longL 300) tA0.inv (.inl ⟨rfl, rfl⟩) fitA1).2 0
  have e3 : CV kA1 0 = m2C zA 16 [] 2 := by rw [← cA0]; exact h3.trans (by unfold putC; rw [if_pos rfl, need300]; rfl)
  have e2 : CV kA2 0 = m2C (CV kA1) 16 [1, 2] 1 := h2.trans (by unfold putC; rw [if_pos rfl]; rfl)
  show CV (freeV kA2 (natI [1])) 0 = _
  rw [h1, e2, m2_congr (D := fun _ => m2C zA 16 [] 2) e3]
  rfl
theorem freeA3 : freeN (CV kA3 0) 16 = 15 := by rw [cA3]; decide +kernel
theorem stillA4 : Still xA kA4 := (freeV_is xA_right dropA.still [0]).1
theorem freeA4 : freeN (CV kA4 0) 16 = 16 := by
  have h1 := (freeV_is xA_right dropA.still [0]).2 0
  rw [if_pos rfl] at h1
  show freeN (CV (freeV kA3 [0]) 0) 16 = 16
  rw [h1, cA3]
  decide +kernel
end Go.Proofs.YtgeiemccjionpaaGreat.Chn

/- HVV -/
namespace Go.Proofs.YtgeiemccjionpaaGreat.Chn
open Go.RowKit Go.Sort
open Dsk Vlt

/-- A vault in a box of a law's own. -/
structure VV (w W : World) (g : Nat) (cs : Array Value) (k : VK) : Prop where
  a : W.heap[g]? = some (.cells cs 32 (0, 0))
  v : IsVault W (.agg cs) k
  below : Below w.heap.size w W
  ge : w.heap.size ≤ g
theorem VV.more {w W W' : World} {g : Nat} {cs : Array Value} {k : VK} (h : VV w W g cs k) (b : Below W.heap.size W W') : VV w W' g cs k := ⟨box_kept _ h.a b, h.v.below b, Dsk.below_trans' h.below b, h.ge⟩
theorem VV.new {w W : World} {cs : Array Value} {k : VK} (hv : IsVault W (.agg cs) k) (hb : Below w.heap.size w W) : VV w (W.alloc (.cells cs 32)) W.heap.size cs k := ⟨heap_alloc_new W _, hv.below (below_one _ _), Dsk.below_trans' hb (below_one _ _), hb.size⟩
/-- Another vault is stored. -/
theorem VV.put {w W : World} {g : Nat} {a0 a1 a2 a3 a4 a5 a6 a7 b0 b1 b2 b3 b4 b5 b6 b7 : Value} {k k' : VK} (h : VV w W g #[a0, a1, a2, a3, a4, a5, a6, a7] k) (hv : IsVault W (.agg #[b0, b1, b2, b3, b4, b5, b6, b7]) k') :
    ∃ X, (((((((W.setCell ⟨g, 0, none⟩ b0).setCell ⟨g, 1, none⟩ b1).setCell ⟨g, 2, none⟩ b2).setCell ⟨g, 3, none⟩ b3).setCell ⟨g, 4, none⟩ b4).setCell ⟨g, 5, none⟩ b5).setCell ⟨g, 6, none⟩ b6).setCell ⟨g, 7, none⟩ b7 = X ∧
      VV w X g #[b0, b1, b2, b3, b4, b5, b6, b7] k' ∧ (∀ q : Nat, q ≠ g → X.heap[q]? = W.heap[q]?) := by
  obtain ⟨X, hX, hbX, hkX, hBX⟩ := box_store8 h.a b0 b1 b2 b3 b4 b5 b6 b7
  exact ⟨X, hX, ⟨hbX, hv.other h.a hkX, hBX _ _ h.below h.ge, h.ge⟩, hkX⟩
/-- Numbers stay behind a store into a vault's box. -/
theorem VV.ints {w W X : World} {g : Nat} {cs : Array Value} {k : VK} {v : Value} {l : List Int} (h : VV w W g cs k) (hi : IsInts W v l) (hk : ∀ q : Nat, q ≠ g → X.heap[q]? = W.heap[q]?) : IsInts X v l := SL.other hi h.a (by decide) hk

theorem VV.lt {w W : World} {g : Nat} {cs : Array Value} {k : VK} (h : VV w W g cs k) : g < W.heap.size := (Array.getElem?_eq_some_iff.1 h.a).1
theorem VV.zero {w W : World} {g : Nat} {cs : Array Value} {k : VK} (_ : VV w W g cs k) : (W.alloc (.cells #[.slice none 0 0, .slice none 0 0, .bool false, .int .i64 0, .int .i64 0, .int .i64 0, .int .i64 0, .slice none 0 0] 32)).heap[W.heap.size]? = some (.cells #[.slice none 0 0, .slice none 0 0, .bool false, .int .i64 0, .int .i64 0, .int .i64 0, .int .i64 0, .slice none 0 0] 32 (0, 0)) := heap_alloc_new W _
/-- A vault is stored into a box that was laid for it. -/
theorem VV.fresh {w W : World} {g gz : Nat} {cs : Array Value} {b0 b1 b2 b3 b4 b5 b6 b7 : Value} {k k' : VK} (h : VV w W g cs k) (hz : W.heap[gz]? = some (.cells #[.slice none 0 0, .slice none 0 0, .bool false, .int .i64 0, .int .i64 0, .int .i64 0, .int .i64 0, .slice none 0 0] 32 (0, 0))) (hg : g < gz) (hv : IsVault W (.agg #[b0, b1, b2, b3, b4, b5, b6, b7]) k') :
    ∃ X, (((((((W.setCell ⟨gz, 0, none⟩ b0).setCell ⟨gz, 1, none⟩ b1).setCell ⟨gz, 2, none⟩ b2).setCell ⟨gz, 3, none⟩ b3).setCell ⟨gz, 4, none⟩ b4).setCell ⟨gz, 5, none⟩ b5).setCell ⟨gz, 6, none⟩ b6).setCell ⟨gz, 7, none⟩ b7 = X ∧
      VV w X gz #[b0, b1, b2, b3, b4, b5, b6, b7] k' ∧ VV w X g cs k ∧ (∀ v l, IsInts W v l → IsInts X v l) := by
  obtain ⟨X, hX, hbX, hkX, hBX⟩ := box_store8 hz b0 b1 b2 b3 b4 b5 b6 b7
  have hge := h.ge
  exact ⟨X, hX, ⟨hbX, hv.other hz hkX, hBX _ _ h.below (by omega), by omega⟩, ⟨(hkX _ (by omega)).trans h.a, h.v.other hz hkX, hBX _ _ h.below (by omega), hge⟩, fun v l hi => SL.other hi hz (by decide) hkX⟩

theorem one_ints (W : World) (a : Int) : IsInts (W.alloc (.cells #[.int .i64 a] 3)) (.slice (some ⟨W.heap.size, 0, none⟩) 1 1) [a] := ⟨_, _, rfl, Nat.le_refl _, rfl, fun _ => ⟨W.heap.size, 0, _, _, rfl, heap_alloc_new W _, fun j u hj => by rw [Nat.zero_add, ← hj]; exact List.getElem?_toArray⟩⟩
end Go.Proofs.YtgeiemccjionpaaGreat.Chn

/- HLaw -/
namespace Go.Proofs.YtgeiemccjionpaaGreat.Chn
open Go.RowKit Go.Sort
open Dsk Vlt

/-- A law's shape. -/
def shL (n : Nat) : Sh := ⟨(n : Nat), 8⟩
theorem shL_right {n : Nat} (h1 : 16 ≤ n) (h2 : n ≤ 512) : rightS (shL n) = true := by
  unfold rightS shL
  simp
  omega
theorem shL_n (n : Nat) : PN (shL n) = n := by unfold PN shL; simp
section
variable {n : Nat} {k : VK} {ts A O B : List TX} {old l : List Nat} {t t0 : List UInt8}
theorem TV.form (h : TV (shL n) k ts) (h1 : 16 ≤ n) (h2 : n ≤ 512) {W : World} {v : Value} (hv : IsVault W v k) :
    ∃ A1 n1 c1 A2 n2 c2 dl jr sq A7 n7 c7, v = .agg #[.slice A1 n1 c1, .slice A2 n2 c2, .bool false, .int .i64 dl, .int .i64 (n : Nat), .int .i64 jr, .int .i64 sq, .slice A7 n7 c7] := by
  have := h.still.form8 (shL_right h1 h2) hv
  rw [shL_n] at this
  exact this
/-- What a text that is put again keeps of its pages. -/
theorem all_keep {C : Nat → List UInt8} {n need i : Nat} {old : List Nat} (h1 : i < old.length) (h2 : i < need) : (allC C n old need)[i]? = old[i]? := by
  unfold allC
  rw [List.getElem?_append_left (by rw [List.length_take]; omega), List.getElem?_take, if_pos h2]
/-- Where a Put begins, and what there is. -/
def At (O : List TX) (old : List Nat) (no : Int) : Prop := (O = [] ∧ old = [] ∧ no = 0) ∨ (∃ t0, O = [(old, t0)] ∧ no = ((old.getD 0 0 : Nat) : Int))
theorem At.o {no : Int} (h : At O old no) : (O = [] ∧ old = []) ∨ ∃ t0, O = [(old, t0)] := by
  rcases h with ⟨a, b, _⟩ | ⟨t0, a, _⟩
  · exact .inl ⟨a, b⟩
  · exact .inr ⟨t0, a⟩
theorem At.old_ {no : Int} {x : Sh} (h : At O old no) (tv : TV x k (A ++ O ++ B)) : Old (CV k) (PN x) no old := by
  rcases h with ⟨rfl, rfl, rfl⟩ | ⟨t0, rfl, rfl⟩
  · exact .inl ⟨rfl, rfl⟩
  · exact tv.held (by simp : (old, t0) ∈ A ++ [(old, t0)] ++ B)
/-- What a Put comes to. -/
structure PutOk (n : Nat) (k : VK) (A B : List TX) (old : List Nat) (t : List UInt8) (k' : VK) (l : List Nat) : Prop where
  tv : TV (shL n) k' (A ++ [(l, t)] ++ B)
  len : l.length = needC t.length
  first : old ≠ [] → l.getD 0 0 = old.getD 0 0
  keep : ∀ i, i < old.length → i < needC t.length → l[i]? = old[i]?
theorem law_put (h : TV (shL n) k (A ++ O ++ B)) (h1 : 16 ≤ n) (h2 : n ≤ 512) {no : Int} (ho : At O old no) (ht : t.length ≤ 100000) (hf : needC t.length + (1 + (pagesOf (A ++ B)).length) ≤ n) :
    ∃ k' l, PutOk n k A B old t k' l ∧ k' = putV k n old t ∧ l = allC (CV k) n old (needC t.length) ∧ ∀ v W, IsVault W v k → Calls Tryz.prog 11 #[v, .int .i64 no, .string (strB t)] W fun e w' => ∃ v', e = .returned (.tuple #[v', .int .i64 ((l.getD 0 0 : Nat) : Int), .int .i64 0]) ∧ IsVault w' v' k' ∧ Below W.heap.size W w' := by
  have hx := shL_right h1 h2
  have hn := shL_n n
  have hfit : fitC (CV k) (PN (shL n)) old (needC t.length) := (fit_iff h.inv ho.o _).2 (by rw [hn]; exact hf)
  obtain ⟨a, b, c⟩ := TV.put hx h ho.o hfit
  have hc := fun v W hv => put_fit v no old t W hx h.still hv (ho.old_ h) ht hfit
  rw [hn] at a b c hc
  exact ⟨_, _, ⟨a, b, c, fun i hi1 hi2 => all_keep hi1 hi2⟩, rfl, rfl, fun v W hv => hc v W hv⟩
theorem law_put_no (h : TV (shL n) k (A ++ O ++ B)) (h1 : 16 ≤ n) (h2 : n ≤ 512) {no : Int} (ho : At O old no) (ht : t.length ≤ 100000) (hf : ¬ needC t.length + (1 + (pagesOf (A ++ B)).length) ≤ n) :
    ∀ v W, IsVault W v k → Calls Tryz.prog 11 #[v, .int .i64 no, .string (strB t)] W fun e w' => ∃ v', e = .returned (.tuple #[v', .int .i64 0, .int .i64 7]) ∧ IsVault w' v' k ∧ Below W.heap.size W w' := by
  have hx := shL_right h1 h2
  have hn := shL_n n
  have hfit : ¬ fitC (CV k) (PN (shL n)) old (needC t.length) := fun e => hf (by have := (fit_iff h.inv ho.o _).1 e; rw [hn] at this; exact this)
  exact fun v W hv => put_no v no old t W hx h.still hv (ho.old_ h) ht hfit
theorem law_walk (h : TV (shL n) k ts) (h1 : 16 ≤ n) (h2 : n ≤ 512) (hm : (l, t) ∈ ts) : ∀ v W, IsVault W v k → Calls Tryz.prog 16 #[v, .int .i64 ((l.getD 0 0 : Nat) : Int)] W fun e w' => ∃ vp, e = .returned (.tuple #[vp, .string (strB t), .int .i64 0]) ∧ IsInts w' vp (natI l) ∧ Below W.heap.size W w' :=
  fun v W hv => walk_calls v _ W (shL_right h1 h2) h.still hv _ (h.walk hm)
theorem law_drop (h : TV (shL n) k (A ++ [(l, t)] ++ B)) (h1 : 16 ≤ n) (h2 : n ≤ 512) :
    TV (shL n) (freeV k (natI l)) (A ++ B) ∧ ∀ v W, IsVault W v k → Calls Tryz.prog 13 #[v, .int .i64 ((l.getD 0 0 : Nat) : Int)] W fun e w' => ∃ v', e = .returned (.tuple #[v', .int .i64 0]) ∧ IsVault w' v' (freeV k (natI l)) ∧ Below W.heap.size W w' :=
  ⟨h.drop (shL_right h1 h2), fun v W hv => drop_ok v _ l t W (shL_right h1 h2) h.still hv (h.walk (by simp))⟩
theorem law_drop_no (h : TV (shL n) k ts) (h1 : 16 ≤ n) (h2 : n ≤ 512) :
    ∀ v W, IsVault W v k → Calls Tryz.prog 13 #[v, .int .i64 0] W fun e w' => ∃ v', e = .returned (.tuple #[v', .int .i64 1]) ∧ IsVault w' v' k ∧ Below W.heap.size W w' :=
  fun v W hv => drop_no v W (shL_right h1 h2) h.still hv
end
end Go.Proofs.YtgeiemccjionpaaGreat.Chn

/- HRPutW -/
namespace Go.Proofs.YtgeiemccjionpaaGreat.Chn
open Go.RowKit Go.Sort
open Dsk Vlt
open Bit (Sps)

/-- Boxes of the document's Put: the vault's, the answer's, the elder vault's. -/
structure RB (w W : World) (cs os zs : Array Value) : Prop where
  a : VB W w.heap.size cs
  z : VB W (w.heap.size + 1) zs
  o : VB W (w.heap.size + 1 + 1) os
  below : Below w.heap.size w W
theorem RB.more {w W W' : World} {cs os zs : Array Value} (h : RB w W cs os zs) (k : Below W.heap.size W W') : RB w W' cs os zs := ⟨box_kept _ h.a k, box_kept _ h.z k, box_kept _ h.o k, Dsk.below_trans' h.below k⟩
theorem RB.size {w W : World} {cs os zs : Array Value} (h : RB w W cs os zs) : w.heap.size + 3 ≤ W.heap.size := (Array.getElem?_eq_some_iff.1 h.o).1
theorem RB.new (w : World) (cs : Array Value) : RB w (((w.alloc (.cells cs 32)).alloc (.cells #[.slice none 0 0, .slice none 0 0, .bool false, .int .i64 0, .int .i64 0, .int .i64 0, .int .i64 0, .slice none 0 0] 32)).alloc (.cells cs 32)) cs cs #[.slice none 0 0, .slice none 0 0, .bool false, .int .i64 0, .int .i64 0, .int .i64 0, .int .i64 0, .slice none 0 0] := by
  have h := FB.new w cs
  have e : ((w.alloc (.cells cs 32)).alloc (.cells #[.slice none 0 0, .slice none 0 0, .bool false, .int .i64 0, .int .i64 0, .int .i64 0, .int .i64 0, .slice none 0 0] 32)).heap.size = w.heap.size + 1 + 1 := by simp
  refine ⟨box_alloc h.a _, box_alloc h.z _, ?_, Dsk.below_trans' h.below (below_one _ _)⟩
  have := heap_alloc_new ((w.alloc (.cells cs 32)).alloc (.cells #[.slice none 0 0, .slice none 0 0, .bool false, .int .i64 0, .int .i64 0, .int .i64 0, .int .i64 0, .slice none 0 0] 32)) (.cells cs 32)
  rw [e] at this
  exact this
/-- Below a bound: the boxes stay. -/
theorem RB.held {w W W' : World} {cs os zs : Array Value} {B : Nat} (h : RB w W cs os zs) (hB : w.heap.size + 3 ≤ B) (k : Below B W W') : RB w W' cs os zs :=
  ⟨(k.block _ (by omega)).trans h.a, (k.block _ (by omega)).trans h.z, (k.block _ (by omega)).trans h.o, h.below.trans (k.mono (by omega))⟩
theorem two_join (a b : Nat) : strB (Wire.twoL ((a : Nat) : Int)) ++ strB (Wire.twoL ((b : Nat) : Int)) = strB (Wire.twoL ((a : Nat) : Int) ++ Wire.twoL ((b : Nat) : Int)) := strB_append _ _
theorem part_join (l : List Nat) (t : List UInt8) (i nx : Nat) (hn : nx = l.getD (i + 1) 0) (h : nx < 65536) : strB (Wire.twoL ((nx : Nat) : Int) ++ Wire.twoL (((chunk t i).length : Nat) : Int)) ++ strB (chunk t i) = strB (partD l t i) := by
  have hc := chunk_len t i
  rw [strB_append, two_eq nx h, two_eq _ (show (chunk t i).length < 65536 by omega)]
  unfold partD
  rw [hn]
theorem chunk_min (t : List UInt8) (i : Nat) : min ((strB (t.drop (204 * i))).size : Int) 204 = (((chunk t i).length : Nat) : Int) := by
  unfold chunk
  rw [strB_size, List.length_take]
  omega
theorem chunk_cut (t : List UInt8) (i : Nat) : (strB (t.drop (204 * i))).extract 0 (chunk t i).length = strB (chunk t i) := by
  rw [Wire.take_ext]
  congr 1
  unfold chunk
  rw [List.take_eq_take_iff, List.length_take]
  omega
theorem chunk_rest (t : List UInt8) (i : Nat) : (strB (t.drop (204 * i))).extract (chunk t i).length (strB (t.drop (204 * i))).size = strB (t.drop (204 * (i + 1))) := by
  rw [Wire.drop_ext, ← drop_next]
  congr 1
  unfold chunk
  rw [List.length_take]
  by_cases h : 204 ≤ (t.drop (204 * i)).length
  · rw [show min 204 (t.drop (204 * i)).length = 204 by omega]
  · rw [show min 204 (t.drop (204 * i)).length = (t.drop (204 * i)).length by omega, List.drop_length, List.drop_of_length_le (by omega)]
theorem empty_own (W : World) (B : Nat) (h : B ≤ W.heap.size) : OwnI B (W.alloc (.cells #[] 3)) (.slice (some ⟨W.heap.size, 0, none⟩) 0 0) [] :=
  ⟨rfl, .inr ⟨W.heap.size, 0, #[], rfl, h, heap_alloc_new W _, Nat.le_refl _, by unfold maxLen; omega, rfl, rfl⟩⟩
theorem one_sps (W : World) : Sps (W.alloc (.cells #[.int .i64 0, .int .i64 1] 79)) (.slice (some ⟨W.heap.size, 0, none⟩) 1 1) (onesI [0]) := Bit.Sps.new W 0 1
end Go.Proofs.YtgeiemccjionpaaGreat.Chn

/- HRPutN -/
namespace Go.Proofs.YtgeiemccjionpaaGreat.Chn
open Go.RowKit Go.Sort
open Dsk Vlt
open Bit (Sps)

set_option maxRecDepth 100000 in
set_option maxHeartbeats 32000000 in
theorem rput0_no (v : Value) {x : Sh} {k : VK} (no : Int) (old : List Nat) (t : List UInt8) (w : World) (hx : rightS x = true) (hs : Still x k) (hv : IsVault w v k) (h0 : no = 0) (ho0 : old = []) (ht : t.length ≤ 100000) (hf : ¬ fitC (CV k) (PN x) old (needC t.length)) :
    Calls Tryz.prog 12 #[v, .int .i64 no, .string (strB t)] w fun e w' => ∃ v', e = .returned (.tuple #[v', .int .i64 0, .int .i64 7]) ∧ IsVault w' v' k ∧ Below w.heap.size w w' := by
  obtain ⟨A1, n1, c1, A2, n2, c2, dl, jr, sq, A7, n7, c7, rfl⟩ := hs.form8 hx hv
  have hx16 := (right_nat hx).2.2
  subst h0 ho0
  have ho : Old (CV k) (PN x) 0 [] := .inl ⟨rfl, rfl⟩
  obtain ⟨ho1, ho2⟩ := ho.ok
  have hm0 := CV_len hs 0
  have hnd : 1 ≤ needC t.length ∧ needC t.length ≤ 1000 := ⟨need_pos _, by unfold needC; omega⟩
  have C2 := Lib.hid (fun W (hW : Below w.heap.size w W) => rread_zero _ W hx hs (hv.below hW))
  have C3 := Lib.hid (fun W => rneed_calls t.length W (by omega))
  have CM := Lib.hid (fun W v (h : Sps W v (onesI [0])) => crmark_calls (CV k 0) true v (onesI [0]) W (by omega) h (by decide) (IR.ones (l := [0]) (by intro a ha; simp at ha; omega)))
  have eM : Bit.markL (CV k 0) true (onesI [0]) = m0C (CV k) := rfl
  rw [eM] at CM
  have hm1 : (m1C (CV k) ([] : List Nat) (needC t.length)).length = 208 := by rw [m1_len]; exact hm0
  have eN : m0C (CV k) = m1C (CV k) ([] : List Nat) (needC t.length) := by unfold m1C; rw [if_neg (by simp)]
  rw [eN] at CM
  have hKm : min (([] : List Nat)).length (needC t.length) = 0 := by simp
  have C5 := Lib.hid (fun W => Bit.rsome_calls (m1C (CV k) ([] : List Nat) (needC t.length)) ((PN x : Nat) : Int) ((needC t.length - 0 : Nat) : Int) W (by omega) (by omega))
  have hsB : Bit.someB (m1C (CV k) ([] : List Nat) (needC t.length)) ((PN x : Nat) : Int) ((needC t.length - 0 : Nat) : Int) = decide (fitC (CV k) (PN x) ([] : List Nat) (needC t.length)) := by
    unfold Bit.someB Bit.capN
    rw [Bool.eq_iff_iff, decide_eq_true_iff, decide_eq_true_iff, Int.toNat_natCast, show (min ((PN x : Nat) : Int) 512).toNat = PN x by omega]
    unfold fitC
    rw [kept_len, hKm]
  have hsV : fitC (CV k) (PN x) ([] : List Nat) (needC t.length) → Bit.someV (m1C (CV k) ([] : List Nat) (needC t.length)) ((PN x : Nat) : Int) ((needC t.length - 0 : Nat) : Int) = moreC (CV k) (PN x) ([] : List Nat) (needC t.length) := fun h => by
    unfold Bit.someV moreC Bit.capN
    rw [hsB, if_pos (decide_eq_true h), kept_len, hKm, Int.toNat_natCast, show (min ((PN x : Nat) : Int) 512).toNat = PN x by omega]
  rw [hsB, decide_eq_false hf] at C5
  have HV := Lib.hid hv
  obtain ⟨n, hn⟩ : ∃ n, n = PN x := ⟨_, rfl⟩
  obtain ⟨s0, hs0⟩ : ∃ s, s = strB (CV k 0) := ⟨_, rfl⟩
  obtain ⟨s2, hs2⟩ : ∃ s, s = strB (m1C (CV k) ([] : List Nat) (needC t.length)) := ⟨_, rfl⟩
  rw [← hs0] at C2 CM
  rw [← hs2] at CM C5
  obtain ⟨nd, hndd⟩ : ∃ s, s = needC t.length := ⟨_, rfl⟩
  rw [← hn] at C2 C5 HV ⊢
  rw [← hndd] at C3 C5 hnd
  
  obtain ⟨hnd1, hnd2⟩ := hnd
  have hn2 : n ≤ 512 := by rw [hn]; omega
  have ht2 : (strB t).size = t.length := strB_size t
  obtain ⟨Y, hY, hYb⟩ : ∃ Y, Y = ((w.alloc (.cells #[.slice A1 n1 c1, .slice A2 n2 c2, .bool false, .int .i64 dl, .int .i64 (n : Nat), .int .i64 jr, .int .i64 sq, .slice A7 n7 c7] 32)).alloc (.cells #[.slice none 0 0, .slice none 0 0, .bool false, .int .i64 0, .int .i64 0, .int .i64 0, .int .i64 0, .slice none 0 0] 32)).alloc (.cells #[.slice A1 n1 c1, .slice A2 n2 c2, .bool false, .int .i64 dl, .int .i64 (n : Nat), .int .i64 jr, .int .i64 sq, .slice A7 n7 c7] 32) ∧ RB w Y #[.slice A1 n1 c1, .slice A2 n2 c2, .bool false, .int .i64 dl, .int .i64 (n : Nat), .int .i64 jr, .int .i64 sq, .slice A7 n7 c7] #[.slice A1 n1 c1, .slice A2 n2 c2, .bool false, .int .i64 dl, .int .i64 (n : Nat), .int .i64 jr, .int .i64 sq, .slice A7 n7 c7] #[.slice none 0 0, .slice none 0 0, .bool false, .int .i64 0, .int .i64 0, .int .i64 0, .int .i64 0, .slice none 0 0] := ⟨_, rfl, RB.new w _⟩
  have i0' : (((w.alloc (.cells #[.slice A1 n1 c1, .slice A2 n2 c2, .bool false, .int .i64 dl, .int .i64 (n : Nat), .int .i64 jr, .int .i64 sq, .slice A7 n7 c7] 32)).alloc (.cells #[.slice none 0 0, .slice none 0 0, .bool false, .int .i64 0, .int .i64 0, .int .i64 0, .int .i64 0, .slice none 0 0] 32))).heap[w.heap.size]? = some (.cells #[.slice A1 n1 c1, .slice A2 n2 c2, .bool false, .int .i64 dl, .int .i64 (n : Nat), .int .i64 jr, .int .i64 sq, .slice A7 n7 c7] 32 (0, 0)) := (FB.new w _).a
  obtain ⟨⟨i0, i1, i2, i3, i4, i5, i6, i7⟩, _⟩ := box8 i0'
  have HY := Lib.hid hY
  have HB := Lib.hid hYb
  clear hs0 hs2 hn hndd hY hYb hv hx hs hx16 ho1 ho2 hm0 hf hsB hsV hKm hm1 eN eM ho i0'
  go_enter Tryz.func12, Tryz.ntmps12
  go_upto_region 2 with (fail)
  rw [← HY.out]
  clear HY i0 i1 i2 i3 i4 i5 i6 i7
  obtain ⟨⟨i0, i1, i2, i3, i4, i5, i6, i7⟩, _⟩ := box8 HB.out.a
  go_wp2_with fail
  (with_reducible refine (C2.out _ HB.out.below).mono ?_)
  rintro e w2 ⟨rfl, hb2⟩
  have HB2 := Lib.hid (HB.out.more hb2)
  clear hb2 i0 i1 i2 i3 i4 i5 i6 i7
  go_wp2_with fail
  (with_reducible refine (CM.out _ _ (one_sps w2)).mono ?_)
  rintro e w3 ⟨rfl, hb3⟩
  have hb3 := Dsk.below_trans' (below_one w2 (.cells #[.int .i64 0, .int .i64 1] 79)) hb3
  have HB3 := Lib.hid (HB2.out.more hb3)
  clear hb3
  go_wp2_with fail
  (with_reducible refine (C3.out _).mono ?_)
  rintro e w4 ⟨rfl, rfl⟩
  have hg : ¬ ((nd : Int) < 0) := by omega
  rw [show (((nd - 0 : Nat)) : Int) = (nd : Nat) by omega] at C5
  obtain ⟨⟨i0, i1, i2, i3, i4, i5, i6, i7⟩, _⟩ := box8 HB3.out.a
  go_wp2_with fail
  (with_reducible refine (C5.out _).mono ?_)
  rintro e w6 ⟨vm, rfl, hvm, hb6⟩
  have hvm2 := hvm.sps
  obtain ⟨MA, mc, hMA⟩ := hvm2.form
  have HB6 := Lib.hid (HB3.out.more hb6)
  clear hb6 hvm hvm2 hMA i0 i1 i2 i3 i4 i5 i6 i7
  obtain ⟨X, hX, hbX, hkX, hBX⟩ := box_store8 HB6.out.z (.slice A1 n1 c1) (.slice A2 n2 c2) (.bool false) (.int .i64 dl) (.int .i64 (n : Nat)) (.int .i64 jr) (.int .i64 sq) (.slice A7 n7 c7)
  have HXX := Lib.hid hX
  have HX := Lib.hid (box8 hbX)
  have HFIN : Hid (IsVault X (.agg #[.slice A1 n1 c1, .slice A2 n2 c2, .bool false, .int .i64 dl, .int .i64 (n : Nat), .int .i64 jr, .int .i64 sq, .slice A7 n7 c7]) k ∧ Below w.heap.size w X) := Lib.hid ⟨(HV.out.below HB6.out.below).other HB6.out.z hkX, hBX _ _ HB6.out.below (by omega)⟩
  obtain ⟨⟨z0, z1, z2, z3, z4, z5, z6, z7⟩, zf⟩ := box8 HB6.out.z
  obtain ⟨⟨i0, i1, i2, i3, i4, i5, i6, i7⟩, _⟩ := box8 HB6.out.o
  clear hX hbX hkX hBX
  go_wp2_with fail
  rw [HXX.out]
  clear i0 i1 i2 i3 i4 i5 i6 i7 z0 z1 z2 z3 z4 z5 z6 z7 zf
  obtain ⟨⟨z0, z1, z2, z3, z4, z5, z6, z7⟩, _⟩ := HX.out
  exact bodyPost_ret (v := .tuple #[.agg #[.slice A1 n1 c1, .slice A2 n2 c2, .bool false, .int .i64 dl, .int .i64 (n : Nat), .int .i64 jr, .int .i64 sq, .slice A7 n7 c7], .int .i64 0, .int .i64 7]) (by simp [results, Tryz.results12, go_sem, z0, z1, z2, z3, z4, z5, z6, z7]) rfl ⟨_, rfl, HFIN.out.1, HFIN.out.2⟩

set_option maxRecDepth 100000 in
set_option maxHeartbeats 32000000 in
theorem rputA_no (v : Value) {x : Sh} {k : VK} (no : Int) (old : List Nat) (t : List UInt8) (w : World) (hx : rightS x = true) (hs : Still x k) (hv : IsVault w v k) (h0 : no ≠ 0) (t0 : List UInt8) (hw : walkZ (CV k) (PN x) (PN x) [] [] no = (old, t0, 0)) (hlen : old.length ≤ needC t.length) (ht : t.length ≤ 100000) (hf : ¬ fitC (CV k) (PN x) old (needC t.length)) :
    Calls Tryz.prog 12 #[v, .int .i64 no, .string (strB t)] w fun e w' => ∃ v', e = .returned (.tuple #[v', .int .i64 0, .int .i64 7]) ∧ IsVault w' v' k ∧ Below w.heap.size w w' := by
  obtain ⟨A1, n1, c1, A2, n2, c2, dl, jr, sq, A7, n7, c7, rfl⟩ := hs.form8 hx hv
  have hx16 := (right_nat hx).2.2
  have ho : Old (CV k) (PN x) no old := .inr ⟨h0, t0, hw⟩
  have hd0 : (no == (0 : Int)) = false := by simpa using h0
  have C1 := Lib.hid (fun W (hW : Below w.heap.size w W) => rwalk_calls _ no W hx hs (hv.below hW) _ hw)
  obtain ⟨ho1, ho2⟩ := ho.ok
  have hm0 := CV_len hs 0
  have hnd : 1 ≤ needC t.length ∧ needC t.length ≤ 1000 := ⟨need_pos _, by unfold needC; omega⟩
  have C2 := Lib.hid (fun W (hW : Below w.heap.size w W) => rread_zero _ W hx hs (hv.below hW))
  have C3 := Lib.hid (fun W => rneed_calls t.length W (by omega))
  have CM := Lib.hid (fun W v (h : Sps W v (onesI [0])) => crmark_calls (CV k 0) true v (onesI [0]) W (by omega) h (by decide) (IR.ones (l := [0]) (by intro a ha; simp at ha; omega)))
  have eM : Bit.markL (CV k 0) true (onesI [0]) = m0C (CV k) := rfl
  rw [eM] at CM
  have hm1 : (m1C (CV k) old (needC t.length)).length = 208 := by rw [m1_len]; exact hm0
  have eN : m0C (CV k) = m1C (CV k) old (needC t.length) := by unfold m1C; rw [if_neg (by omega)]
  rw [eN] at CM
  have hKm : min (old).length (needC t.length) = old.length := by omega
  have C5 := Lib.hid (fun W => Bit.rsome_calls (m1C (CV k) old (needC t.length)) ((PN x : Nat) : Int) ((needC t.length - old.length : Nat) : Int) W (by omega) (by omega))
  have hsB : Bit.someB (m1C (CV k) old (needC t.length)) ((PN x : Nat) : Int) ((needC t.length - old.length : Nat) : Int) = decide (fitC (CV k) (PN x) old (needC t.length)) := by
    unfold Bit.someB Bit.capN
    rw [Bool.eq_iff_iff, decide_eq_true_iff, decide_eq_true_iff, Int.toNat_natCast, show (min ((PN x : Nat) : Int) 512).toNat = PN x by omega]
    unfold fitC
    rw [kept_len, hKm]
  have hsV : fitC (CV k) (PN x) old (needC t.length) → Bit.someV (m1C (CV k) old (needC t.length)) ((PN x : Nat) : Int) ((needC t.length - old.length : Nat) : Int) = moreC (CV k) (PN x) old (needC t.length) := fun h => by
    unfold Bit.someV moreC Bit.capN
    rw [hsB, if_pos (decide_eq_true h), kept_len, hKm, Int.toNat_natCast, show (min ((PN x : Nat) : Int) 512).toNat = PN x by omega]
  rw [hsB, decide_eq_false hf] at C5
  have HV := Lib.hid hv
  obtain ⟨n, hn⟩ : ∃ n, n = PN x := ⟨_, rfl⟩
  obtain ⟨s0, hs0⟩ : ∃ s, s = strB (CV k 0) := ⟨_, rfl⟩
  obtain ⟨s2, hs2⟩ : ∃ s, s = strB (m1C (CV k) old (needC t.length)) := ⟨_, rfl⟩
  rw [← hs0] at C2 CM
  rw [← hs2] at CM C5
  obtain ⟨nd, hndd⟩ : ∃ s, s = needC t.length := ⟨_, rfl⟩
  rw [← hn] at C1 C2 C5 HV ⊢
  rw [← hndd] at C3 C5 hnd hlen
  
  obtain ⟨hnd1, hnd2⟩ := hnd
  have hn2 : n ≤ 512 := by rw [hn]; omega
  have ht2 : (strB t).size = t.length := strB_size t
  obtain ⟨Y, hY, hYb⟩ : ∃ Y, Y = ((w.alloc (.cells #[.slice A1 n1 c1, .slice A2 n2 c2, .bool false, .int .i64 dl, .int .i64 (n : Nat), .int .i64 jr, .int .i64 sq, .slice A7 n7 c7] 32)).alloc (.cells #[.slice none 0 0, .slice none 0 0, .bool false, .int .i64 0, .int .i64 0, .int .i64 0, .int .i64 0, .slice none 0 0] 32)).alloc (.cells #[.slice A1 n1 c1, .slice A2 n2 c2, .bool false, .int .i64 dl, .int .i64 (n : Nat), .int .i64 jr, .int .i64 sq, .slice A7 n7 c7] 32) ∧ RB w Y #[.slice A1 n1 c1, .slice A2 n2 c2, .bool false, .int .i64 dl, .int .i64 (n : Nat), .int .i64 jr, .int .i64 sq, .slice A7 n7 c7] #[.slice A1 n1 c1, .slice A2 n2 c2, .bool false, .int .i64 dl, .int .i64 (n : Nat), .int .i64 jr, .int .i64 sq, .slice A7 n7 c7] #[.slice none 0 0, .slice none 0 0, .bool false, .int .i64 0, .int .i64 0, .int .i64 0, .int .i64 0, .slice none 0 0] := ⟨_, rfl, RB.new w _⟩
  have i0' : (((w.alloc (.cells #[.slice A1 n1 c1, .slice A2 n2 c2, .bool false, .int .i64 dl, .int .i64 (n : Nat), .int .i64 jr, .int .i64 sq, .slice A7 n7 c7] 32)).alloc (.cells #[.slice none 0 0, .slice none 0 0, .bool false, .int .i64 0, .int .i64 0, .int .i64 0, .int .i64 0, .slice none 0 0] 32))).heap[w.heap.size]? = some (.cells #[.slice A1 n1 c1, .slice A2 n2 c2, .bool false, .int .i64 dl, .int .i64 (n : Nat), .int .i64 jr, .int .i64 sq, .slice A7 n7 c7] 32 (0, 0)) := (FB.new w _).a
  obtain ⟨⟨i0, i1, i2, i3, i4, i5, i6, i7⟩, _⟩ := box8 i0'
  have HY := Lib.hid hY
  have HB := Lib.hid hYb
  clear hs0 hs2 hn hndd hY hYb hv hx hs hx16 ho1 ho2 hm0 hf hsB hsV hKm hm1 eN eM ho i0' hw h0
  go_enter Tryz.func12, Tryz.ntmps12
  go_upto_region 2 with (fail)
  rw [← HY.out]
  clear HY i0 i1 i2 i3 i4 i5 i6 i7
  obtain ⟨⟨i0, i1, i2, i3, i4, i5, i6, i7⟩, _⟩ := box8 HB.out.a
  go_wp2_with fail
  (with_reducible refine (C1.out _ HB.out.below).mono ?_)
  rintro e w1 ⟨vo, rfl, hvo, hb1⟩
  obtain ⟨OA, on, oc, rfl, hon, hoc⟩ := hvo.open_
  rw [natI_len] at hon
  have HO := Lib.hid hvo
  have HON := Lib.hid hon
  have HB1 := Lib.hid (HB.out.more hb1)
  have HK1 := Lib.hid hb1
  clear i0 i1 i2 i3 i4 i5 i6 i7 hb1 hvo
  obtain ⟨⟨i0, i1, i2, i3, i4, i5, i6, i7⟩, _⟩ := box8 HB1.out.a
  clear hon hoc HB
  go_wp2_with fail
  (with_reducible refine (C2.out _ HB1.out.below).mono ?_)
  rintro e w2 ⟨rfl, hb2⟩
  have HB2 := Lib.hid (HB1.out.more hb2)
  have HO := Lib.hid (HO.out.below hb2)
  clear hb2 i0 i1 i2 i3 i4 i5 i6 i7
  go_wp2_with fail
  (with_reducible refine (CM.out _ _ (one_sps w2)).mono ?_)
  rintro e w3 ⟨rfl, hb3⟩
  have hb3 := Dsk.below_trans' (below_one w2 (.cells #[.int .i64 0, .int .i64 1] 79)) hb3
  have HB3 := Lib.hid (HB2.out.more hb3)
  have HO := Lib.hid (HO.out.below hb3)
  clear hb3
  go_wp2_with fail
  (with_reducible refine (C3.out _).mono ?_)
  rintro e w4 ⟨rfl, rfl⟩
  have hg : ¬ ((nd : Int) < (on : Int)) := by have := HON.out; omega
  have hg2 : ¬ (nd < on) := by have := HON.out; omega
  have hsub : (nd : Int) - (on : Int) = ((nd - on : Nat) : Int) := by have := HON.out; omega
  rw [← HON.out] at C5
  obtain ⟨⟨i0, i1, i2, i3, i4, i5, i6, i7⟩, _⟩ := box8 HB3.out.a
  go_wp2_with fail
  (with_reducible refine (C5.out _).mono ?_)
  rintro e w6 ⟨vm, rfl, hvm, hb6⟩
  have hvm2 := hvm.sps
  obtain ⟨MA, mc, hMA⟩ := hvm2.form
  have HB6 := Lib.hid (HB3.out.more hb6)
  clear hb6 hvm hvm2 hMA i0 i1 i2 i3 i4 i5 i6 i7
  obtain ⟨X, hX, hbX, hkX, hBX⟩ := box_store8 HB6.out.z (.slice A1 n1 c1) (.slice A2 n2 c2) (.bool false) (.int .i64 dl) (.int .i64 (n : Nat)) (.int .i64 jr) (.int .i64 sq) (.slice A7 n7 c7)
  have HXX := Lib.hid hX
  have HX := Lib.hid (box8 hbX)
  have HFIN : Hid (IsVault X (.agg #[.slice A1 n1 c1, .slice A2 n2 c2, .bool false, .int .i64 dl, .int .i64 (n : Nat), .int .i64 jr, .int .i64 sq, .slice A7 n7 c7]) k ∧ Below w.heap.size w X) := Lib.hid ⟨(HV.out.below HB6.out.below).other HB6.out.z hkX, hBX _ _ HB6.out.below (by omega)⟩
  obtain ⟨⟨z0, z1, z2, z3, z4, z5, z6, z7⟩, zf⟩ := box8 HB6.out.z
  obtain ⟨⟨i0, i1, i2, i3, i4, i5, i6, i7⟩, _⟩ := box8 HB6.out.o
  clear hX hbX hkX hBX
  go_wp2_with fail
  rw [HXX.out]
  clear i0 i1 i2 i3 i4 i5 i6 i7 z0 z1 z2 z3 z4 z5 z6 z7 zf
  obtain ⟨⟨z0, z1, z2, z3, z4, z5, z6, z7⟩, _⟩ := HX.out
  exact bodyPost_ret (v := .tuple #[.agg #[.slice A1 n1 c1, .slice A2 n2 c2, .bool false, .int .i64 dl, .int .i64 (n : Nat), .int .i64 jr, .int .i64 sq, .slice A7 n7 c7], .int .i64 0, .int .i64 7]) (by simp [results, Tryz.results12, go_sem, z0, z1, z2, z3, z4, z5, z6, z7]) rfl ⟨_, rfl, HFIN.out.1, HFIN.out.2⟩

set_option maxRecDepth 100000 in
set_option maxHeartbeats 32000000 in
theorem rputB_no (v : Value) {x : Sh} {k : VK} (no : Int) (old : List Nat) (t : List UInt8) (w : World) (hx : rightS x = true) (hs : Still x k) (hv : IsVault w v k) (h0 : no ≠ 0) (t0 : List UInt8) (hw : walkZ (CV k) (PN x) (PN x) [] [] no = (old, t0, 0)) (hlen : needC t.length < old.length) (ht : t.length ≤ 100000) (hf : ¬ fitC (CV k) (PN x) old (needC t.length)) :
    Calls Tryz.prog 12 #[v, .int .i64 no, .string (strB t)] w fun e w' => ∃ v', e = .returned (.tuple #[v', .int .i64 0, .int .i64 7]) ∧ IsVault w' v' k ∧ Below w.heap.size w w' := by
  obtain ⟨A1, n1, c1, A2, n2, c2, dl, jr, sq, A7, n7, c7, rfl⟩ := hs.form8 hx hv
  have hx16 := (right_nat hx).2.2
  have ho : Old (CV k) (PN x) no old := .inr ⟨h0, t0, hw⟩
  have hd0 : (no == (0 : Int)) = false := by simpa using h0
  have C1 := Lib.hid (fun W (hW : Below w.heap.size w W) => rwalk_calls _ no W hx hs (hv.below hW) _ hw)
  obtain ⟨ho1, ho2⟩ := ho.ok
  have hm0 := CV_len hs 0
  have hnd : 1 ≤ needC t.length ∧ needC t.length ≤ 1000 := ⟨need_pos _, by unfold needC; omega⟩
  have C2 := Lib.hid (fun W (hW : Below w.heap.size w W) => rread_zero _ W hx hs (hv.below hW))
  have C3 := Lib.hid (fun W => rneed_calls t.length W (by omega))
  have CM := Lib.hid (fun W v (h : Sps W v (onesI [0])) => crmark_calls (CV k 0) true v (onesI [0]) W (by omega) h (by decide) (IR.ones (l := [0]) (by intro a ha; simp at ha; omega)))
  have eM : Bit.markL (CV k 0) true (onesI [0]) = m0C (CV k) := rfl
  rw [eM] at CM
  have hm1 : (m1C (CV k) old (needC t.length)).length = 208 := by rw [m1_len]; exact hm0
  have hdl : ((natI old).drop (needC t.length)).length ≤ 1000 := by rw [List.length_drop, natI_len]; omega
  have hdi : IR ((natI old).drop (needC t.length)) := by rw [← natI_drop]; exact IR.nat fun p hp => by have := ho1 p (List.mem_of_mem_drop hp); omega
  have CS := Lib.hid (fun W v (h : IsInts W v ((natI old).drop (needC t.length))) => spans_calls v ((natI old).drop (needC t.length)) W h hdl)
  have CN := Lib.hid (fun W v (h : Sps W v (onesI ((natI old).drop (needC t.length)))) => crmark_calls (m0C (CV k)) false v (onesI ((natI old).drop (needC t.length))) W (by unfold m0C; rw [Bit.markL_len]; omega) h (by rw [ones_len]; exact hdl) hdi.ones)
  have eN : Bit.markL (m0C (CV k)) false (onesI ((natI old).drop (needC t.length))) = m1C (CV k) old (needC t.length) := by
    have := m1_is (C := CV k) (old := old) (need := needC t.length)
    rw [show min old.length (needC t.length) = needC t.length by omega] at this
    exact this
  rw [eN] at CN
  have hKm : min (old).length (needC t.length) = needC t.length := by omega
  have C5 := Lib.hid (fun W => Bit.rsome_calls (m1C (CV k) old (needC t.length)) ((PN x : Nat) : Int) ((needC t.length - needC t.length : Nat) : Int) W (by omega) (by omega))
  have hsB : Bit.someB (m1C (CV k) old (needC t.length)) ((PN x : Nat) : Int) ((needC t.length - needC t.length : Nat) : Int) = decide (fitC (CV k) (PN x) old (needC t.length)) := by
    unfold Bit.someB Bit.capN
    rw [Bool.eq_iff_iff, decide_eq_true_iff, decide_eq_true_iff, Int.toNat_natCast, show (min ((PN x : Nat) : Int) 512).toNat = PN x by omega]
    unfold fitC
    rw [kept_len, hKm]
  have hsV : fitC (CV k) (PN x) old (needC t.length) → Bit.someV (m1C (CV k) old (needC t.length)) ((PN x : Nat) : Int) ((needC t.length - needC t.length : Nat) : Int) = moreC (CV k) (PN x) old (needC t.length) := fun h => by
    unfold Bit.someV moreC Bit.capN
    rw [hsB, if_pos (decide_eq_true h), kept_len, hKm, Int.toNat_natCast, show (min ((PN x : Nat) : Int) 512).toNat = PN x by omega]
  rw [hsB, decide_eq_false hf] at C5
  have HV := Lib.hid hv
  obtain ⟨n, hn⟩ : ∃ n, n = PN x := ⟨_, rfl⟩
  obtain ⟨s0, hs0⟩ : ∃ s, s = strB (CV k 0) := ⟨_, rfl⟩
  obtain ⟨s1, hs1⟩ : ∃ s, s = strB (m0C (CV k)) := ⟨_, rfl⟩
  obtain ⟨s2, hs2⟩ : ∃ s, s = strB (m1C (CV k) old (needC t.length)) := ⟨_, rfl⟩
  rw [← hs0] at C2 CM
  rw [← hs1] at CM CN
  rw [← hs2] at CN C5
  obtain ⟨nd, hndd⟩ : ∃ s, s = needC t.length := ⟨_, rfl⟩
  rw [← hn] at C1 C2 C5 HV ⊢
  rw [← hndd] at C3 C5 hnd CS CN hlen
  
  obtain ⟨hnd1, hnd2⟩ := hnd
  have hn2 : n ≤ 512 := by rw [hn]; omega
  have ht2 : (strB t).size = t.length := strB_size t
  obtain ⟨Y, hY, hYb⟩ : ∃ Y, Y = ((w.alloc (.cells #[.slice A1 n1 c1, .slice A2 n2 c2, .bool false, .int .i64 dl, .int .i64 (n : Nat), .int .i64 jr, .int .i64 sq, .slice A7 n7 c7] 32)).alloc (.cells #[.slice none 0 0, .slice none 0 0, .bool false, .int .i64 0, .int .i64 0, .int .i64 0, .int .i64 0, .slice none 0 0] 32)).alloc (.cells #[.slice A1 n1 c1, .slice A2 n2 c2, .bool false, .int .i64 dl, .int .i64 (n : Nat), .int .i64 jr, .int .i64 sq, .slice A7 n7 c7] 32) ∧ RB w Y #[.slice A1 n1 c1, .slice A2 n2 c2, .bool false, .int .i64 dl, .int .i64 (n : Nat), .int .i64 jr, .int .i64 sq, .slice A7 n7 c7] #[.slice A1 n1 c1, .slice A2 n2 c2, .bool false, .int .i64 dl, .int .i64 (n : Nat), .int .i64 jr, .int .i64 sq, .slice A7 n7 c7] #[.slice none 0 0, .slice none 0 0, .bool false, .int .i64 0, .int .i64 0, .int .i64 0, .int .i64 0, .slice none 0 0] := ⟨_, rfl, RB.new w _⟩
  have i0' : (((w.alloc (.cells #[.slice A1 n1 c1, .slice A2 n2 c2, .bool false, .int .i64 dl, .int .i64 (n : Nat), .int .i64 jr, .int .i64 sq, .slice A7 n7 c7] 32)).alloc (.cells #[.slice none 0 0, .slice none 0 0, .bool false, .int .i64 0, .int .i64 0, .int .i64 0, .int .i64 0, .slice none 0 0] 32))).heap[w.heap.size]? = some (.cells #[.slice A1 n1 c1, .slice A2 n2 c2, .bool false, .int .i64 dl, .int .i64 (n : Nat), .int .i64 jr, .int .i64 sq, .slice A7 n7 c7] 32 (0, 0)) := (FB.new w _).a
  obtain ⟨⟨i0, i1, i2, i3, i4, i5, i6, i7⟩, _⟩ := box8 i0'
  have HY := Lib.hid hY
  have HB := Lib.hid hYb
  clear hs0 hs2 hn hndd hY hYb hv hx hs hx16 ho1 ho2 hm0 hf hsB hsV hKm hm1 eN eM ho i0' hs1 hdl hdi hw h0
  go_enter Tryz.func12, Tryz.ntmps12
  go_upto_region 2 with (fail)
  rw [← HY.out]
  clear HY i0 i1 i2 i3 i4 i5 i6 i7
  obtain ⟨⟨i0, i1, i2, i3, i4, i5, i6, i7⟩, _⟩ := box8 HB.out.a
  go_wp2_with fail
  (with_reducible refine (C1.out _ HB.out.below).mono ?_)
  rintro e w1 ⟨vo, rfl, hvo, hb1⟩
  obtain ⟨OA, on, oc, rfl, hon, hoc⟩ := hvo.open_
  rw [natI_len] at hon
  have HO := Lib.hid hvo
  have HON := Lib.hid hon
  have HB1 := Lib.hid (HB.out.more hb1)
  have HK1 := Lib.hid hb1
  clear i0 i1 i2 i3 i4 i5 i6 i7 hb1 hvo
  obtain ⟨⟨i0, i1, i2, i3, i4, i5, i6, i7⟩, _⟩ := box8 HB1.out.a
  clear hon hoc HB
  go_wp2_with fail
  (with_reducible refine (C2.out _ HB1.out.below).mono ?_)
  rintro e w2 ⟨rfl, hb2⟩
  have HB2 := Lib.hid (HB1.out.more hb2)
  have HO := Lib.hid (HO.out.below hb2)
  clear hb2 i0 i1 i2 i3 i4 i5 i6 i7
  go_wp2_with fail
  (with_reducible refine (CM.out _ _ (one_sps w2)).mono ?_)
  rintro e w3 ⟨rfl, hb3⟩
  have hb3 := Dsk.below_trans' (below_one w2 (.cells #[.int .i64 0, .int .i64 1] 79)) hb3
  have HB3 := Lib.hid (HB2.out.more hb3)
  have HO := Lib.hid (HO.out.below hb3)
  clear hb3
  go_wp2_with fail
  (with_reducible refine (C3.out _).mono ?_)
  rintro e w4 ⟨rfl, rfl⟩
  have hg : ((nd : Int) < (on : Int)) := by have := HON.out; omega
  have hg2 : nd < on := by have := HON.out; omega
  rw [show (((nd - nd : Nat)) : Int) = 0 by omega] at C5
  obtain ⟨FA, fc, hfr, hfi⟩ := slice_fromI HO.out (by rw [natI_len]; exact HON.out) (k := nd) (by omega)
  obtain ⟨TA, tc, htr, hti⟩ := slice_toI HO.out (by rw [natI_len]; exact HON.out) (k := nd) (by omega)
  have HFI := Lib.hid hfi
  have HTI := Lib.hid hti
  clear hfi hti
  go_wp2_with fail
  (with_reducible refine (CS.out _ _ HFI.out).mono ?_)
  rintro e w5 ⟨vs5, rfl, hsp, hb5⟩
  have HB3 := Lib.hid (HB3.out.more hb5)
  have HTI := Lib.hid (HTI.out.below hb5)
  have HSP := Lib.hid hsp
  clear hb5 hsp
  go_wp2_with fail
  (with_reducible refine (CN.out _ _ HSP.out).mono ?_)
  rintro e w3 ⟨rfl, hb5⟩
  have HB3 := Lib.hid (HB3.out.more hb5)
  have HTI := Lib.hid (HTI.out.below hb5)
  clear hb5
  obtain ⟨⟨i0, i1, i2, i3, i4, i5, i6, i7⟩, _⟩ := box8 HB3.out.a
  go_wp2_with fail
  (with_reducible refine (C5.out _).mono ?_)
  rintro e w6 ⟨vm, rfl, hvm, hb6⟩
  have hvm2 := hvm.sps
  obtain ⟨MA, mc, hMA⟩ := hvm2.form
  have HB6 := Lib.hid (HB3.out.more hb6)
  clear hb6 hvm hvm2 hMA i0 i1 i2 i3 i4 i5 i6 i7
  obtain ⟨X, hX, hbX, hkX, hBX⟩ := box_store8 HB6.out.z (.slice A1 n1 c1) (.slice A2 n2 c2) (.bool false) (.int .i64 dl) (.int .i64 (n : Nat)) (.int .i64 jr) (.int .i64 sq) (.slice A7 n7 c7)
  have HXX := Lib.hid hX
  have HX := Lib.hid (box8 hbX)
  have HFIN : Hid (IsVault X (.agg #[.slice A1 n1 c1, .slice A2 n2 c2, .bool false, .int .i64 dl, .int .i64 (n : Nat), .int .i64 jr, .int .i64 sq, .slice A7 n7 c7]) k ∧ Below w.heap.size w X) := Lib.hid ⟨(HV.out.below HB6.out.below).other HB6.out.z hkX, hBX _ _ HB6.out.below (by omega)⟩
  obtain ⟨⟨z0, z1, z2, z3, z4, z5, z6, z7⟩, zf⟩ := box8 HB6.out.z
  obtain ⟨⟨i0, i1, i2, i3, i4, i5, i6, i7⟩, _⟩ := box8 HB6.out.o
  clear hX hbX hkX hBX
  go_wp2_with fail
  rw [HXX.out]
  clear i0 i1 i2 i3 i4 i5 i6 i7 z0 z1 z2 z3 z4 z5 z6 z7 zf
  obtain ⟨⟨z0, z1, z2, z3, z4, z5, z6, z7⟩, _⟩ := HX.out
  exact bodyPost_ret (v := .tuple #[.agg #[.slice A1 n1 c1, .slice A2 n2 c2, .bool false, .int .i64 dl, .int .i64 (n : Nat), .int .i64 jr, .int .i64 sq, .slice A7 n7 c7], .int .i64 0, .int .i64 7]) (by simp [results, Tryz.results12, go_sem, z0, z1, z2, z3, z4, z5, z6, z7]) rfl ⟨_, rfl, HFIN.out.1, HFIN.out.2⟩
end Go.Proofs.YtgeiemccjionpaaGreat.Chn
