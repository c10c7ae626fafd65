/- NameTrees: the walk. No statement is proved here. -/
import Derived.Test.YtkkflcikjmihaaaAwake
namespace Go.Proofs.Ytkkflcikjmihaaa
open Go.RowKit

def headN : List UInt8 → Nat
  | [] => 0
  | x :: _ => x.toNat
def groveH (n : Nat) : Nat := if n < 103 then 0 else if n < 110 then 1 else if n < 116 then 2 else 3
theorem less_one (l : List UInt8) (c : UInt8) (hc : 0 < c.toNat) : Op.bytesLess l [c] = decide (headN l < c.toNat) := by
  cases l with
  | nil => simp [Op.bytesLess, headN, hc]
  | cons x l =>
    rw [Bool.eq_iff_iff]
    simp [Op.bytesLess, headN, UInt8.lt_iff_toNat_lt]
    exact decide_eq_true_iff.symm
theorem grove_head (l : List UInt8) : groveN l = groveH (headN l) := by
  unfold groveN groveH
  rw [less_one l 103 (by decide), less_one l 110 (by decide), less_one l 116 (by decide)]
  simp
theorem groveH_mono {a b : Nat} (h : a ≤ b) : groveH a ≤ groveH b := by
  unfold groveH
  repeat' split
  all_goals omega
theorem groveH_le (a : Nat) : groveH a ≤ 3 := by
  unfold groveH
  repeat' split
  all_goals omega
theorem head_le (s t : List UInt8) (h : Op.bytesLess s t = true) : headN s ≤ headN t := by
  cases t with
  | nil => cases s <;> simp [Op.bytesLess] at h
  | cons y t =>
    cases s with
    | nil => exact Nat.zero_le _
    | cons x s =>
      simp only [Op.bytesLess, Bool.or_eq_true, decide_eq_true_iff, UInt8.lt_iff_toNat_lt, Bool.and_eq_true, beq_iff_eq, ← UInt8.toNat_inj] at h
      show x.toNat ≤ y.toNat
      omega
theorem grove_mono (s t : List UInt8) (h : Op.bytesLess s t = true) : groveN s ≤ groveN t := by
  rw [grove_head, grove_head]
  exact groveH_mono (head_le s t h)
theorem grove_le (s : List UInt8) : groveN s ≤ 3 := by rw [grove_head]; exact groveH_le _
theorem grove_index (s : List UInt8) (n : Int) (h : keyOK s = true) : groveN (indexL s n) = groveN s := by
  rw [grove_head, grove_head]
  cases s with
  | nil => cases h
  | cons x s => rfl
theorem begins_app (l m : List UInt8) : begins (l ++ m) l = true := by
  unfold begins
  simp
theorem begins_len (l m : List UInt8) (h : begins l m = true) : m.length ≤ l.length := by
  unfold begins at h
  simp at h
  exact h.1

theorem gtr_is (l m : List UInt8) : binOp .gtr 9 (.string (strB l)) (.string (strB m)) = pure (.bool !(Op.bytesLess l m || l == m)) := by
  simp [binOp, Op.stringOp, strB_toList]
theorem grove_ge (l m : List UInt8) (h : (!(Op.bytesLess l m || l == m)) = false) : groveN l ≤ groveN m := by
  rw [Bool.not_eq_false', Bool.or_eq_true] at h
  rcases h with h | h
  · exact grove_mono l m h
  · rw [beq_iff_eq.1 h]
    exact Nat.le_refl _

set_option maxRecDepth 100000 in
set_option maxHeartbeats 8000000 in
theorem trees_few (l m : List UInt8) (n : Nat) (w : World) (hl : l.length ≤ 300) (hm : m.length ≤ 300) (hn : n < 4294967296) :
    Calls Try.prog 5 #[.string (strB l), .string (strB m), .int .u32 (n : Nat)] w fun e w' => e = .returned (.bool true) ∧ Below w.heap.size w w' := by
  have g1 : ¬ (300 : Int) < (strB l).size := by rw [strB_size]; omega
  have g2 : ¬ (300 : Int) < (strB m).size := by rw [strB_size]; omega
  have hnot : ∀ (x : Bool) (w : World), (Op.unary .not (.bool x)).run Try.prog w = .ok (.bool (!x)) w := fun _ _ => rfl
  have e1 := strB_toList l
  have e2 := strB_toList m
  have hA := strB_append l m
  have hz : ¬ 9223372036854775807 < (strB l).size + (strB m).size := by rw [strB_size, strB_size]; omega
  have k0 : (0 : Int) ≤ (groveN l : Nat) := by omega
  have k1 : ((groveN l : Nat) : Int) ≤ 3 := by have := grove_le l; omega
  have HM := Lib.hid (grove_ge l m)
  have hgt := gtr_is l m
  obtain ⟨G, hG⟩ : ∃ G, G = !(Op.bytesLess l m || l == m) := ⟨_, rfl⟩
  rw [← hG] at HM hgt
  clear hG
  have HI := Lib.hid (grove_index l)
  have HE := Lib.hid (begins_len l m)
  have HG := Lib.hid (grove_calls l)
  have HG2 := Lib.hid (grove_calls m)
  have HGI := Lib.hid (fun k => grove_calls (indexL l k))
  obtain ⟨a, ha⟩ : ∃ a, a = groveN l := ⟨_, rfl⟩
  obtain ⟨b, hb⟩ : ∃ b, b = groveN m := ⟨_, rfl⟩
  rw [← ha] at k0 k1 HM HI HG
  rw [← hb] at HM HG2
  clear ha hb
  cases G with
  | false =>
    have hab : (a : Int) ≤ b := by have := HM.out rfl; omega
    cases hk : keyOK l with
    | true =>
      have HI' := Lib.hid (fun k => HI.out k hk)
      cases hg : begins l m with
      | true =>
        have hlen : ((strB m).size : Int) ≤ (strB l).size := by rw [strB_size, strB_size]; have := HE.out hg; omega
        go_enter Try.func5, Try.ntmps5
        go_wp2_with fail
        (with_reducible refine (HG.out _).mono ?_)
        rintro e w1 ⟨rfl, rfl⟩
        go_wp2_with fail
        (with_reducible refine (HG2.out _).mono ?_)
        rintro e w2 ⟨rfl, rfl⟩
        go_wp2_with fail
        (with_reducible refine (awake_true _).mono ?_)
        rintro e w3 ⟨rfl, hB⟩
        have B3 := Lib.hid hB
        clear hB
        go_wp2_with fail
        (with_reducible refine (key_calls l _).mono ?_)
        rintro e w4 ⟨rfl, rfl⟩
        rw [hk]
        go_wp2_with fail
        (with_reducible refine (index_calls l ((n : Int) / 2) _ (by omega) (by omega) (by omega)).mono ?_)
        rintro e w5 ⟨rfl, hB⟩
        have B5 := Lib.hid (below_two B3.out hB)
        clear hB B3
        go_wp2_with fail
        (with_reducible refine (HGI.out _ _).mono ?_)
        rintro e w6 ⟨rfl, rfl⟩
        rw [HI'.out]
        go_wp2_with fail
        (with_reducible refine (begins_calls (l ++ m) l _).mono ?_)
        rintro e w7 ⟨rfl, rfl⟩
        rw [begins_app]
        go_wp2_with fail
        (with_reducible refine (begins_calls l m _).mono ?_)
        rintro e w8 ⟨rfl, rfl⟩
        rw [hg]
        go_wp2_with fail
        go_ret
        exact ⟨rfl, B5.out⟩
      | false =>
        go_enter Try.func5, Try.ntmps5
        go_wp2_with fail
        (with_reducible refine (HG.out _).mono ?_)
        rintro e w1 ⟨rfl, rfl⟩
        go_wp2_with fail
        (with_reducible refine (HG2.out _).mono ?_)
        rintro e w2 ⟨rfl, rfl⟩
        go_wp2_with fail
        (with_reducible refine (awake_true _).mono ?_)
        rintro e w3 ⟨rfl, hB⟩
        have B3 := Lib.hid hB
        clear hB
        go_wp2_with fail
        (with_reducible refine (key_calls l _).mono ?_)
        rintro e w4 ⟨rfl, rfl⟩
        rw [hk]
        go_wp2_with fail
        (with_reducible refine (index_calls l ((n : Int) / 2) _ (by omega) (by omega) (by omega)).mono ?_)
        rintro e w5 ⟨rfl, hB⟩
        have B5 := Lib.hid (below_two B3.out hB)
        clear hB B3
        go_wp2_with fail
        (with_reducible refine (HGI.out _ _).mono ?_)
        rintro e w6 ⟨rfl, rfl⟩
        rw [HI'.out]
        go_wp2_with fail
        (with_reducible refine (begins_calls (l ++ m) l _).mono ?_)
        rintro e w7 ⟨rfl, rfl⟩
        rw [begins_app]
        go_wp2_with fail
        (with_reducible refine (begins_calls l m _).mono ?_)
        rintro e w8 ⟨rfl, rfl⟩
        rw [hg]
        go_wp2_with fail
        go_ret
        exact ⟨rfl, B5.out⟩
    | false =>
      cases hg : begins l m with
      | true =>
        have hlen : ((strB m).size : Int) ≤ (strB l).size := by rw [strB_size, strB_size]; have := HE.out hg; omega
        go_enter Try.func5, Try.ntmps5
        go_wp2_with fail
        (with_reducible refine (HG.out _).mono ?_)
        rintro e w1 ⟨rfl, rfl⟩
        go_wp2_with fail
        (with_reducible refine (HG2.out _).mono ?_)
        rintro e w2 ⟨rfl, rfl⟩
        go_wp2_with fail
        (with_reducible refine (awake_true _).mono ?_)
        rintro e w3 ⟨rfl, hB⟩
        have B3 := Lib.hid hB
        clear hB
        go_wp2_with fail
        (with_reducible refine (key_calls l _).mono ?_)
        rintro e w4 ⟨rfl, rfl⟩
        rw [hk]
        go_wp2_with fail
        (with_reducible refine (begins_calls (l ++ m) l _).mono ?_)
        rintro e w7 ⟨rfl, rfl⟩
        rw [begins_app]
        go_wp2_with fail
        (with_reducible refine (begins_calls l m _).mono ?_)
        rintro e w8 ⟨rfl, rfl⟩
        rw [hg]
        go_wp2_with fail
        go_ret
        exact ⟨rfl, B3.out⟩
      | false =>
        go_enter Try.func5, Try.ntmps5
        go_wp2_with fail
        (with_reducible refine (HG.out _).mono ?_)
        rintro e w1 ⟨rfl, rfl⟩
        go_wp2_with fail
        (with_reducible refine (HG2.out _).mono ?_)
        rintro e w2 ⟨rfl, rfl⟩
        go_wp2_with fail
        (with_reducible refine (awake_true _).mono ?_)
        rintro e w3 ⟨rfl, hB⟩
        have B3 := Lib.hid hB
        clear hB
        go_wp2_with fail
        (with_reducible refine (key_calls l _).mono ?_)
        rintro e w4 ⟨rfl, rfl⟩
        rw [hk]
        go_wp2_with fail
        (with_reducible refine (begins_calls (l ++ m) l _).mono ?_)
        rintro e w7 ⟨rfl, rfl⟩
        rw [begins_app]
        go_wp2_with fail
        (with_reducible refine (begins_calls l m _).mono ?_)
        rintro e w8 ⟨rfl, rfl⟩
        rw [hg]
        go_wp2_with fail
        go_ret
        exact ⟨rfl, B3.out⟩
  | true =>
    cases hk : keyOK l with
    | true =>
      have HI' := Lib.hid (fun k => HI.out k hk)
      cases hg : begins l m with
      | true =>
        have hlen : ((strB m).size : Int) ≤ (strB l).size := by rw [strB_size, strB_size]; have := HE.out hg; omega
        go_enter Try.func5, Try.ntmps5
        go_wp2_with fail
        (with_reducible refine (HG.out _).mono ?_)
        rintro e w1 ⟨rfl, rfl⟩
        go_wp2_with fail
        (with_reducible refine (HG2.out _).mono ?_)
        rintro e w2 ⟨rfl, rfl⟩
        go_wp2_with fail
        (with_reducible refine (awake_true _).mono ?_)
        rintro e w3 ⟨rfl, hB⟩
        have B3 := Lib.hid hB
        clear hB
        go_wp2_with fail
        (with_reducible refine (key_calls l _).mono ?_)
        rintro e w4 ⟨rfl, rfl⟩
        rw [hk]
        go_wp2_with fail
        (with_reducible refine (index_calls l ((n : Int) / 2) _ (by omega) (by omega) (by omega)).mono ?_)
        rintro e w5 ⟨rfl, hB⟩
        have B5 := Lib.hid (below_two B3.out hB)
        clear hB B3
        go_wp2_with fail
        (with_reducible refine (HGI.out _ _).mono ?_)
        rintro e w6 ⟨rfl, rfl⟩
        rw [HI'.out]
        go_wp2_with fail
        (with_reducible refine (begins_calls (l ++ m) l _).mono ?_)
        rintro e w7 ⟨rfl, rfl⟩
        rw [begins_app]
        go_wp2_with fail
        (with_reducible refine (begins_calls l m _).mono ?_)
        rintro e w8 ⟨rfl, rfl⟩
        rw [hg]
        go_wp2_with fail
        go_ret
        exact ⟨rfl, B5.out⟩
      | false =>
        go_enter Try.func5, Try.ntmps5
        go_wp2_with fail
        (with_reducible refine (HG.out _).mono ?_)
        rintro e w1 ⟨rfl, rfl⟩
        go_wp2_with fail
        (with_reducible refine (HG2.out _).mono ?_)
        rintro e w2 ⟨rfl, rfl⟩
        go_wp2_with fail
        (with_reducible refine (awake_true _).mono ?_)
        rintro e w3 ⟨rfl, hB⟩
        have B3 := Lib.hid hB
        clear hB
        go_wp2_with fail
        (with_reducible refine (key_calls l _).mono ?_)
        rintro e w4 ⟨rfl, rfl⟩
        rw [hk]
        go_wp2_with fail
        (with_reducible refine (index_calls l ((n : Int) / 2) _ (by omega) (by omega) (by omega)).mono ?_)
        rintro e w5 ⟨rfl, hB⟩
        have B5 := Lib.hid (below_two B3.out hB)
        clear hB B3
        go_wp2_with fail
        (with_reducible refine (HGI.out _ _).mono ?_)
        rintro e w6 ⟨rfl, rfl⟩
        rw [HI'.out]
        go_wp2_with fail
        (with_reducible refine (begins_calls (l ++ m) l _).mono ?_)
        rintro e w7 ⟨rfl, rfl⟩
        rw [begins_app]
        go_wp2_with fail
        (with_reducible refine (begins_calls l m _).mono ?_)
        rintro e w8 ⟨rfl, rfl⟩
        rw [hg]
        go_wp2_with fail
        go_ret
        exact ⟨rfl, B5.out⟩
    | false =>
      cases hg : begins l m with
      | true =>
        have hlen : ((strB m).size : Int) ≤ (strB l).size := by rw [strB_size, strB_size]; have := HE.out hg; omega
        go_enter Try.func5, Try.ntmps5
        go_wp2_with fail
        (with_reducible refine (HG.out _).mono ?_)
        rintro e w1 ⟨rfl, rfl⟩
        go_wp2_with fail
        (with_reducible refine (HG2.out _).mono ?_)
        rintro e w2 ⟨rfl, rfl⟩
        go_wp2_with fail
        (with_reducible refine (awake_true _).mono ?_)
        rintro e w3 ⟨rfl, hB⟩
        have B3 := Lib.hid hB
        clear hB
        go_wp2_with fail
        (with_reducible refine (key_calls l _).mono ?_)
        rintro e w4 ⟨rfl, rfl⟩
        rw [hk]
        go_wp2_with fail
        (with_reducible refine (begins_calls (l ++ m) l _).mono ?_)
        rintro e w7 ⟨rfl, rfl⟩
        rw [begins_app]
        go_wp2_with fail
        (with_reducible refine (begins_calls l m _).mono ?_)
        rintro e w8 ⟨rfl, rfl⟩
        rw [hg]
        go_wp2_with fail
        go_ret
        exact ⟨rfl, B3.out⟩
      | false =>
        go_enter Try.func5, Try.ntmps5
        go_wp2_with fail
        (with_reducible refine (HG.out _).mono ?_)
        rintro e w1 ⟨rfl, rfl⟩
        go_wp2_with fail
        (with_reducible refine (HG2.out _).mono ?_)
        rintro e w2 ⟨rfl, rfl⟩
        go_wp2_with fail
        (with_reducible refine (awake_true _).mono ?_)
        rintro e w3 ⟨rfl, hB⟩
        have B3 := Lib.hid hB
        clear hB
        go_wp2_with fail
        (with_reducible refine (key_calls l _).mono ?_)
        rintro e w4 ⟨rfl, rfl⟩
        rw [hk]
        go_wp2_with fail
        (with_reducible refine (begins_calls (l ++ m) l _).mono ?_)
        rintro e w7 ⟨rfl, rfl⟩
        rw [begins_app]
        go_wp2_with fail
        (with_reducible refine (begins_calls l m _).mono ?_)
        rintro e w8 ⟨rfl, rfl⟩
        rw [hg]
        go_wp2_with fail
        go_ret
        exact ⟨rfl, B3.out⟩

set_option maxRecDepth 100000 in
set_option maxHeartbeats 2000000 in
theorem trees_calls (s t : ByteArray) (n : Nat) (w : World) (hn : n < 4294967296) :
    Calls Try.prog 5 #[.string s, .string t, .int .u32 (n : Nat)] w fun e w' => e = .returned (.bool true) ∧ Below w.heap.size w w' := by
  by_cases hs : s.size ≤ 300
  · by_cases ht : t.size ≤ 300
    · have h := trees_few s.data.toList t.data.toList n w (by rw [len_data]; exact hs) (by rw [len_data]; exact ht) hn
      rw [strB_of, strB_of] at h
      exact h
    · have g1 : ¬ (300 : Int) < s.size := by omega
      have g2 : (300 : Int) < t.size := by omega
      go_enter Try.func5, Try.ntmps5
      go_wp2_with fail
      (with_reducible refine (awake_true _).mono ?_)
      rintro e w3 ⟨rfl, hB3⟩
      go_wp2_with fail
      go_ret
      exact ⟨rfl, hB3⟩
  · have g1 : (300 : Int) < s.size := by omega
    go_enter Try.func5, Try.ntmps5
    go_wp2_with fail
    (with_reducible refine (awake_true _).mono ?_)
    rintro e w3 ⟨rfl, hB3⟩
    go_wp2_with fail
    go_ret
    exact ⟨rfl, hB3⟩
end Go.Proofs.Ytkkflcikjmihaaa
