/- name.Key, name.Bucket, and the document's: what each call does. No statement is proved here. -/
import Derived.Test.YtkkflcikjmihaaaStr
namespace Go.Proofs.Ytkkflcikjmihaaa
open Go.RowKit

theorem ret_bool {a b : Bool} (h : a = b) : Ending.returned (.bool a) = .returned (.bool b) := by rw [h]
theorem keyOK_nil : keyOK [] = false := rfl
theorem keyOK_long (l : List UInt8) (h : ¬ l.length ≤ 24) : keyOK l = false := by
  unfold keyOK
  rw [decide_eq_false h, Bool.false_and, Bool.and_false]
theorem keyOK_short (l : List UInt8) (h : l.length ≤ 24) (he : l.isEmpty = false) : keyOK l = !decide (0 ≤ Lib.indexByte l 0) := by
  unfold keyOK
  rw [decide_eq_true h, he]
  rfl

set_option maxHeartbeats 1000000 in
theorem key_calls (l : List UInt8) (w : World) :
    Calls Try.prog 12 #[.string (strB l)] w fun e w' => e = .returned (.bool (keyOK l)) ∧ w' = w := by
  have e := strB_toList l
  have hnot : ∀ (x : Bool) (w : World), (Op.unary .not (.bool x)).run Try.prog w = .ok (.bool (!x)) w := fun _ _ => rfl
  by_cases he : l.isEmpty = true
  · obtain rfl : l = [] := List.isEmpty_iff.1 he
    rw [keyOK_nil]
    go_enter Try.func12, Try.ntmps12
    go_wp2_with fail
    go_ret
    exact ⟨rfl, rfl⟩
  · have he' : l.isEmpty = false := Bool.eq_false_iff.2 he
    by_cases h : l.length ≤ 24
    · rw [keyOK_short l h he']
      have g : ((strB l).size : Int) ≤ 24 := by rw [strB_size]; omega
      go_enter Try.func12, Try.ntmps12
      go_wp2_with fail
      (with_reducible refine (contains_calls (strB l) 0 _).mono ?_)
      rintro e w1 ⟨rfl, rfl⟩
      go_wp2_with fail
      go_ret
      exact ⟨rfl, rfl⟩
    · rw [keyOK_long l h]
      have g : ¬ ((strB l).size : Int) ≤ 24 := by rw [strB_size]; omega
      go_enter Try.func12, Try.ntmps12
      go_wp2_with fail
      go_ret
      exact ⟨rfl, rfl⟩

theorem at_strB (l : List UInt8) (k : Nat) (h : k < (strB l).size) : (strB l)[k] = l.getD k 0 := by
  rw [strB_size] at h
  rw [List.getD_eq_getElem?_getD, List.getElem?_eq_getElem h]
  rfl

theorem no_zero (l : List UInt8) (k : Nat) (hk : k < l.length) (h : ∀ i < k, l.getD i 0 ≠ 0) (h0 : l.getD k 0 ≠ 0) : ∀ i < k + 1, l.getD i 0 ≠ 0 := by
  intro i hi
  by_cases e : i = k
  · rw [e]; exact h0
  · exact h i (by omega)
theorem all_of (l : List UInt8) (h : ∀ i < l.length, l.getD i 0 ≠ 0) : ∀ b ∈ l, b ≠ 0 := by
  intro b hb
  obtain ⟨i, hi, rfl⟩ := List.mem_iff_getElem.1 hb
  have := h i hi
  rwa [List.getD_eq_getElem?_getD, List.getElem?_eq_getElem hi] at this
theorem zero_in (l : List UInt8) (k : Nat) (hk : k < l.length) (h0 : l.getD k 0 = 0) : keyOK l = false := by
  rw [Bool.eq_false_iff]
  intro h
  obtain ⟨_, _, h3⟩ := (keyOK_is l).1 h
  rw [List.getD_eq_getElem?_getD, List.getElem?_eq_getElem hk] at h0
  exact h3 l[k] (List.getElem_mem hk) h0

set_option maxHeartbeats 1000000 in
theorem rkey_calls (l : List UInt8) (w : World) (hL : l.length ≤ 1000) :
    Calls Try.prog 13 #[.string (strB l)] w fun e w' => e = .returned (.bool (keyOK l)) ∧ w' = w := by
  have hs := strB_size l
  go_enter Try.func13, Try.ntmps13
  go_wp2_with fail
  go_loop [3] (fun vi => ∃ k : Nat, k ≤ l.length ∧ vi = .int .i64 k ∧ Hid (∀ i < k, l.getD i 0 ≠ 0)) (fun vi => l.length - (intOf vi).toNat)
  case atStart => exact ⟨0, Nat.zero_le _, rfl, Lib.hid fun i hi => by omega⟩
  case round =>
    obtain ⟨k, hk, rfl, H⟩ := hrel
    by_cases h : k < l.length
    · have g : (k : Int) < (strB l).size := by omega
      obtain ⟨x, hx⟩ : ∃ x, x = l.getD k 0 := ⟨_, rfl⟩
      have ha : ∀ h', (strB l)[k]'h' = x := fun h' => (at_strB l k h').trans hx.symm
      have HX := Lib.hid hx
      have hb := x.toNat_lt
      clear hx
      by_cases hz : x = 0
      · have HZ := Lib.hid (zero_in l k h (HX.out.symm.trans hz))
        have hz' : x.toNat = 0 := by rw [hz]; rfl
        clear hz
        go_wp2_with fail
        go_ret
        exact ⟨ret_bool HZ.out.symm, rfl⟩
      · have HZ := Lib.hid (no_zero l k h H.out (fun e => hz (HX.out.trans e)))
        have hz' : ¬ x.toNat = 0 := fun e => hz (UInt8.toNat_inj.1 e)
        clear hz
        go_wp2_with fail
        go_round
        case rel => exact ⟨k + 1, by omega, by go_num, HZ⟩
        case measure => simp [intOf]; omega
    · obtain rfl : k = l.length := by omega
      have HK := Lib.hid (all_of l H.out)
      by_cases h1 : 1 ≤ l.length
      · by_cases h2 : l.length ≤ 24
        · have HT := Lib.hid ((keyOK_is l).2 ⟨h1, h2, HK.out⟩)
          have g2 : (l.length : Int) ≤ 24 := by omega
          go_wp2_with fail
          go_ret
          exact ⟨ret_bool HT.out.symm, rfl⟩
        · have HT := Lib.hid (keyOK_long l h2)
          have g2 : ¬ (l.length : Int) ≤ 24 := by omega
          go_wp2_with fail
          go_ret
          exact ⟨ret_bool HT.out.symm, rfl⟩
      · obtain rfl : l = [] := List.eq_nil_of_length_eq_zero (by omega)
        go_wp2_with fail
        go_ret
        exact ⟨rfl, rfl⟩

theorem bucketOK_is (l : List UInt8) : bucketOK l = true ↔ 3 ≤ l.length ∧ l.length ≤ 12 ∧ (∀ i < l.length, okB (l.getD i 0) = true) ∧ (l.getD 0 0).toNat ≠ 45 ∧ (l.getD (l.length - 1) 0).toNat ≠ 45 := by
  unfold bucketOK
  simp only [Bool.and_eq_true, decide_eq_true_iff, bne_iff_ne, List.all_eq_true]
  constructor
  · rintro ⟨a, b, c, d, e⟩
    refine ⟨a, b, ?_, d, e⟩
    intro i hi
    rw [List.getD_eq_getElem?_getD, List.getElem?_eq_getElem hi]
    exact c _ (List.getElem_mem hi)
  · rintro ⟨a, b, c, d, e⟩
    refine ⟨a, b, ?_, d, e⟩
    intro x hx
    obtain ⟨i, hi, rfl⟩ := List.mem_iff_getElem.1 hx
    have := c i hi
    rwa [List.getD_eq_getElem?_getD, List.getElem?_eq_getElem hi] at this

theorem bucket_not (l : List UInt8) (h : ¬ (3 ≤ l.length ∧ l.length ≤ 12)) : bucketOK l = false := by
  rw [Bool.eq_false_iff]
  intro k
  obtain ⟨a, b, _⟩ := (bucketOK_is l).1 k
  exact h ⟨a, b⟩
theorem bucket_bad (l : List UInt8) (i : Nat) (hi : i < l.length) (h : okB (l.getD i 0) = false) : bucketOK l = false := by
  rw [Bool.eq_false_iff]
  intro k
  obtain ⟨_, _, c, _⟩ := (bucketOK_is l).1 k
  rw [c i hi] at h
  cases h
theorem bucket_first (l : List UInt8) (h : (l.getD 0 0).toNat = 45) : bucketOK l = false := by
  rw [Bool.eq_false_iff]
  intro k
  exact ((bucketOK_is l).1 k).2.2.2.1 h
theorem bucket_last (l : List UInt8) (h : (l.getD (l.length - 1) 0).toNat = 45) : bucketOK l = false := by
  rw [Bool.eq_false_iff]
  intro k
  exact ((bucketOK_is l).1 k).2.2.2.2 h
theorem ok_more (l : List UInt8) (k : Nat) (h : ∀ i < k, okB (l.getD i 0) = true) (h0 : okB (l.getD k 0) = true) : ∀ i < k + 1, okB (l.getD i 0) = true := by
  intro i hi
  by_cases e : i = k
  · rw [e]; exact h0
  · exact h i (by omega)

set_option maxHeartbeats 1000000 in
theorem bucket_calls (l : List UInt8) (w : World) :
    Calls Try.prog 10 #[.string (strB l)] w fun e w' => e = .returned (.bool (bucketOK l)) ∧ w' = w := by
  have hs := strB_size l
  have hnot : ∀ (x : Bool) (w : World), (Op.unary .not (.bool x)).run Try.prog w = .ok (.bool (!x)) w := fun _ _ => rfl
  by_cases hlen : 3 ≤ l.length ∧ l.length ≤ 12
  · obtain ⟨h1, h2⟩ := hlen
    have g1 : ¬ (l.length : Int) < 3 := by omega
    have g2 : ¬ 12 < (l.length : Int) := by omega
    go_enter Try.func10, Try.ntmps10
    go_wp2_with fail
    go_loop [14] (fun vi => ∃ k : Nat, k ≤ l.length ∧ vi = .int .i64 k ∧ Hid (∀ i < k, okB (l.getD i 0) = true)) (fun vi => l.length - (intOf vi).toNat)
    case atStart => exact ⟨0, Nat.zero_le _, rfl, Lib.hid fun i hi => by omega⟩
    case round =>
      obtain ⟨k, hk, rfl, H⟩ := hrel
      by_cases h : k < l.length
      · have g : (k : Int) < (strB l).size := by omega
        obtain ⟨x, hx⟩ : ∃ x, x = l.getD k 0 := ⟨_, rfl⟩
        have ha : ∀ h', (strB l)[k]'h' = x := fun h' => (at_strB l k h').trans hx.symm
        have HX := Lib.hid hx
        have hb := x.toNat_lt
        clear hx
        cases hz : okB x with
        | false =>
          have HZ := Lib.hid (bucket_bad l k h (by rw [← HX.out]; exact hz))
          go_wp2_with fail
          (with_reducible refine (nameByte_calls x _).mono ?_)
          rintro e w1 ⟨rfl, rfl⟩
          rw [hz]
          go_wp2_with fail
          go_ret
          exact ⟨ret_bool HZ.out.symm, rfl⟩
        | true =>
          have HZ := Lib.hid (ok_more l k H.out (by rw [← HX.out]; exact hz))
          go_wp2_with fail
          (with_reducible refine (nameByte_calls x _).mono ?_)
          rintro e w1 ⟨rfl, rfl⟩
          rw [hz]
          go_wp2_with fail
          go_round
          case rel => exact ⟨k + 1, by omega, by go_num, HZ⟩
          case measure => simp [intOf]; omega
      · obtain rfl : k = l.length := by omega
        obtain ⟨x, hx⟩ : ∃ x, x = l.getD 0 0 := ⟨_, rfl⟩
        obtain ⟨y, hy⟩ : ∃ y, y = l.getD (l.length - 1) 0 := ⟨_, rfl⟩
        have ha : ∀ h', (strB l)[0]'h' = x := fun h' => (at_strB l 0 h').trans hx.symm
        have hc : ∀ h', (strB l)[l.length - 1]'h' = y := fun h' => (at_strB l (l.length - 1) h').trans hy.symm
        have HX := Lib.hid hx
        have HY := Lib.hid hy
        have hb := x.toNat_lt
        have hb' := y.toNat_lt
        clear hx hy
        by_cases hz : x.toNat = 45
        · have HZ := Lib.hid (bucket_first l (by rw [← HX.out]; exact hz))
          go_wp2_with fail
          go_ret
          exact ⟨ret_bool HZ.out.symm, rfl⟩
        · by_cases hz2 : y.toNat = 45
          · have HZ := Lib.hid (bucket_last l (by rw [← HY.out]; exact hz2))
            go_wp2_with fail
            go_ret
            exact ⟨ret_bool HZ.out.symm, rfl⟩
          · have HZ := Lib.hid ((bucketOK_is l).2 ⟨h1, h2, H.out, by rw [← HX.out]; exact hz, by rw [← HY.out]; exact hz2⟩)
            go_wp2_with fail
            go_ret
            exact ⟨ret_bool (by rw [HZ.out]; simp; omega), rfl⟩
  · rw [bucket_not l hlen]
    by_cases h3 : l.length < 3
    · have g1 : (l.length : Int) < 3 := by omega
      go_enter Try.func10, Try.ntmps10
      go_wp2_with fail
      go_ret
      exact ⟨rfl, rfl⟩
    · have g1 : ¬ (l.length : Int) < 3 := by omega
      have g2 : 12 < (l.length : Int) := by omega
      go_enter Try.func10, Try.ntmps10
      go_wp2_with fail
      go_ret
      exact ⟨rfl, rfl⟩

/-- What the document's loop asks of each place. -/
def may (x k n : Nat) : Prop := (97 ≤ x ∧ x ≤ 122) ∨ (48 ≤ x ∧ x ≤ 57) ∨ (x = 45 ∧ 0 < k ∧ k + 1 < n)
theorem okB_is (b : UInt8) : okB b = true ↔ (97 ≤ b.toNat ∧ b.toNat ≤ 122) ∨ (48 ≤ b.toNat ∧ b.toNat ≤ 57) ∨ b.toNat = 45 := by
  unfold okB
  simp only [Bool.or_eq_true, Bool.and_eq_true, decide_eq_true_iff, beq_iff_eq, or_assoc]
theorem may_more (l : List UInt8) (k : Nat) (h : ∀ i < k, may (l.getD i 0).toNat i l.length) (h0 : may (l.getD k 0).toNat k l.length) : ∀ i < k + 1, may (l.getD i 0).toNat i l.length := by
  intro i hi
  by_cases e : i = k
  · rw [e]; exact h0
  · exact h i (by omega)
theorem may_good (l : List UInt8) (h1 : 3 ≤ l.length) (h2 : l.length ≤ 12) (h : ∀ i < l.length, may (l.getD i 0).toNat i l.length) : bucketOK l = true := by
  refine (bucketOK_is l).2 ⟨h1, h2, ?_, ?_, ?_⟩
  · intro i hi
    rw [okB_is]
    have := h i hi
    unfold may at this
    omega
  · have := h 0 (by omega)
    unfold may at this
    omega
  · have := h (l.length - 1) (by omega)
    unfold may at this
    omega
theorem may_bad (l : List UInt8) (k : Nat) (hk : k < l.length) (h : ¬ may (l.getD k 0).toNat k l.length) : bucketOK l = false := by
  rw [Bool.eq_false_iff]
  intro hb
  obtain ⟨_, _, c, d, e⟩ := (bucketOK_is l).1 hb
  have := (okB_is _).1 (c k hk)
  apply h
  unfold may
  rcases this with h | h | h
  · exact Or.inl h
  · exact Or.inr (Or.inl h)
  · refine Or.inr (Or.inr ⟨h, ?_, ?_⟩)
    · rcases Nat.eq_zero_or_pos k with rfl | h2
      · exact absurd h d
      · exact h2
    · by_cases h3 : k + 1 < l.length
      · exact h3
      · obtain rfl : k = l.length - 1 := by omega
        exact absurd h e

set_option maxHeartbeats 2000000 in
theorem rbucket_calls (l : List UInt8) (w : World) (hL : l.length ≤ 1000) :
    Calls Try.prog 11 #[.string (strB l)] w fun e w' => e = .returned (.bool (bucketOK l)) ∧ w' = w := by
  have hs := strB_size l
  have hnot : ∀ (x : Bool) (w : World), (Op.unary .not (.bool x)).run Try.prog w = .ok (.bool (!x)) w := fun _ _ => rfl
  go_enter Try.func11, Try.ntmps11
  go_wp2_with fail
  go_loop [3] (fun vi => ∃ k : Nat, k ≤ l.length ∧ vi = .int .i64 k ∧ Hid (∀ i < k, may (l.getD i 0).toNat i l.length)) (fun vi => l.length - (intOf vi).toNat)
  case atStart => exact ⟨0, Nat.zero_le _, rfl, Lib.hid fun i hi => by omega⟩
  case round =>
    obtain ⟨k, hk, rfl, H⟩ := hrel
    by_cases h : k < l.length
    · have g : (k : Int) < (strB l).size := by omega
      obtain ⟨x, hx⟩ : ∃ x, x = l.getD k 0 := ⟨_, rfl⟩
      have ha : ∀ h', (strB l)[k]'h' = x := fun h' => (at_strB l k h').trans hx.symm
      have HM : Hid (may x.toNat k l.length → ∀ i < k + 1, may (l.getD i 0).toNat i l.length) := fun h => may_more l k H.out (by rw [← hx]; exact h)
      have HB : Hid (¬ may x.toNat k l.length → bucketOK l = false) := fun hn => may_bad l k h (by rw [← hx]; exact hn)
      have hb := x.toNat_lt
      clear hx
      obtain ⟨n, hn⟩ : ∃ n, n = x.toNat := ⟨_, rfl⟩
      rw [← hn] at hb HM HB
      have hn' := hn.symm
      clear hn
      have hr : n < 45 ∨ n = 45 ∨ (45 < n ∧ n < 48) ∨ (48 ≤ n ∧ n ≤ 57) ∨ (57 < n ∧ n < 97) ∨ (97 ≤ n ∧ n ≤ 122) ∨ 122 < n := by omega
      rcases hr with r | r | ⟨r, r'⟩ | ⟨r, r'⟩ | ⟨r, r'⟩ | ⟨r, r'⟩ | r
      · have g1 : ¬ (97 : Int) ≤ n := by omega
        have g2 : ¬ (48 : Int) ≤ n := by omega
        have g3 : ¬ (n : Int) = 45 := by omega
        have HZ := Lib.hid (HB.out (by unfold may; omega))
        go_wp2_with fail
        go_ret
        exact ⟨ret_bool HZ.out.symm, rfl⟩
      · have g1 : ¬ (97 : Int) ≤ n := by omega
        have g2 : ¬ (48 : Int) ≤ n := by omega
        subst r
        by_cases k0 : 0 < k
        · have k0' : (0 : Int) < k := by omega
          by_cases k1 : k + 1 < l.length
          · have k1' : (k : Int) < l.length - 1 := by omega
            have HZ := Lib.hid (HM.out (by unfold may; omega))
            go_wp2_with fail
            go_round
            case rel => exact ⟨k + 1, by omega, by go_num, HZ⟩
            case measure => simp [intOf]; omega
          · have k1' : ¬ (k : Int) < l.length - 1 := by omega
            have HZ := Lib.hid (HB.out (by unfold may; omega))
            go_wp2_with fail
            go_ret
            exact ⟨ret_bool HZ.out.symm, rfl⟩
        · have k0' : ¬ (0 : Int) < k := by omega
          have HZ := Lib.hid (HB.out (by unfold may; omega))
          go_wp2_with fail
          go_ret
          exact ⟨ret_bool HZ.out.symm, rfl⟩
      · have g1 : ¬ (97 : Int) ≤ n := by omega
        have g2 : ¬ (48 : Int) ≤ n := by omega
        have g3 : ¬ (n : Int) = 45 := by omega
        have HZ := Lib.hid (HB.out (by unfold may; omega))
        go_wp2_with fail
        go_ret
        exact ⟨ret_bool HZ.out.symm, rfl⟩
      · have g1 : ¬ (97 : Int) ≤ n := by omega
        have g2 : (48 : Int) ≤ n := by omega
        have g4 : (n : Int) ≤ 57 := by omega
        have g3 : ¬ (n : Int) = 45 := by omega
        have HZ := Lib.hid (HM.out (by unfold may; omega))
        go_wp2_with fail
        go_round
        case rel => exact ⟨k + 1, by omega, by go_num, HZ⟩
        case measure => simp [intOf]; omega
      · have g1 : ¬ (97 : Int) ≤ n := by omega
        have g2 : (48 : Int) ≤ n := by omega
        have g4 : ¬ (n : Int) ≤ 57 := by omega
        have g3 : ¬ (n : Int) = 45 := by omega
        have HZ := Lib.hid (HB.out (by unfold may; omega))
        go_wp2_with fail
        go_ret
        exact ⟨ret_bool HZ.out.symm, rfl⟩
      · have g1 : (97 : Int) ≤ n := by omega
        have g4 : (n : Int) ≤ 122 := by omega
        have g3 : ¬ (n : Int) = 45 := by omega
        have HZ := Lib.hid (HM.out (by unfold may; omega))
        go_wp2_with fail
        go_round
        case rel => exact ⟨k + 1, by omega, by go_num, HZ⟩
        case measure => simp [intOf]; omega
      · have g1 : (97 : Int) ≤ n := by omega
        have g4 : ¬ (n : Int) ≤ 122 := by omega
        have g2 : (48 : Int) ≤ n := by omega
        have g5 : ¬ (n : Int) ≤ 57 := by omega
        have g3 : ¬ (n : Int) = 45 := by omega
        have HZ := Lib.hid (HB.out (by unfold may; omega))
        go_wp2_with fail
        go_ret
        exact ⟨ret_bool HZ.out.symm, rfl⟩
    · obtain rfl : k = l.length := by omega
      by_cases h1 : 3 ≤ l.length
      · by_cases h2 : l.length ≤ 12
        · have HT := Lib.hid (may_good l h1 h2 H.out)
          have g1 : 3 ≤ (l.length : Int) := by omega
          have g2 : (l.length : Int) ≤ 12 := by omega
          go_wp2_with fail
          go_ret
          exact ⟨ret_bool HT.out.symm, rfl⟩
        · have HT := Lib.hid (bucket_not l (by omega))
          have g1 : 3 ≤ (l.length : Int) := by omega
          have g2 : ¬ (l.length : Int) ≤ 12 := by omega
          go_wp2_with fail
          go_ret
          exact ⟨ret_bool HT.out.symm, rfl⟩
      · have HT := Lib.hid (bucket_not l (by omega))
        have g1 : ¬ 3 ≤ (l.length : Int) := by omega
        go_wp2_with fail
        go_ret
        exact ⟨ret_bool HT.out.symm, rfl⟩
end Go.Proofs.Ytkkflcikjmihaaa
