/- NameRules: the walk. No statement is proved here. -/
import Derived.Test.YtkkflcikjmihaaaRow
namespace Go.Proofs.Ytkkflcikjmihaaa
open Go.RowKit

theorem bucket_set (l : List UInt8) (k : Nat) (c : UInt8) (hk : k < l.length) (h1 : 97 ≤ c.toNat) (h2 : c.toNat ≤ 122) (h : bucketOK l = true) : bucketOK (l.set k c) = true := by
  obtain ⟨a, b, o, f, g⟩ := (bucketOK_is l).1 h
  refine (bucketOK_is _).2 ⟨by rw [List.length_set]; exact a, by rw [List.length_set]; exact b, ?_, ?_, ?_⟩
  · intro i hi
    rw [List.length_set] at hi
    rw [getD_set _ _ _ _ hk]
    split
    · rw [okB_is]; omega
    · exact o i hi
  · rw [getD_set _ _ _ _ hk]
    split
    · omega
    · exact f
  · rw [getD_set _ _ _ _ hk, List.length_set]
    split
    · omega
    · exact g
theorem key_set (l : List UInt8) (k : Nat) (c : UInt8) (h1 : 97 ≤ c.toNat) (h : keyOK l = true) : keyOK (l.set k c) = true := by
  obtain ⟨a, b, o⟩ := (keyOK_is l).1 h
  refine (keyOK_is _).2 ⟨by rw [List.length_set]; exact a, by rw [List.length_set]; exact b, ?_⟩
  intro x hx
  rcases List.mem_or_eq_of_mem_set hx with h | rfl
  · exact o x h
  · rintro rfl
    exact absurd h1 (by decide)

def sizeV : Value → Nat
  | .string s => s.size
  | _ => 0

set_option maxRecDepth 100000 in
set_option maxHeartbeats 2000000 in
theorem rules_few (l : List UInt8) (a c : Nat) (w : World) (h1 : 1 ≤ l.length) (h2 : l.length ≤ 100) (ha : a < 256) (hc : c < 256) :
    Calls Try.prog 6 #[.string (strB l), .int .u8 (a : Nat), .int .u8 (c : Nat)] w fun e w' => e = .returned (.bool true) ∧ Below w.heap.size w w' := by
  have hnot : ∀ (x : Bool) (w : World), (Op.unary .not (.bool x)).run Try.prog w = .ok (.bool (!x)) w := fun _ _ => rfl
  have hs := strB_size l
  have g1 : ¬ (100 : Int) < l.length := by omega
  have g2 : ¬ (l.length : Int) = 0 := by omega
  obtain ⟨C, hC⟩ : ∃ C : UInt8, (97 : Int) + (c : Int) % 26 = ((C.toNat : Nat) : Int) := by
    refine ⟨UInt8.ofNat (97 + c % 26), ?_⟩
    rw [UInt8.toNat_ofNat']
    omega
  have hC1 : 97 ≤ C.toNat := by omega
  have hC2 : C.toNat ≤ 122 := by omega
  have hcv := run_bytes_of_string (P := Try.prog) w 9 35 5 (strB l) Try.underlying9 Try.underlying35 Try.underlying5
  generalize grownCap w (strB l).size 0 5 = cap at hcv
  have hk : a % l.length < l.length := Nat.mod_lt _ (by omega)
  have hR := RowB.new w l cap
  have c1 := hR.cell hk
  have c2 := hR.free hk
  have hR2 := RowB.keep (w' := ((w.alloc (.cells (bytesRow (strB l) cap) 5 ((bytesRow (strB l) cap).size, (bytesRow (strB l) cap).size + 1))).setCell ⟨w.heap.size, a % l.length, none⟩ (.int .u8 ((C.toNat : Nat) : Int))).drew) (hR.set hk C) rfl
  have hcv2 := hR2.back cap
  rw [List.length_set] at hcv2
  have HB0 : Hid (Below w.heap.size w ((w.alloc (.cells (bytesRow (strB l) cap) 5 ((bytesRow (strB l) cap).size, (bytesRow (strB l) cap).size + 1))).setCell ⟨w.heap.size, a % l.length, none⟩ (.int .u8 ((C.toNat : Nat) : Int))).drew) :=
    Lib.hid ((((Below.refl w.heap.size w).alloc (Nat.le_refl _) _).setCell (Nat.le_refl _) _).drew)
  have HBu := Lib.hid (bucket_set l (a % l.length) C hk hC1 hC2)
  have HKe := Lib.hid (key_set l (a % l.length) C hC1)
  clear hR hR2
  go_enter Try.func6, Try.ntmps6
  go_wp2_with fail
  clear hcv hcv2 c1 c2
  generalize ((w.alloc (.cells (bytesRow (strB l) cap) 5 ((bytesRow (strB l) cap).size, (bytesRow (strB l) cap).size + 1))).setCell ⟨w.heap.size, a % l.length, none⟩ (.int .u8 ((C.toNat : Nat) : Int))).drew = W0 at *
  go_loop [11] (fun v => ∃ x : List UInt8, v = .string (strB x) ∧ x.length ≤ 100) (fun v => 101 - sizeV v)
  case atStart => exact ⟨l, rfl, h2⟩
  case round =>
    obtain ⟨x, rfl, hx⟩ := hrel
    have hxs := strB_size x
    by_cases h24 : x.length ≤ 24
    · have g3 : (x.length : Int) ≤ 24 := by omega
      have hz : ¬ 9223372036854775807 < (strB x).size + (⟨#[97]⟩ : ByteArray).size := by rw [strB_size]; show ¬ 9223372036854775807 < x.length + 1; omega
      have HA : Hid (strB x ++ (⟨#[97]⟩ : ByteArray) = strB (x ++ [97])) := strB_append x [97]
      go_wp2_with fail
      go_round
      case rel => exact ⟨x ++ [97], congrArg Value.string HA.out, by simp; omega⟩
      case measure =>
        rw [HA.out]
        simp [sizeV, strB_size]
        omega
    · have g3 : ¬ (x.length : Int) ≤ 24 := by omega
      have HX1 := Lib.hid (keyOK_long x h24)
      have HX2 := Lib.hid (bucket_not x (by omega))
      cases hb : bucketOK l with
      | true =>
        cases hke : keyOK l with
        | true =>
          have HB2 := Lib.hid (HBu.out hb)
          have HK2 := Lib.hid (HKe.out hke)
          go_wp2_with fail
          (with_reducible refine (awake_true _).mono ?_)
          rintro e w3 ⟨rfl, hB⟩
          have B3 := Lib.hid (below_two HB0.out hB)
          clear hB
          go_wp2_with fail
          (with_reducible refine (bucket_calls l _).mono ?_)
          rintro e w4 ⟨rfl, rfl⟩
          rw [hb]
          go_wp2_with fail
          (with_reducible refine (bucket_calls (l.set (a % l.length) C) _).mono ?_)
          rintro e w5 ⟨rfl, rfl⟩
          rw [HB2.out]
          go_wp2_with fail
          (with_reducible refine (key_calls l _).mono ?_)
          rintro e w6 ⟨rfl, rfl⟩
          rw [hke]
          go_wp2_with fail
          (with_reducible refine (key_calls (l.set (a % l.length) C) _).mono ?_)
          rintro e w7 ⟨rfl, rfl⟩
          rw [HK2.out]
          go_wp2_with fail
          (with_reducible refine (key_calls x _).mono ?_)
          rintro e w8 ⟨rfl, rfl⟩
          rw [HX1.out]
          go_wp2_with fail
          (with_reducible refine (bucket_calls x _).mono ?_)
          rintro e w9 ⟨rfl, rfl⟩
          rw [HX2.out]
          go_wp2_with fail
          go_ret
          exact ⟨rfl, B3.out⟩
        | false =>
          have HB2 := Lib.hid (HBu.out hb)
          go_wp2_with fail
          (with_reducible refine (awake_true _).mono ?_)
          rintro e w3 ⟨rfl, hB⟩
          have B3 := Lib.hid (below_two HB0.out hB)
          clear hB
          go_wp2_with fail
          (with_reducible refine (bucket_calls l _).mono ?_)
          rintro e w4 ⟨rfl, rfl⟩
          rw [hb]
          go_wp2_with fail
          (with_reducible refine (bucket_calls (l.set (a % l.length) C) _).mono ?_)
          rintro e w5 ⟨rfl, rfl⟩
          rw [HB2.out]
          go_wp2_with fail
          (with_reducible refine (key_calls l _).mono ?_)
          rintro e w6 ⟨rfl, rfl⟩
          rw [hke]
          go_wp2_with fail
          (with_reducible refine (key_calls x _).mono ?_)
          rintro e w8 ⟨rfl, rfl⟩
          rw [HX1.out]
          go_wp2_with fail
          (with_reducible refine (bucket_calls x _).mono ?_)
          rintro e w9 ⟨rfl, rfl⟩
          rw [HX2.out]
          go_wp2_with fail
          go_ret
          exact ⟨rfl, B3.out⟩
      | false =>
        cases hke : keyOK l with
        | true =>
          have HK2 := Lib.hid (HKe.out hke)
          go_wp2_with fail
          (with_reducible refine (awake_true _).mono ?_)
          rintro e w3 ⟨rfl, hB⟩
          have B3 := Lib.hid (below_two HB0.out hB)
          clear hB
          go_wp2_with fail
          (with_reducible refine (bucket_calls l _).mono ?_)
          rintro e w4 ⟨rfl, rfl⟩
          rw [hb]
          go_wp2_with fail
          (with_reducible refine (key_calls l _).mono ?_)
          rintro e w6 ⟨rfl, rfl⟩
          rw [hke]
          go_wp2_with fail
          (with_reducible refine (key_calls (l.set (a % l.length) C) _).mono ?_)
          rintro e w7 ⟨rfl, rfl⟩
          rw [HK2.out]
          go_wp2_with fail
          (with_reducible refine (key_calls x _).mono ?_)
          rintro e w8 ⟨rfl, rfl⟩
          rw [HX1.out]
          go_wp2_with fail
          (with_reducible refine (bucket_calls x _).mono ?_)
          rintro e w9 ⟨rfl, rfl⟩
          rw [HX2.out]
          go_wp2_with fail
          go_ret
          exact ⟨rfl, B3.out⟩
        | false =>
          go_wp2_with fail
          (with_reducible refine (awake_true _).mono ?_)
          rintro e w3 ⟨rfl, hB⟩
          have B3 := Lib.hid (below_two HB0.out hB)
          clear hB
          go_wp2_with fail
          (with_reducible refine (bucket_calls l _).mono ?_)
          rintro e w4 ⟨rfl, rfl⟩
          rw [hb]
          go_wp2_with fail
          (with_reducible refine (key_calls l _).mono ?_)
          rintro e w6 ⟨rfl, rfl⟩
          rw [hke]
          go_wp2_with fail
          (with_reducible refine (key_calls x _).mono ?_)
          rintro e w8 ⟨rfl, rfl⟩
          rw [HX1.out]
          go_wp2_with fail
          (with_reducible refine (bucket_calls x _).mono ?_)
          rintro e w9 ⟨rfl, rfl⟩
          rw [HX2.out]
          go_wp2_with fail
          go_ret
          exact ⟨rfl, B3.out⟩

set_option maxRecDepth 100000 in
set_option maxHeartbeats 2000000 in
theorem rules_calls (s : ByteArray) (a c : Nat) (w : World) (ha : a < 256) (hc : c < 256) :
    Calls Try.prog 6 #[.string s, .int .u8 (a : Nat), .int .u8 (c : Nat)] w fun e w' => e = .returned (.bool true) ∧ Below w.heap.size w w' := by
  by_cases h100 : s.size ≤ 100
  · by_cases h1 : 1 ≤ s.size
    · have h := rules_few s.data.toList a c w (by rw [len_data]; exact h1) (by rw [len_data]; exact h100) ha hc
      rw [strB_of] at h
      exact h
    · have g1 : ¬ (100 : Int) < s.size := by omega
      have g2 : s.size = 0 := by omega
      go_enter Try.func6, Try.ntmps6
      go_wp2_with fail
      (with_reducible refine (awake_true _).mono ?_)
      rintro e w3 ⟨rfl, hB3⟩
      go_wp2_with fail
      go_ret
      exact ⟨rfl, hB3⟩
  · have g1 : (100 : Int) < s.size := by omega
    go_enter Try.func6, Try.ntmps6
    go_wp2_with fail
    (with_reducible refine (awake_true _).mono ?_)
    rintro e w3 ⟨rfl, hB3⟩
    go_wp2_with fail
    go_ret
    exact ⟨rfl, hB3⟩
end Go.Proofs.Ytkkflcikjmihaaa
