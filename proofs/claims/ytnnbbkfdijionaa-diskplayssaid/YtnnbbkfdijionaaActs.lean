/- Deeds that came in, and whether they are few. No statement is proved here. -/
import Derived.Test.YtnnbbkfdijionaaBase
namespace Go.Proofs.Ytnnbbkfdijionaa
open Go.RowKit

/-- A deed. -/
structure AK where
  kind : Int
  place : Int
  data : ByteArray
  stay : Nat

def AK.v (a : AK) : Value := .agg #[.int .i64 a.kind, .int .i64 a.place, .string a.data, .int .u64 a.stay]

/-- A slice of deeds that came in. -/
def ActIn (w : World) (A : Option Addr) (len : Nat) (xs : List AK) : Prop :=
  xs.length = len ∧ (∀ a ∈ xs, a.stay < 18446744073709551616 ∧ a.place ≤ 9223372036854775807) ∧ (0 < len → ∃ b off, A = some ⟨b, off, none⟩ ∧ b < w.heap.size ∧ ∀ (j : Nat) (a : AK), xs[j]? = some a →
    w.cell? ⟨b, off + j * 4, none⟩ = some (.int .i64 a.kind) ∧ w.cell? ⟨b, off + j * 4 + 1, none⟩ = some (.int .i64 a.place) ∧ w.cell? ⟨b, off + j * 4 + 2, none⟩ = some (.string a.data) ∧ w.cell? ⟨b, off + j * 4 + 3, none⟩ = some (.int .u64 a.stay))

set_option maxHeartbeats 1000000 in
/-- small: what it says of deeds is that they are few. -/
theorem small_calls (A : Option Addr) (len cap : Nat) (xs : List AK) (w : World) (hR : ActIn w A len xs) (hlm : len ≤ 9223372036854775807) :
    Calls Try.prog 8 #[.slice A len cap] w fun e w' => ∃ b, e = .returned (.bool b) ∧ (b = true → len ≤ 60) ∧ Below w.heap.size w w' := by
  have HR := Lib.hid hR
  clear hR
  go_enter Try.func8, Try.ntmps8
  go_wp2_with fail
  go_loopw [3] (fun u3 wr => ∃ i : Nat, i ≤ len ∧ u3 = .int .i64 i ∧ Below w.heap.size w wr) (fun u _ => len - (intOf u).toNat)
  case atStart => exact ⟨0, Nat.zero_le _, rfl, Below.refl _ _⟩
  case round =>
    obtain ⟨i, hi, rfl, hbr⟩ := hrel
    by_cases hlt : i < len
    · obtain ⟨a, ha⟩ : ∃ a, xs[i]? = some a := ⟨_, List.getElem?_eq_getElem (by have := HR.out.1; omega)⟩
      obtain ⟨b, off, rfl, hbl, hcell⟩ := HR.out.2.2 (by omega)
      have hc0 : wr.cell? ⟨b, off + i * 4 + 2, none⟩ = some (.string a.data) := (hbr.cell (p := ⟨b, off + i * 4 + 2, none⟩) hbl).trans (hcell i a ha).2.2.1
      have hi1 : (0 : Int) ≤ (i : Int) := by omega
      have hi2 : (i : Int) < (len : Int) := by omega
      clear hcell ha
      by_cases h4 : 400 < a.data.size
      · have hd : decide ((400 : Int) < (a.data.size : Int)) = true := by simp; omega
        go_wp2_with fail
        go_ret
        exact ⟨_, rfl, fun h => (by cases h), hbr⟩
      · have hd : decide ((400 : Int) < (a.data.size : Int)) = false := by simp; omega
        go_wp2_with fail
        exact ⟨⟨i + 1, by omega, by go_num, hbr⟩, by simp [intOf]; omega⟩
    · have hie : i = len := by omega
      have hnl : decide ((i : Int) < (len : Int)) = false := by simp; omega
      go_wp2_with fail
      go_ret
      exact ⟨_, rfl, fun h => (by have := of_decide_eq_true h; omega), hbr⟩

end Go.Proofs.Ytnnbbkfdijionaa
