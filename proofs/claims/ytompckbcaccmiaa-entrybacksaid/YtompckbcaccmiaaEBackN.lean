/- EntryBack: the walk, over numbers below 256. No statement is proved here. -/
import Derived.Test.YtompckbcaccmiaaEBack
namespace Go.Proofs.Ytompckbcaccmiaa
open Go.RowKit

theorem byte_of {c : Nat} (h : c < 256) : ((UInt8.ofNat c).toNat : Int) = (c : Nat) := by
  rw [UInt8.toNat_ofNat', Nat.mod_eq_of_lt h]

theorem back_calls (x : En) (n c0 c1 c2 c3 : Nat) (w : World) (hn : n < 65536) (h0 : c0 < 256) (h1 : c1 < 256) (h2 : c2 < 256) (h3 : c3 < 256) :
    Calls Try.prog 5 #[enV x, .int .u16 n, .agg #[.int .u8 (c0 : Nat), .int .u8 (c1 : Nat), .int .u8 (c2 : Nat), .int .u8 (c3 : Nat)]] w fun e w' => e = .returned (.bool true) ∧ Below w.heap.size w w' := by
  have h := back_law x n (UInt8.ofNat c0) (UInt8.ofNat c1) (UInt8.ofNat c2) (UInt8.ofNat c3) w hn
  rw [byte_of h0, byte_of h1, byte_of h2, byte_of h3] at h
  exact h

end Go.Proofs.Ytompckbcaccmiaa
