/- Contracts and plain mathematics that the statement's proof wants: no statement is proved here, nothing is assumed. -/
import Derived.Test.YtgeiemccjionpaaGreatMg06
import Derived.Test.YtgeiemccjionpaaGreatMg07
import Derived.Test.YtgeiemccjionpaaGreatMg11
/- DPad -/
namespace Go.Proofs.YtgeiemccjionpaaGreat.Dsk
open Go.RowKit

theorem repeatL_zero : ∀ k : Nat, Lib.repeatL [0] k = List.replicate k 0
  | 0 => rfl
  | k + 1 => by rw [Lib.repeatL, repeatL_zero k, List.replicate_succ]; rfl

theorem Tryz.info5 : (Tryz.prog.info? 5).map (fun i => (i.zero, i.size, i.bytes)) = some (some (.int .u8 0), 1, 1) := by kernel_rfl

end Go.Proofs.YtgeiemccjionpaaGreat.Dsk

/- DClone -/
namespace Go.Proofs.YtgeiemccjionpaaGreat.Dsk
open Go.RowKit

end Go.Proofs.YtgeiemccjionpaaGreat.Dsk
