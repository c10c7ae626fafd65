/-
  No cell of these rows narrows 'for every input' (looked for: loops, veiled, ifaces, maps, wideKeys, modest, calm, conditions, laid).
  DERIVED. THE GIVEN ROWS OF THIS SEAT. 4 by the template 'for every input the law returns true; each argument reads behind the call as it read before'; 0 by the template 'total and deterministic' (their statements: YtgnhjcgegibpdaaTotals.lean).
  GIVEN WITH THE SEED: the statements are not yours to turn. If you find one false, say at which input.
  Laid BY PROGRAM, IN A SANDBOX (cutbox-rows.mjs): the forced cells as the released guide's own fill.sh prints them over the translation 4545b89e97a16890… (all of the seat's roots in one cut). By AI agents, Wed Nov 11 2026. No macro, syntax, notation, axiom, sorry.
-/
import Derived.Test.YtgnhjcgegibpdaaChecked
import GoSem.Claim
import GoSem.ClaimJoined
import GoSem.ClaimMapViews
import Derived.JoinedTies
import Derived.KernelRfl
namespace Go.Proofs.Ytgnhjcgegibpdaa
/- THE CELL 'sum', in the pinned program and in every row, IS THE sha256 OF THE DUMP (.gsa) THAT YtgnhjcgegibpdaaProg.lean LOADS. Nothing in Lean hashes anything: it is a label: what it is worth is what the hold of that sum in a sandbox is worth. -/
noncomputable def Try.pinned : Pinned := { name := "ytgnhjcgegibpdaa", sum := "4545b89e97a16890c753034af2b4fdafa4fa93517c44fd827ee639ab3f806160", checked := Try.checked }
namespace Rows
def none {H : Type} : Left H := { results := [], args := [] }

/-- 'archivistlaw06.ItemTells': WHATEVER THE INPUT: true; the input reads as it did. -/
def itemTellsSpec : ChangeSpec := { name := "itemTells", fn := fun _ => fun
  | [d1, d2, d3] => { results := [.lit (.bool true)], args := [d1, d2, d3] }
  | _ => none }
def itemTellsRow : OpenClaim := { program := "ytgnhjcgegibpdaa", sum := "4545b89e97a16890c753034af2b4fdafa4fa93517c44fd827ee639ab3f806160", func := "archivist/archivistlaw06.ItemTells", spec := "itemTells", inPlace := ["slices.overlaps[archivist/api.Item]", "internal/bytealg.IndexByteString", "internal/bytealg.IndexString"], unfollowed := true, recurses := true, named := ["internal/bytealg.MaxLen"], apart := false }
def ItemTellsSaid : Prop := itemTellsRow.holds Try.pinned (OpenSpec.ofChange itemTellsSpec)

/-- ITS FALSE NEIGHBOUR: 'it returns false'. Refute it at one input. -/
def itemTellsWrong : ChangeSpec := { name := "itemTells", fn := fun _ => fun
  | [d1, d2, d3] => { results := [.lit (.bool false)], args := [d1, d2, d3] }
  | _ => none }
def ItemTellsWrongFalsely : Prop := itemTellsRow.holds Try.pinned (OpenSpec.ofChange itemTellsWrong)

/-- 'archivistlaw06.ItemPlays': WHATEVER THE INPUT: true; the input reads as it did. -/
def itemPlaysSpec : ChangeSpec := { name := "itemPlays", fn := fun _ => fun
  | [d1, d2] => { results := [.lit (.bool true)], args := [d1, d2] }
  | _ => none }
def itemPlaysRow : OpenClaim := { program := "ytgnhjcgegibpdaa", sum := "4545b89e97a16890c753034af2b4fdafa4fa93517c44fd827ee639ab3f806160", func := "archivist/archivistlaw06.ItemPlays", spec := "itemPlays", inPlace := ["slices.overlaps[archivist/api.Item]", "internal/bytealg.IndexByteString", "internal/bytealg.IndexString"], unfollowed := true, recurses := true, named := ["internal/bytealg.MaxLen"], apart := false }
def ItemPlaysSaid : Prop := itemPlaysRow.holds Try.pinned (OpenSpec.ofChange itemPlaysSpec)

/-- ITS FALSE NEIGHBOUR: 'it returns false'. Refute it at one input. -/
def itemPlaysWrong : ChangeSpec := { name := "itemPlays", fn := fun _ => fun
  | [d1, d2] => { results := [.lit (.bool false)], args := [d1, d2] }
  | _ => none }
def ItemPlaysWrongFalsely : Prop := itemPlaysRow.holds Try.pinned (OpenSpec.ofChange itemPlaysWrong)

/-- 'archivistlaw06.ItemOrder': WHATEVER THE INPUT: true; the input reads as it did. -/
def itemOrderSpec : ChangeSpec := { name := "itemOrder", fn := fun _ => fun
  | [d] => { results := [.lit (.bool true)], args := [d] }
  | _ => none }
def itemOrderRow : OpenClaim := { program := "ytgnhjcgegibpdaa", sum := "4545b89e97a16890c753034af2b4fdafa4fa93517c44fd827ee639ab3f806160", func := "archivist/archivistlaw06.ItemOrder", spec := "itemOrder", inPlace := ["slices.overlaps[archivist/api.Item]", "internal/bytealg.IndexByteString", "internal/bytealg.IndexString"], unfollowed := true, recurses := true, named := ["internal/bytealg.MaxLen"], apart := false }
def ItemOrderSaid : Prop := itemOrderRow.holds Try.pinned (OpenSpec.ofChange itemOrderSpec)

/-- ITS FALSE NEIGHBOUR: 'it returns false'. Refute it at one input. -/
def itemOrderWrong : ChangeSpec := { name := "itemOrder", fn := fun _ => fun
  | [d] => { results := [.lit (.bool false)], args := [d] }
  | _ => none }
def ItemOrderWrongFalsely : Prop := itemOrderRow.holds Try.pinned (OpenSpec.ofChange itemOrderWrong)

/-- 'archivistlaw06.ItemAway': WHATEVER THE INPUT: true; the input reads as it did. -/
def itemAwaySpec : ChangeSpec := { name := "itemAway", fn := fun _ => fun
  | [d1, d2] => { results := [.lit (.bool true)], args := [d1, d2] }
  | _ => none }
def itemAwayRow : OpenClaim := { program := "ytgnhjcgegibpdaa", sum := "4545b89e97a16890c753034af2b4fdafa4fa93517c44fd827ee639ab3f806160", func := "archivist/archivistlaw06.ItemAway", spec := "itemAway", inPlace := ["slices.overlaps[archivist/api.Item]", "internal/bytealg.IndexByteString", "internal/bytealg.IndexString"], unfollowed := true, recurses := true, named := ["internal/bytealg.MaxLen"], apart := false }
def ItemAwaySaid : Prop := itemAwayRow.holds Try.pinned (OpenSpec.ofChange itemAwaySpec)

/-- ITS FALSE NEIGHBOUR: 'it returns false'. Refute it at one input. -/
def itemAwayWrong : ChangeSpec := { name := "itemAway", fn := fun _ => fun
  | [d1, d2] => { results := [.lit (.bool false)], args := [d1, d2] }
  | _ => none }
def ItemAwayWrongFalsely : Prop := itemAwayRow.holds Try.pinned (OpenSpec.ofChange itemAwayWrong)

/- THE SECOND FORM. 'bulk': how many values and letters a reading holds, each counted each time it is reached (what is shared counts as often as it is met; a slice's spare places count too). A statement '..UptoSaid' is the law's where the arguments, and the package variables that the reading takes, are together of bulk at most 1048576: NARROWER than '..Said'. Prove '..Said' where nothing that the law and all that it calls make is longer than what came in: it says more and counts as full. Else prove '..UptoSaid'. A law counts once. -/
mutual
def uptoBulk {H : Type} : DataW H → Nat
  | .lit (.string bytes) => bytes.length + 1
  | .lit _ => 1
  | .nil => 1
  | .ptr d => uptoBulk d + 1
  | .slice elems spare => uptoBulkAll elems + uptoBulkAll spare + 1
  | .agg parts => uptoBulkAll parts + 1
  | .iface _ d => uptoBulk d + 1
  | .map entries => uptoBulkEntries entries + 1
  | .held _ => 1
def uptoBulkAll {H : Type} : List (DataW H) → Nat
  | [] => 0
  | d :: r => uptoBulk d + uptoBulkAll r
def uptoBulkEntries {H : Type} : List (Lit × DataW H) → Nat
  | [] => 0
  | x :: r => uptoBulkEntry x + uptoBulkEntries r
def uptoBulkEntry {H : Type} : Lit × DataW H → Nat
  | (.string bytes, d) => bytes.length + uptoBulk d + 1
  | (_, d) => uptoBulk d + 1
 end
def uptoSmall : (H : Type) → List (DataW H) → Bool := fun _ ds => decide (uptoBulkAll ds ≤ 1048576)
def OpenSpec.upto (s : _root_.Go.ChangeSpec) : _root_.Go.OpenSpec := { _root_.Go.OpenSpec.ofChange s with cond := some uptoSmall }

/-- 'archivistlaw06.ItemTells', WHERE WHAT IT READS IS OF BULK AT MOST 1048576: true; the input reads as it did. -/
def itemTellsUptoRow : OpenClaim := { program := "ytgnhjcgegibpdaa", sum := "4545b89e97a16890c753034af2b4fdafa4fa93517c44fd827ee639ab3f806160", func := "archivist/archivistlaw06.ItemTells", spec := "itemTells", inPlace := ["slices.overlaps[archivist/api.Item]", "internal/bytealg.IndexByteString", "internal/bytealg.IndexString"], unfollowed := true, recurses := true, named := ["internal/bytealg.MaxLen"], apart := false, narrowed := true }
def ItemTellsUptoSaid : Prop := itemTellsUptoRow.holds Try.pinned (OpenSpec.upto itemTellsSpec)

/-- 'archivistlaw06.ItemPlays', WHERE WHAT IT READS IS OF BULK AT MOST 1048576: true; the input reads as it did. -/
def itemPlaysUptoRow : OpenClaim := { program := "ytgnhjcgegibpdaa", sum := "4545b89e97a16890c753034af2b4fdafa4fa93517c44fd827ee639ab3f806160", func := "archivist/archivistlaw06.ItemPlays", spec := "itemPlays", inPlace := ["slices.overlaps[archivist/api.Item]", "internal/bytealg.IndexByteString", "internal/bytealg.IndexString"], unfollowed := true, recurses := true, named := ["internal/bytealg.MaxLen"], apart := false, narrowed := true }
def ItemPlaysUptoSaid : Prop := itemPlaysUptoRow.holds Try.pinned (OpenSpec.upto itemPlaysSpec)

/-- 'archivistlaw06.ItemOrder', WHERE WHAT IT READS IS OF BULK AT MOST 1048576: true; the input reads as it did. -/
def itemOrderUptoRow : OpenClaim := { program := "ytgnhjcgegibpdaa", sum := "4545b89e97a16890c753034af2b4fdafa4fa93517c44fd827ee639ab3f806160", func := "archivist/archivistlaw06.ItemOrder", spec := "itemOrder", inPlace := ["slices.overlaps[archivist/api.Item]", "internal/bytealg.IndexByteString", "internal/bytealg.IndexString"], unfollowed := true, recurses := true, named := ["internal/bytealg.MaxLen"], apart := false, narrowed := true }
def ItemOrderUptoSaid : Prop := itemOrderUptoRow.holds Try.pinned (OpenSpec.upto itemOrderSpec)

/-- 'archivistlaw06.ItemAway', WHERE WHAT IT READS IS OF BULK AT MOST 1048576: true; the input reads as it did. -/
def itemAwayUptoRow : OpenClaim := { program := "ytgnhjcgegibpdaa", sum := "4545b89e97a16890c753034af2b4fdafa4fa93517c44fd827ee639ab3f806160", func := "archivist/archivistlaw06.ItemAway", spec := "itemAway", inPlace := ["slices.overlaps[archivist/api.Item]", "internal/bytealg.IndexByteString", "internal/bytealg.IndexString"], unfollowed := true, recurses := true, named := ["internal/bytealg.MaxLen"], apart := false, narrowed := true }
def ItemAwayUptoSaid : Prop := itemAwayUptoRow.holds Try.pinned (OpenSpec.upto itemAwaySpec)

end Rows
end Go.Proofs.Ytgnhjcgegibpdaa
