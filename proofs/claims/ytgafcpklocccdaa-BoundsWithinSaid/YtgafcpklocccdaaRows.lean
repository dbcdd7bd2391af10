/-
  No cell of these rows narrows 'for every input' (looked for: loops, veiled, ifaces, maps, wideKeys, modest, calm, conditions, laid).
  DERIVED. THE GIVEN ROWS OF THIS SEAT. 8 by the template 'for every input the law returns true; each argument reads behind the call as it read before'; 0 by the template 'total and deterministic' (their statements: YtgafcpklocccdaaTotals.lean).
  GIVEN WITH THE SEED: the statements are not yours to turn. If you find one false, say at which input.
  Laid BY PROGRAM, IN A SANDBOX (cutbox-rows.mjs): the forced cells as the released guide's own fill.sh prints them over the translation 1b86ced6a17a004c… (all of the seat's roots in one cut). By AI agents, Wed Nov 11 2026. No macro, syntax, notation, axiom, sorry.
-/
import Derived.Test.YtgafcpklocccdaaChecked
import GoSem.Claim
import GoSem.ClaimJoined
import GoSem.ClaimMapViews
import Derived.JoinedTies
import Derived.KernelRfl
namespace Go.Proofs.Ytgafcpklocccdaa
/- THE CELL 'sum', in the pinned program and in every row, IS THE sha256 OF THE DUMP (.gsa) THAT YtgafcpklocccdaaProg.lean LOADS. Nothing in Lean hashes anything: it is a label: what it is worth is what the hold of that sum in a sandbox is worth. -/
noncomputable def Try.pinned : Pinned := { name := "ytgafcpklocccdaa", sum := "1b86ced6a17a004c79226fcb89a823897f3ffe69e813064fb517fdc808a7001e", checked := Try.checked }
namespace Rows
def none {H : Type} : Left H := { results := [], args := [] }

/-- 'windowpanelaw04.BoundsMakes': WHATEVER THE INPUT: true; the input reads as it did. -/
def boundsMakesSpec : ChangeSpec := { name := "boundsMakes", fn := fun _ => fun
  | [d1, d2, d3] => { results := [.lit (.bool true)], args := [d1, d2, d3] }
  | _ => none }
def boundsMakesRow : OpenClaim := { program := "ytgafcpklocccdaa", sum := "1b86ced6a17a004c79226fcb89a823897f3ffe69e813064fb517fdc808a7001e", func := "windowpane/windowpanelaw04.BoundsMakes", spec := "boundsMakes", inPlace := ["math/bits.Sub64"], apart := false }
def BoundsMakesSaid : Prop := boundsMakesRow.holds Try.pinned (OpenSpec.ofChange boundsMakesSpec)

/-- ITS FALSE NEIGHBOUR: 'it returns false'. Refute it at one input. -/
def boundsMakesWrong : ChangeSpec := { name := "boundsMakes", fn := fun _ => fun
  | [d1, d2, d3] => { results := [.lit (.bool false)], args := [d1, d2, d3] }
  | _ => none }
def BoundsMakesWrongFalsely : Prop := boundsMakesRow.holds Try.pinned (OpenSpec.ofChange boundsMakesWrong)

/-- 'windowpanelaw04.BoundsValid': WHATEVER THE INPUT: true; the input reads as it did. -/
def boundsValidSpec : ChangeSpec := { name := "boundsValid", fn := fun _ => fun
  | [d] => { results := [.lit (.bool true)], args := [d] }
  | _ => none }
def boundsValidRow : OpenClaim := { program := "ytgafcpklocccdaa", sum := "1b86ced6a17a004c79226fcb89a823897f3ffe69e813064fb517fdc808a7001e", func := "windowpane/windowpanelaw04.BoundsValid", spec := "boundsValid", inPlace := ["math/bits.Sub64"], apart := false }
def BoundsValidSaid : Prop := boundsValidRow.holds Try.pinned (OpenSpec.ofChange boundsValidSpec)

/-- ITS FALSE NEIGHBOUR: 'it returns false'. Refute it at one input. -/
def boundsValidWrong : ChangeSpec := { name := "boundsValid", fn := fun _ => fun
  | [d] => { results := [.lit (.bool false)], args := [d] }
  | _ => none }
def BoundsValidWrongFalsely : Prop := boundsValidRow.holds Try.pinned (OpenSpec.ofChange boundsValidWrong)

/-- 'windowpanelaw04.BoundsHolds': WHATEVER THE INPUT: true; the input reads as it did. -/
def boundsHoldsSpec : ChangeSpec := { name := "boundsHolds", fn := fun _ => fun
  | [d1, d2] => { results := [.lit (.bool true)], args := [d1, d2] }
  | _ => none }
def boundsHoldsRow : OpenClaim := { program := "ytgafcpklocccdaa", sum := "1b86ced6a17a004c79226fcb89a823897f3ffe69e813064fb517fdc808a7001e", func := "windowpane/windowpanelaw04.BoundsHolds", spec := "boundsHolds", inPlace := ["math/bits.Sub64"], apart := false }
def BoundsHoldsSaid : Prop := boundsHoldsRow.holds Try.pinned (OpenSpec.ofChange boundsHoldsSpec)

/-- ITS FALSE NEIGHBOUR: 'it returns false'. Refute it at one input. -/
def boundsHoldsWrong : ChangeSpec := { name := "boundsHolds", fn := fun _ => fun
  | [d1, d2] => { results := [.lit (.bool false)], args := [d1, d2] }
  | _ => none }
def BoundsHoldsWrongFalsely : Prop := boundsHoldsRow.holds Try.pinned (OpenSpec.ofChange boundsHoldsWrong)

/-- 'windowpanelaw04.BoundsWithin': WHATEVER THE INPUT: true; the input reads as it did. -/
def boundsWithinSpec : ChangeSpec := { name := "boundsWithin", fn := fun _ => fun
  | [d1, d2, d3] => { results := [.lit (.bool true)], args := [d1, d2, d3] }
  | _ => none }
def boundsWithinRow : OpenClaim := { program := "ytgafcpklocccdaa", sum := "1b86ced6a17a004c79226fcb89a823897f3ffe69e813064fb517fdc808a7001e", func := "windowpane/windowpanelaw04.BoundsWithin", spec := "boundsWithin", inPlace := ["math/bits.Add64", "math/bits.Sub64"], apart := false }
def BoundsWithinSaid : Prop := boundsWithinRow.holds Try.pinned (OpenSpec.ofChange boundsWithinSpec)

/-- ITS FALSE NEIGHBOUR: 'it returns false'. Refute it at one input. -/
def boundsWithinWrong : ChangeSpec := { name := "boundsWithin", fn := fun _ => fun
  | [d1, d2, d3] => { results := [.lit (.bool false)], args := [d1, d2, d3] }
  | _ => none }
def BoundsWithinWrongFalsely : Prop := boundsWithinRow.holds Try.pinned (OpenSpec.ofChange boundsWithinWrong)

/-- 'windowpanelaw04.BoundsNarrow': WHATEVER THE INPUT: true; the input reads as it did. -/
def boundsNarrowSpec : ChangeSpec := { name := "boundsNarrow", fn := fun _ => fun
  | [d1, d2, d3, d4, d5] => { results := [.lit (.bool true)], args := [d1, d2, d3, d4, d5] }
  | _ => none }
def boundsNarrowRow : OpenClaim := { program := "ytgafcpklocccdaa", sum := "1b86ced6a17a004c79226fcb89a823897f3ffe69e813064fb517fdc808a7001e", func := "windowpane/windowpanelaw04.BoundsNarrow", spec := "boundsNarrow", inPlace := ["math/bits.Add64", "math/bits.Sub64"], apart := false }
def BoundsNarrowSaid : Prop := boundsNarrowRow.holds Try.pinned (OpenSpec.ofChange boundsNarrowSpec)

/-- ITS FALSE NEIGHBOUR: 'it returns false'. Refute it at one input. -/
def boundsNarrowWrong : ChangeSpec := { name := "boundsNarrow", fn := fun _ => fun
  | [d1, d2, d3, d4, d5] => { results := [.lit (.bool false)], args := [d1, d2, d3, d4, d5] }
  | _ => none }
def BoundsNarrowWrongFalsely : Prop := boundsNarrowRow.holds Try.pinned (OpenSpec.ofChange boundsNarrowWrong)

/-- 'windowpanelaw04.BoundsAdds': WHATEVER THE INPUT: true; the input reads as it did. -/
def boundsAddsSpec : ChangeSpec := { name := "boundsAdds", fn := fun _ => fun
  | [d1, d2] => { results := [.lit (.bool true)], args := [d1, d2] }
  | _ => none }
def boundsAddsRow : OpenClaim := { program := "ytgafcpklocccdaa", sum := "1b86ced6a17a004c79226fcb89a823897f3ffe69e813064fb517fdc808a7001e", func := "windowpane/windowpanelaw04.BoundsAdds", spec := "boundsAdds", inPlace := ["math/bits.Add64", "math/bits.Sub64"], named := ["math/bits.divideError", "math/bits.overflowError"], apart := false }
def BoundsAddsSaid : Prop := boundsAddsRow.holds Try.pinned (OpenSpec.ofChange boundsAddsSpec)

/-- ITS FALSE NEIGHBOUR: 'it returns false'. Refute it at one input. -/
def boundsAddsWrong : ChangeSpec := { name := "boundsAdds", fn := fun _ => fun
  | [d1, d2] => { results := [.lit (.bool false)], args := [d1, d2] }
  | _ => none }
def BoundsAddsWrongFalsely : Prop := boundsAddsRow.holds Try.pinned (OpenSpec.ofChange boundsAddsWrong)

/-- 'windowpanelaw04.BoundsSumHolds': WHATEVER THE INPUT: true; the input reads as it did. -/
def boundsSumHoldsSpec : ChangeSpec := { name := "boundsSumHolds", fn := fun _ => fun
  | [d1, d2, d3, d4] => { results := [.lit (.bool true)], args := [d1, d2, d3, d4] }
  | _ => none }
def boundsSumHoldsRow : OpenClaim := { program := "ytgafcpklocccdaa", sum := "1b86ced6a17a004c79226fcb89a823897f3ffe69e813064fb517fdc808a7001e", func := "windowpane/windowpanelaw04.BoundsSumHolds", spec := "boundsSumHolds", inPlace := ["math/bits.Add64", "math/bits.Sub64"], named := ["math/bits.divideError", "math/bits.overflowError"], apart := false }
def BoundsSumHoldsSaid : Prop := boundsSumHoldsRow.holds Try.pinned (OpenSpec.ofChange boundsSumHoldsSpec)

/-- ITS FALSE NEIGHBOUR: 'it returns false'. Refute it at one input. -/
def boundsSumHoldsWrong : ChangeSpec := { name := "boundsSumHolds", fn := fun _ => fun
  | [d1, d2, d3, d4] => { results := [.lit (.bool false)], args := [d1, d2, d3, d4] }
  | _ => none }
def BoundsSumHoldsWrongFalsely : Prop := boundsSumHoldsRow.holds Try.pinned (OpenSpec.ofChange boundsSumHoldsWrong)

/-- 'windowpanelaw04.BoundsMeets': WHATEVER THE INPUT: true; the input reads as it did. -/
def boundsMeetsSpec : ChangeSpec := { name := "boundsMeets", fn := fun _ => fun
  | [d1, d2, d3] => { results := [.lit (.bool true)], args := [d1, d2, d3] }
  | _ => none }
def boundsMeetsRow : OpenClaim := { program := "ytgafcpklocccdaa", sum := "1b86ced6a17a004c79226fcb89a823897f3ffe69e813064fb517fdc808a7001e", func := "windowpane/windowpanelaw04.BoundsMeets", spec := "boundsMeets", inPlace := ["math/bits.Sub64"], apart := false }
def BoundsMeetsSaid : Prop := boundsMeetsRow.holds Try.pinned (OpenSpec.ofChange boundsMeetsSpec)

/-- ITS FALSE NEIGHBOUR: 'it returns false'. Refute it at one input. -/
def boundsMeetsWrong : ChangeSpec := { name := "boundsMeets", fn := fun _ => fun
  | [d1, d2, d3] => { results := [.lit (.bool false)], args := [d1, d2, d3] }
  | _ => none }
def BoundsMeetsWrongFalsely : Prop := boundsMeetsRow.holds Try.pinned (OpenSpec.ofChange boundsMeetsWrong)

/- THE SECOND FORM. 'bulk': how many values and letters a reading holds, each counted each time it is reached (what is shared counts as often as it is met; a slice's spare places count too). A statement '..UptoSaid' is the law's where the arguments, and the package variables that the reading takes, are together of bulk at most 1048576: NARROWER than '..Said'. Prove '..Said' where nothing that the law and all that it calls make is longer than what came in: it says more and counts as full. Else prove '..UptoSaid'. A law counts once. -/
mutual
def uptoBulk {H : Type} : DataW H → Nat
  | .lit (.string bytes) => bytes.length + 1
  | .lit _ => 1
  | .nil => 1
  | .ptr d => uptoBulk d + 1
  | .slice elems spare => uptoBulkAll elems + uptoBulkAll spare + 1
  | .agg parts => uptoBulkAll parts + 1
  | .iface _ d => uptoBulk d + 1
  | .map entries => uptoBulkEntries entries + 1
  | .held _ => 1
def uptoBulkAll {H : Type} : List (DataW H) → Nat
  | [] => 0
  | d :: r => uptoBulk d + uptoBulkAll r
def uptoBulkEntries {H : Type} : List (Lit × DataW H) → Nat
  | [] => 0
  | x :: r => uptoBulkEntry x + uptoBulkEntries r
def uptoBulkEntry {H : Type} : Lit × DataW H → Nat
  | (.string bytes, d) => bytes.length + uptoBulk d + 1
  | (_, d) => uptoBulk d + 1
 end
def uptoSmall : (H : Type) → List (DataW H) → Bool := fun _ ds => decide (uptoBulkAll ds ≤ 1048576)
def OpenSpec.upto (s : _root_.Go.ChangeSpec) : _root_.Go.OpenSpec := { _root_.Go.OpenSpec.ofChange s with cond := some uptoSmall }

/-- 'windowpanelaw04.BoundsMakes', WHERE WHAT IT READS IS OF BULK AT MOST 1048576: true; the input reads as it did. -/
def boundsMakesUptoRow : OpenClaim := { program := "ytgafcpklocccdaa", sum := "1b86ced6a17a004c79226fcb89a823897f3ffe69e813064fb517fdc808a7001e", func := "windowpane/windowpanelaw04.BoundsMakes", spec := "boundsMakes", inPlace := ["math/bits.Sub64"], apart := false, narrowed := true }
def BoundsMakesUptoSaid : Prop := boundsMakesUptoRow.holds Try.pinned (OpenSpec.upto boundsMakesSpec)

/-- 'windowpanelaw04.BoundsValid', WHERE WHAT IT READS IS OF BULK AT MOST 1048576: true; the input reads as it did. -/
def boundsValidUptoRow : OpenClaim := { program := "ytgafcpklocccdaa", sum := "1b86ced6a17a004c79226fcb89a823897f3ffe69e813064fb517fdc808a7001e", func := "windowpane/windowpanelaw04.BoundsValid", spec := "boundsValid", inPlace := ["math/bits.Sub64"], apart := false, narrowed := true }
def BoundsValidUptoSaid : Prop := boundsValidUptoRow.holds Try.pinned (OpenSpec.upto boundsValidSpec)

/-- 'windowpanelaw04.BoundsHolds', WHERE WHAT IT READS IS OF BULK AT MOST 1048576: true; the input reads as it did. -/
def boundsHoldsUptoRow : OpenClaim := { program := "ytgafcpklocccdaa", sum := "1b86ced6a17a004c79226fcb89a823897f3ffe69e813064fb517fdc808a7001e", func := "windowpane/windowpanelaw04.BoundsHolds", spec := "boundsHolds", inPlace := ["math/bits.Sub64"], apart := false, narrowed := true }
def BoundsHoldsUptoSaid : Prop := boundsHoldsUptoRow.holds Try.pinned (OpenSpec.upto boundsHoldsSpec)

/-- 'windowpanelaw04.BoundsWithin', WHERE WHAT IT READS IS OF BULK AT MOST 1048576: true; the input reads as it did. -/
def boundsWithinUptoRow : OpenClaim := { program := "ytgafcpklocccdaa", sum := "1b86ced6a17a004c79226fcb89a823897f3ffe69e813064fb517fdc808a7001e", func := "windowpane/windowpanelaw04.BoundsWithin", spec := "boundsWithin", inPlace := ["math/bits.Add64", "math/bits.Sub64"], apart := false, narrowed := true }
def BoundsWithinUptoSaid : Prop := boundsWithinUptoRow.holds Try.pinned (OpenSpec.upto boundsWithinSpec)

/-- 'windowpanelaw04.BoundsNarrow', WHERE WHAT IT READS IS OF BULK AT MOST 1048576: true; the input reads as it did. -/
def boundsNarrowUptoRow : OpenClaim := { program := "ytgafcpklocccdaa", sum := "1b86ced6a17a004c79226fcb89a823897f3ffe69e813064fb517fdc808a7001e", func := "windowpane/windowpanelaw04.BoundsNarrow", spec := "boundsNarrow", inPlace := ["math/bits.Add64", "math/bits.Sub64"], apart := false, narrowed := true }
def BoundsNarrowUptoSaid : Prop := boundsNarrowUptoRow.holds Try.pinned (OpenSpec.upto boundsNarrowSpec)

/-- 'windowpanelaw04.BoundsAdds', WHERE WHAT IT READS IS OF BULK AT MOST 1048576: true; the input reads as it did. -/
def boundsAddsUptoRow : OpenClaim := { program := "ytgafcpklocccdaa", sum := "1b86ced6a17a004c79226fcb89a823897f3ffe69e813064fb517fdc808a7001e", func := "windowpane/windowpanelaw04.BoundsAdds", spec := "boundsAdds", inPlace := ["math/bits.Add64", "math/bits.Sub64"], named := ["math/bits.divideError", "math/bits.overflowError"], apart := false, narrowed := true }
def BoundsAddsUptoSaid : Prop := boundsAddsUptoRow.holds Try.pinned (OpenSpec.upto boundsAddsSpec)

/-- 'windowpanelaw04.BoundsSumHolds', WHERE WHAT IT READS IS OF BULK AT MOST 1048576: true; the input reads as it did. -/
def boundsSumHoldsUptoRow : OpenClaim := { program := "ytgafcpklocccdaa", sum := "1b86ced6a17a004c79226fcb89a823897f3ffe69e813064fb517fdc808a7001e", func := "windowpane/windowpanelaw04.BoundsSumHolds", spec := "boundsSumHolds", inPlace := ["math/bits.Add64", "math/bits.Sub64"], named := ["math/bits.divideError", "math/bits.overflowError"], apart := false, narrowed := true }
def BoundsSumHoldsUptoSaid : Prop := boundsSumHoldsUptoRow.holds Try.pinned (OpenSpec.upto boundsSumHoldsSpec)

/-- 'windowpanelaw04.BoundsMeets', WHERE WHAT IT READS IS OF BULK AT MOST 1048576: true; the input reads as it did. -/
def boundsMeetsUptoRow : OpenClaim := { program := "ytgafcpklocccdaa", sum := "1b86ced6a17a004c79226fcb89a823897f3ffe69e813064fb517fdc808a7001e", func := "windowpane/windowpanelaw04.BoundsMeets", spec := "boundsMeets", inPlace := ["math/bits.Sub64"], apart := false, narrowed := true }
def BoundsMeetsUptoSaid : Prop := boundsMeetsUptoRow.holds Try.pinned (OpenSpec.upto boundsMeetsSpec)

end Rows
end Go.Proofs.Ytgafcpklocccdaa
