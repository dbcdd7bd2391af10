/-
  No cell of these rows narrows 'for every input' (looked for: loops, veiled, ifaces, maps, wideKeys, modest, calm, conditions, laid).
  DERIVED. THE GIVEN ROWS OF THIS SEAT. 5 by the template 'for every input the law returns true; each argument reads behind the call as it read before'; 0 by the template 'total and deterministic' (their statements: YtjbgogajnjefmaaTotals.lean).
  GIVEN WITH THE SEED: the statements are not yours to turn. If you find one false, say at which input.
  Laid BY PROGRAM, IN A SANDBOX (cutbox-rows.mjs): the forced cells as the released guide's own fill.sh prints them over the translation 68a8ba4837586bcc… (all of the seat's roots in one cut). By AI agents, Wed Nov 11 2026. No macro, syntax, notation, axiom, sorry.
-/
import Derived.Test.YtjbgogajnjefmaaChecked
import GoSem.Claim
import GoSem.ClaimJoined
import GoSem.ClaimMapViews
import Derived.JoinedTies
import Derived.KernelRfl
namespace Go.Proofs.Ytjbgogajnjefmaa
/- THE CELL 'sum', in the pinned program and in every row, IS THE sha256 OF THE DUMP (.gsa) THAT YtjbgogajnjefmaaProg.lean LOADS. Nothing in Lean hashes anything: it is a label: what it is worth is what the hold of that sum in a sandbox is worth. -/
noncomputable def Try.pinned : Pinned := { name := "ytjbgogajnjefmaa", sum := "68a8ba4837586bccb224651b203f527c9c1fe681184624fa2f2074ba15ca3bbf", checked := Try.checked }
namespace Rows
def none {H : Type} : Left H := { results := [], args := [] }

/-- 'windowpanelaw11.CountNew': WHATEVER THE INPUT: true; the input reads as it did. -/
def countNewSpec : ChangeSpec := { name := "countNew", fn := fun _ => fun
  | [d1, d2, d3, d4] => { results := [.lit (.bool true)], args := [d1, d2, d3, d4] }
  | _ => none }
def countNewRow : OpenClaim := { program := "ytjbgogajnjefmaa", sum := "68a8ba4837586bccb224651b203f527c9c1fe681184624fa2f2074ba15ca3bbf", func := "windowpane/windowpanelaw11.CountNew", spec := "countNew", apart := false }
def CountNewSaid : Prop := countNewRow.holds Try.pinned (OpenSpec.ofChange countNewSpec)

/-- ITS FALSE NEIGHBOUR: 'it returns false'. Refute it at one input. -/
def countNewWrong : ChangeSpec := { name := "countNew", fn := fun _ => fun
  | [d1, d2, d3, d4] => { results := [.lit (.bool false)], args := [d1, d2, d3, d4] }
  | _ => none }
def CountNewWrongFalsely : Prop := countNewRow.holds Try.pinned (OpenSpec.ofChange countNewWrong)

/-- 'windowpanelaw11.CountStates': WHATEVER THE INPUT: true; the input reads as it did. -/
def countStatesSpec : ChangeSpec := { name := "countStates", fn := fun _ => fun
  | [d1, d2] => { results := [.lit (.bool true)], args := [d1, d2] }
  | _ => none }
def countStatesRow : OpenClaim := { program := "ytjbgogajnjefmaa", sum := "68a8ba4837586bccb224651b203f527c9c1fe681184624fa2f2074ba15ca3bbf", func := "windowpane/windowpanelaw11.CountStates", spec := "countStates", inPlace := ["math/bits.Sub64"], apart := false }
def CountStatesSaid : Prop := countStatesRow.holds Try.pinned (OpenSpec.ofChange countStatesSpec)

/-- ITS FALSE NEIGHBOUR: 'it returns false'. Refute it at one input. -/
def countStatesWrong : ChangeSpec := { name := "countStates", fn := fun _ => fun
  | [d1, d2] => { results := [.lit (.bool false)], args := [d1, d2] }
  | _ => none }
def CountStatesWrongFalsely : Prop := countStatesRow.holds Try.pinned (OpenSpec.ofChange countStatesWrong)

/-- 'windowpanelaw11.CountTruth': WHATEVER THE INPUT: true; the input reads as it did. -/
def countTruthSpec : ChangeSpec := { name := "countTruth", fn := fun _ => fun
  | [d1, d2, d3, d4, d5] => { results := [.lit (.bool true)], args := [d1, d2, d3, d4, d5] }
  | _ => none }
def countTruthRow : OpenClaim := { program := "ytjbgogajnjefmaa", sum := "68a8ba4837586bccb224651b203f527c9c1fe681184624fa2f2074ba15ca3bbf", func := "windowpane/windowpanelaw11.CountTruth", spec := "countTruth", inPlace := ["math/bits.Add64", "math/bits.Sub64"], apart := false }
def CountTruthSaid : Prop := countTruthRow.holds Try.pinned (OpenSpec.ofChange countTruthSpec)

/-- ITS FALSE NEIGHBOUR: 'it returns false'. Refute it at one input. -/
def countTruthWrong : ChangeSpec := { name := "countTruth", fn := fun _ => fun
  | [d1, d2, d3, d4, d5] => { results := [.lit (.bool false)], args := [d1, d2, d3, d4, d5] }
  | _ => none }
def CountTruthWrongFalsely : Prop := countTruthRow.holds Try.pinned (OpenSpec.ofChange countTruthWrong)

/-- 'windowpanelaw11.CountBoth': WHATEVER THE INPUT: true; the input reads as it did. -/
def countBothSpec : ChangeSpec := { name := "countBoth", fn := fun _ => fun
  | [d1, d2, d3, d4, d5] => { results := [.lit (.bool true)], args := [d1, d2, d3, d4, d5] }
  | _ => none }
def countBothRow : OpenClaim := { program := "ytjbgogajnjefmaa", sum := "68a8ba4837586bccb224651b203f527c9c1fe681184624fa2f2074ba15ca3bbf", func := "windowpane/windowpanelaw11.CountBoth", spec := "countBoth", inPlace := ["math/bits.Add64", "math/bits.Sub64"], named := ["math/bits.divideError", "math/bits.overflowError"], apart := false }
def CountBothSaid : Prop := countBothRow.holds Try.pinned (OpenSpec.ofChange countBothSpec)

/-- ITS FALSE NEIGHBOUR: 'it returns false'. Refute it at one input. -/
def countBothWrong : ChangeSpec := { name := "countBoth", fn := fun _ => fun
  | [d1, d2, d3, d4, d5] => { results := [.lit (.bool false)], args := [d1, d2, d3, d4, d5] }
  | _ => none }
def CountBothWrongFalsely : Prop := countBothRow.holds Try.pinned (OpenSpec.ofChange countBothWrong)

/-- 'windowpanelaw11.CountSplit': WHATEVER THE INPUT: true; the input reads as it did. -/
def countSplitSpec : ChangeSpec := { name := "countSplit", fn := fun _ => fun
  | [d1, d2, d3, d4] => { results := [.lit (.bool true)], args := [d1, d2, d3, d4] }
  | _ => none }
def countSplitRow : OpenClaim := { program := "ytjbgogajnjefmaa", sum := "68a8ba4837586bccb224651b203f527c9c1fe681184624fa2f2074ba15ca3bbf", func := "windowpane/windowpanelaw11.CountSplit", spec := "countSplit", apart := false }
def CountSplitSaid : Prop := countSplitRow.holds Try.pinned (OpenSpec.ofChange countSplitSpec)

/-- ITS FALSE NEIGHBOUR: 'it returns false'. Refute it at one input. -/
def countSplitWrong : ChangeSpec := { name := "countSplit", fn := fun _ => fun
  | [d1, d2, d3, d4] => { results := [.lit (.bool false)], args := [d1, d2, d3, d4] }
  | _ => none }
def CountSplitWrongFalsely : Prop := countSplitRow.holds Try.pinned (OpenSpec.ofChange countSplitWrong)

/- THE SECOND FORM. 'bulk': how many values and letters a reading holds, each counted each time it is reached (what is shared counts as often as it is met; a slice's spare places count too). A statement '..UptoSaid' is the law's where the arguments, and the package variables that the reading takes, are together of bulk at most 1048576: NARROWER than '..Said'. Prove '..Said' where nothing that the law and all that it calls make is longer than what came in: it says more and counts as full. Else prove '..UptoSaid'. A law counts once. -/
mutual
def uptoBulk {H : Type} : DataW H → Nat
  | .lit (.string bytes) => bytes.length + 1
  | .lit _ => 1
  | .nil => 1
  | .ptr d => uptoBulk d + 1
  | .slice elems spare => uptoBulkAll elems + uptoBulkAll spare + 1
  | .agg parts => uptoBulkAll parts + 1
  | .iface _ d => uptoBulk d + 1
  | .map entries => uptoBulkEntries entries + 1
  | .held _ => 1
def uptoBulkAll {H : Type} : List (DataW H) → Nat
  | [] => 0
  | d :: r => uptoBulk d + uptoBulkAll r
def uptoBulkEntries {H : Type} : List (Lit × DataW H) → Nat
  | [] => 0
  | x :: r => uptoBulkEntry x + uptoBulkEntries r
def uptoBulkEntry {H : Type} : Lit × DataW H → Nat
  | (.string bytes, d) => bytes.length + uptoBulk d + 1
  | (_, d) => uptoBulk d + 1
 end
def uptoSmall : (H : Type) → List (DataW H) → Bool := fun _ ds => decide (uptoBulkAll ds ≤ 1048576)
def OpenSpec.upto (s : _root_.Go.ChangeSpec) : _root_.Go.OpenSpec := { _root_.Go.OpenSpec.ofChange s with cond := some uptoSmall }

/-- 'windowpanelaw11.CountNew', WHERE WHAT IT READS IS OF BULK AT MOST 1048576: true; the input reads as it did. -/
def countNewUptoRow : OpenClaim := { program := "ytjbgogajnjefmaa", sum := "68a8ba4837586bccb224651b203f527c9c1fe681184624fa2f2074ba15ca3bbf", func := "windowpane/windowpanelaw11.CountNew", spec := "countNew", apart := false, narrowed := true }
def CountNewUptoSaid : Prop := countNewUptoRow.holds Try.pinned (OpenSpec.upto countNewSpec)

/-- 'windowpanelaw11.CountStates', WHERE WHAT IT READS IS OF BULK AT MOST 1048576: true; the input reads as it did. -/
def countStatesUptoRow : OpenClaim := { program := "ytjbgogajnjefmaa", sum := "68a8ba4837586bccb224651b203f527c9c1fe681184624fa2f2074ba15ca3bbf", func := "windowpane/windowpanelaw11.CountStates", spec := "countStates", inPlace := ["math/bits.Sub64"], apart := false, narrowed := true }
def CountStatesUptoSaid : Prop := countStatesUptoRow.holds Try.pinned (OpenSpec.upto countStatesSpec)

/-- 'windowpanelaw11.CountTruth', WHERE WHAT IT READS IS OF BULK AT MOST 1048576: true; the input reads as it did. -/
def countTruthUptoRow : OpenClaim := { program := "ytjbgogajnjefmaa", sum := "68a8ba4837586bccb224651b203f527c9c1fe681184624fa2f2074ba15ca3bbf", func := "windowpane/windowpanelaw11.CountTruth", spec := "countTruth", inPlace := ["math/bits.Add64", "math/bits.Sub64"], apart := false, narrowed := true }
def CountTruthUptoSaid : Prop := countTruthUptoRow.holds Try.pinned (OpenSpec.upto countTruthSpec)

/-- 'windowpanelaw11.CountBoth', WHERE WHAT IT READS IS OF BULK AT MOST 1048576: true; the input reads as it did. -/
def countBothUptoRow : OpenClaim := { program := "ytjbgogajnjefmaa", sum := "68a8ba4837586bccb224651b203f527c9c1fe681184624fa2f2074ba15ca3bbf", func := "windowpane/windowpanelaw11.CountBoth", spec := "countBoth", inPlace := ["math/bits.Add64", "math/bits.Sub64"], named := ["math/bits.divideError", "math/bits.overflowError"], apart := false, narrowed := true }
def CountBothUptoSaid : Prop := countBothUptoRow.holds Try.pinned (OpenSpec.upto countBothSpec)

/-- 'windowpanelaw11.CountSplit', WHERE WHAT IT READS IS OF BULK AT MOST 1048576: true; the input reads as it did. -/
def countSplitUptoRow : OpenClaim := { program := "ytjbgogajnjefmaa", sum := "68a8ba4837586bccb224651b203f527c9c1fe681184624fa2f2074ba15ca3bbf", func := "windowpane/windowpanelaw11.CountSplit", spec := "countSplit", apart := false, narrowed := true }
def CountSplitUptoSaid : Prop := countSplitUptoRow.holds Try.pinned (OpenSpec.upto countSplitSpec)

end Rows
end Go.Proofs.Ytjbgogajnjefmaa
