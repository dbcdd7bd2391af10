/-
  No cell of these rows narrows 'for every input' (looked for: loops, veiled, ifaces, maps, wideKeys, modest, calm, conditions, laid).
  DERIVED. THE GIVEN ROWS OF THIS SEAT. 5 by the template 'for every input the law returns true; each argument reads behind the call as it read before'; 0 by the template 'total and deterministic' (their statements: YtfdjhahnggdklaaTotals.lean).
  GIVEN WITH THE SEED: the statements are not yours to turn. If you find one false, say at which input.
  Laid BY PROGRAM, IN A SANDBOX (cutbox-rows.mjs): the forced cells as the released guide's own fill.sh prints them over the translation 03562af7706cfdd6… (all of the seat's roots in one cut). By AI agents, Wed Nov 11 2026. No macro, syntax, notation, axiom, sorry.
-/
import Derived.Test.YtfdjhahnggdklaaChecked
import GoSem.Claim
import GoSem.ClaimJoined
import GoSem.ClaimMapViews
import Derived.JoinedTies
import Derived.KernelRfl
namespace Go.Proofs.Ytfdjhahnggdklaa
/- THE CELL 'sum', in the pinned program and in every row, IS THE sha256 OF THE DUMP (.gsa) THAT YtfdjhahnggdklaaProg.lean LOADS. Nothing in Lean hashes anything: it is a label: what it is worth is what the hold of that sum in a sandbox is worth. -/
noncomputable def Try.pinned : Pinned := { name := "ytfdjhahnggdklaa", sum := "03562af7706cfdd6bd861125abcbe0448b6d3aeb6a9a7e20da032df48086f527", checked := Try.checked }
namespace Rows
def none {H : Type} : Left H := { results := [], args := [] }

/-- 'windowpanelaw12.SumNew': WHATEVER THE INPUT: true; the input reads as it did. -/
def sumNewSpec : ChangeSpec := { name := "sumNew", fn := fun _ => fun
  | [d1, d2, d3, d4, d5] => { results := [.lit (.bool true)], args := [d1, d2, d3, d4, d5] }
  | _ => none }
def sumNewRow : OpenClaim := { program := "ytfdjhahnggdklaa", sum := "03562af7706cfdd6bd861125abcbe0448b6d3aeb6a9a7e20da032df48086f527", func := "windowpane/windowpanelaw12.SumNew", spec := "sumNew", apart := false }
def SumNewSaid : Prop := sumNewRow.holds Try.pinned (OpenSpec.ofChange sumNewSpec)

/-- ITS FALSE NEIGHBOUR: 'it returns false'. Refute it at one input. -/
def sumNewWrong : ChangeSpec := { name := "sumNew", fn := fun _ => fun
  | [d1, d2, d3, d4, d5] => { results := [.lit (.bool false)], args := [d1, d2, d3, d4, d5] }
  | _ => none }
def SumNewWrongFalsely : Prop := sumNewRow.holds Try.pinned (OpenSpec.ofChange sumNewWrong)

/-- 'windowpanelaw12.SumStates': WHATEVER THE INPUT: true; the input reads as it did. -/
def sumStatesSpec : ChangeSpec := { name := "sumStates", fn := fun _ => fun
  | [d1, d2, d3] => { results := [.lit (.bool true)], args := [d1, d2, d3] }
  | _ => none }
def sumStatesRow : OpenClaim := { program := "ytfdjhahnggdklaa", sum := "03562af7706cfdd6bd861125abcbe0448b6d3aeb6a9a7e20da032df48086f527", func := "windowpane/windowpanelaw12.SumStates", spec := "sumStates", inPlace := ["math/bits.Sub64"], apart := false }
def SumStatesSaid : Prop := sumStatesRow.holds Try.pinned (OpenSpec.ofChange sumStatesSpec)

/-- ITS FALSE NEIGHBOUR: 'it returns false'. Refute it at one input. -/
def sumStatesWrong : ChangeSpec := { name := "sumStates", fn := fun _ => fun
  | [d1, d2, d3] => { results := [.lit (.bool false)], args := [d1, d2, d3] }
  | _ => none }
def SumStatesWrongFalsely : Prop := sumStatesRow.holds Try.pinned (OpenSpec.ofChange sumStatesWrong)

/-- 'windowpanelaw12.SumTruth': WHATEVER THE INPUT: true; the input reads as it did. -/
def sumTruthSpec : ChangeSpec := { name := "sumTruth", fn := fun _ => fun
  | [d1, d2, d3, d4, d5, d6] => { results := [.lit (.bool true)], args := [d1, d2, d3, d4, d5, d6] }
  | _ => none }
def sumTruthRow : OpenClaim := { program := "ytfdjhahnggdklaa", sum := "03562af7706cfdd6bd861125abcbe0448b6d3aeb6a9a7e20da032df48086f527", func := "windowpane/windowpanelaw12.SumTruth", spec := "sumTruth", inPlace := ["math/bits.Add64", "math/bits.Sub64"], apart := false }
def SumTruthSaid : Prop := sumTruthRow.holds Try.pinned (OpenSpec.ofChange sumTruthSpec)

/-- ITS FALSE NEIGHBOUR: 'it returns false'. Refute it at one input. -/
def sumTruthWrong : ChangeSpec := { name := "sumTruth", fn := fun _ => fun
  | [d1, d2, d3, d4, d5, d6] => { results := [.lit (.bool false)], args := [d1, d2, d3, d4, d5, d6] }
  | _ => none }
def SumTruthWrongFalsely : Prop := sumTruthRow.holds Try.pinned (OpenSpec.ofChange sumTruthWrong)

/-- 'windowpanelaw12.SumCounts': WHATEVER THE INPUT: true; the input reads as it did. -/
def sumCountsSpec : ChangeSpec := { name := "sumCounts", fn := fun _ => fun
  | [d1, d2, d3] => { results := [.lit (.bool true)], args := [d1, d2, d3] }
  | _ => none }
def sumCountsRow : OpenClaim := { program := "ytfdjhahnggdklaa", sum := "03562af7706cfdd6bd861125abcbe0448b6d3aeb6a9a7e20da032df48086f527", func := "windowpane/windowpanelaw12.SumCounts", spec := "sumCounts", apart := false }
def SumCountsSaid : Prop := sumCountsRow.holds Try.pinned (OpenSpec.ofChange sumCountsSpec)

/-- ITS FALSE NEIGHBOUR: 'it returns false'. Refute it at one input. -/
def sumCountsWrong : ChangeSpec := { name := "sumCounts", fn := fun _ => fun
  | [d1, d2, d3] => { results := [.lit (.bool false)], args := [d1, d2, d3] }
  | _ => none }
def SumCountsWrongFalsely : Prop := sumCountsRow.holds Try.pinned (OpenSpec.ofChange sumCountsWrong)

/-- 'windowpanelaw12.SumSplits': WHATEVER THE INPUT: true; the input reads as it did. -/
def sumSplitsSpec : ChangeSpec := { name := "sumSplits", fn := fun _ => fun
  | [d1, d2, d3, d4] => { results := [.lit (.bool true)], args := [d1, d2, d3, d4] }
  | _ => none }
def sumSplitsRow : OpenClaim := { program := "ytfdjhahnggdklaa", sum := "03562af7706cfdd6bd861125abcbe0448b6d3aeb6a9a7e20da032df48086f527", func := "windowpane/windowpanelaw12.SumSplits", spec := "sumSplits", apart := false }
def SumSplitsSaid : Prop := sumSplitsRow.holds Try.pinned (OpenSpec.ofChange sumSplitsSpec)

/-- ITS FALSE NEIGHBOUR: 'it returns false'. Refute it at one input. -/
def sumSplitsWrong : ChangeSpec := { name := "sumSplits", fn := fun _ => fun
  | [d1, d2, d3, d4] => { results := [.lit (.bool false)], args := [d1, d2, d3, d4] }
  | _ => none }
def SumSplitsWrongFalsely : Prop := sumSplitsRow.holds Try.pinned (OpenSpec.ofChange sumSplitsWrong)

/- THE SECOND FORM. 'bulk': how many values and letters a reading holds, each counted each time it is reached (what is shared counts as often as it is met; a slice's spare places count too). A statement '..UptoSaid' is the law's where the arguments, and the package variables that the reading takes, are together of bulk at most 1048576: NARROWER than '..Said'. Prove '..Said' where nothing that the law and all that it calls make is longer than what came in: it says more and counts as full. Else prove '..UptoSaid'. A law counts once. -/
mutual
def uptoBulk {H : Type} : DataW H → Nat
  | .lit (.string bytes) => bytes.length + 1
  | .lit _ => 1
  | .nil => 1
  | .ptr d => uptoBulk d + 1
  | .slice elems spare => uptoBulkAll elems + uptoBulkAll spare + 1
  | .agg parts => uptoBulkAll parts + 1
  | .iface _ d => uptoBulk d + 1
  | .map entries => uptoBulkEntries entries + 1
  | .held _ => 1
def uptoBulkAll {H : Type} : List (DataW H) → Nat
  | [] => 0
  | d :: r => uptoBulk d + uptoBulkAll r
def uptoBulkEntries {H : Type} : List (Lit × DataW H) → Nat
  | [] => 0
  | x :: r => uptoBulkEntry x + uptoBulkEntries r
def uptoBulkEntry {H : Type} : Lit × DataW H → Nat
  | (.string bytes, d) => bytes.length + uptoBulk d + 1
  | (_, d) => uptoBulk d + 1
 end
def uptoSmall : (H : Type) → List (DataW H) → Bool := fun _ ds => decide (uptoBulkAll ds ≤ 1048576)
def OpenSpec.upto (s : _root_.Go.ChangeSpec) : _root_.Go.OpenSpec := { _root_.Go.OpenSpec.ofChange s with cond := some uptoSmall }

/-- 'windowpanelaw12.SumNew', WHERE WHAT IT READS IS OF BULK AT MOST 1048576: true; the input reads as it did. -/
def sumNewUptoRow : OpenClaim := { program := "ytfdjhahnggdklaa", sum := "03562af7706cfdd6bd861125abcbe0448b6d3aeb6a9a7e20da032df48086f527", func := "windowpane/windowpanelaw12.SumNew", spec := "sumNew", apart := false, narrowed := true }
def SumNewUptoSaid : Prop := sumNewUptoRow.holds Try.pinned (OpenSpec.upto sumNewSpec)

/-- 'windowpanelaw12.SumStates', WHERE WHAT IT READS IS OF BULK AT MOST 1048576: true; the input reads as it did. -/
def sumStatesUptoRow : OpenClaim := { program := "ytfdjhahnggdklaa", sum := "03562af7706cfdd6bd861125abcbe0448b6d3aeb6a9a7e20da032df48086f527", func := "windowpane/windowpanelaw12.SumStates", spec := "sumStates", inPlace := ["math/bits.Sub64"], apart := false, narrowed := true }
def SumStatesUptoSaid : Prop := sumStatesUptoRow.holds Try.pinned (OpenSpec.upto sumStatesSpec)

/-- 'windowpanelaw12.SumTruth', WHERE WHAT IT READS IS OF BULK AT MOST 1048576: true; the input reads as it did. -/
def sumTruthUptoRow : OpenClaim := { program := "ytfdjhahnggdklaa", sum := "03562af7706cfdd6bd861125abcbe0448b6d3aeb6a9a7e20da032df48086f527", func := "windowpane/windowpanelaw12.SumTruth", spec := "sumTruth", inPlace := ["math/bits.Add64", "math/bits.Sub64"], apart := false, narrowed := true }
def SumTruthUptoSaid : Prop := sumTruthUptoRow.holds Try.pinned (OpenSpec.upto sumTruthSpec)

/-- 'windowpanelaw12.SumCounts', WHERE WHAT IT READS IS OF BULK AT MOST 1048576: true; the input reads as it did. -/
def sumCountsUptoRow : OpenClaim := { program := "ytfdjhahnggdklaa", sum := "03562af7706cfdd6bd861125abcbe0448b6d3aeb6a9a7e20da032df48086f527", func := "windowpane/windowpanelaw12.SumCounts", spec := "sumCounts", apart := false, narrowed := true }
def SumCountsUptoSaid : Prop := sumCountsUptoRow.holds Try.pinned (OpenSpec.upto sumCountsSpec)

/-- 'windowpanelaw12.SumSplits', WHERE WHAT IT READS IS OF BULK AT MOST 1048576: true; the input reads as it did. -/
def sumSplitsUptoRow : OpenClaim := { program := "ytfdjhahnggdklaa", sum := "03562af7706cfdd6bd861125abcbe0448b6d3aeb6a9a7e20da032df48086f527", func := "windowpane/windowpanelaw12.SumSplits", spec := "sumSplits", apart := false, narrowed := true }
def SumSplitsUptoSaid : Prop := sumSplitsUptoRow.holds Try.pinned (OpenSpec.upto sumSplitsSpec)

end Rows
end Go.Proofs.Ytfdjhahnggdklaa
