/-
  No cell of these rows narrows 'for every input' (looked for: loops, veiled, ifaces, maps, wideKeys, modest, calm, conditions, laid).
  DERIVED. THE GIVEN ROWS OF THIS SEAT. 4 by the template 'for every input the law returns true; each argument reads behind the call as it read before'; 0 by the template 'total and deterministic' (their statements: YtflahclphdlolaaTotals.lean).
  GIVEN WITH THE SEED: the statements are not yours to turn. If you find one false, say at which input.
  Laid BY PROGRAM, IN A SANDBOX (cutbox-rows.mjs): the forced cells as the released guide's own fill.sh prints them over the translation ec210ae8eb1983f4… (all of the seat's roots in one cut). By AI agents, Wed Nov 11 2026. No macro, syntax, notation, axiom, sorry.
-/
import Derived.Test.YtflahclphdlolaaChecked
import GoSem.Claim
import GoSem.ClaimJoined
import GoSem.ClaimMapViews
import Derived.JoinedTies
import Derived.KernelRfl
namespace Go.Proofs.Ytflahclphdlolaa
/- THE CELL 'sum', in the pinned program and in every row, IS THE sha256 OF THE DUMP (.gsa) THAT YtflahclphdlolaaProg.lean LOADS. Nothing in Lean hashes anything: it is a label: what it is worth is what the hold of that sum in a sandbox is worth. -/
noncomputable def Try.pinned : Pinned := { name := "ytflahclphdlolaa", sum := "ec210ae8eb1983f4676cd6bef99dc32eafc24f1ebe653e013ebc8caf2e0f3a0c", checked := Try.checked }
namespace Rows
def none {H : Type} : Left H := { results := [], args := [] }

/-- 'windowpanelaw09.RecentNew': WHATEVER THE INPUT: true; the input reads as it did. -/
def recentNewSpec : ChangeSpec := { name := "recentNew", fn := fun _ => fun
  | [d1, d2, d3] => { results := [.lit (.bool true)], args := [d1, d2, d3] }
  | _ => none }
def recentNewRow : OpenClaim := { program := "ytflahclphdlolaa", sum := "ec210ae8eb1983f4676cd6bef99dc32eafc24f1ebe653e013ebc8caf2e0f3a0c", func := "windowpane/windowpanelaw09.RecentNew", spec := "recentNew", apart := false }
def RecentNewSaid : Prop := recentNewRow.holds Try.pinned (OpenSpec.ofChange recentNewSpec)

/-- ITS FALSE NEIGHBOUR: 'it returns false'. Refute it at one input. -/
def recentNewWrong : ChangeSpec := { name := "recentNew", fn := fun _ => fun
  | [d1, d2, d3] => { results := [.lit (.bool false)], args := [d1, d2, d3] }
  | _ => none }
def RecentNewWrongFalsely : Prop := recentNewRow.holds Try.pinned (OpenSpec.ofChange recentNewWrong)

/-- 'windowpanelaw09.RecentStates': WHATEVER THE INPUT: true; the input reads as it did. -/
def recentStatesSpec : ChangeSpec := { name := "recentStates", fn := fun _ => fun
  | [d1, d2, d3] => { results := [.lit (.bool true)], args := [d1, d2, d3] }
  | _ => none }
def recentStatesRow : OpenClaim := { program := "ytflahclphdlolaa", sum := "ec210ae8eb1983f4676cd6bef99dc32eafc24f1ebe653e013ebc8caf2e0f3a0c", func := "windowpane/windowpanelaw09.RecentStates", spec := "recentStates", apart := false }
def RecentStatesSaid : Prop := recentStatesRow.holds Try.pinned (OpenSpec.ofChange recentStatesSpec)

/-- ITS FALSE NEIGHBOUR: 'it returns false'. Refute it at one input. -/
def recentStatesWrong : ChangeSpec := { name := "recentStates", fn := fun _ => fun
  | [d1, d2, d3] => { results := [.lit (.bool false)], args := [d1, d2, d3] }
  | _ => none }
def RecentStatesWrongFalsely : Prop := recentStatesRow.holds Try.pinned (OpenSpec.ofChange recentStatesWrong)

/-- 'windowpanelaw09.RecentRuns': WHATEVER THE INPUT: true; the input reads as it did. -/
def recentRunsSpec : ChangeSpec := { name := "recentRuns", fn := fun _ => fun
  | [d1, d2, d3] => { results := [.lit (.bool true)], args := [d1, d2, d3] }
  | _ => none }
def recentRunsRow : OpenClaim := { program := "ytflahclphdlolaa", sum := "ec210ae8eb1983f4676cd6bef99dc32eafc24f1ebe653e013ebc8caf2e0f3a0c", func := "windowpane/windowpanelaw09.RecentRuns", spec := "recentRuns", apart := false }
def RecentRunsSaid : Prop := recentRunsRow.holds Try.pinned (OpenSpec.ofChange recentRunsSpec)

/-- ITS FALSE NEIGHBOUR: 'it returns false'. Refute it at one input. -/
def recentRunsWrong : ChangeSpec := { name := "recentRuns", fn := fun _ => fun
  | [d1, d2, d3] => { results := [.lit (.bool false)], args := [d1, d2, d3] }
  | _ => none }
def RecentRunsWrongFalsely : Prop := recentRunsRow.holds Try.pinned (OpenSpec.ofChange recentRunsWrong)

/-- 'windowpanelaw09.RecentTruth': WHATEVER THE INPUT: true; the input reads as it did. -/
def recentTruthSpec : ChangeSpec := { name := "recentTruth", fn := fun _ => fun
  | [d1, d2, d3, d4, d5] => { results := [.lit (.bool true)], args := [d1, d2, d3, d4, d5] }
  | _ => none }
def recentTruthRow : OpenClaim := { program := "ytflahclphdlolaa", sum := "ec210ae8eb1983f4676cd6bef99dc32eafc24f1ebe653e013ebc8caf2e0f3a0c", func := "windowpane/windowpanelaw09.RecentTruth", spec := "recentTruth", inPlace := ["math/bits.Add64", "math/bits.Sub64"], recurses := true, named := ["math/bits.divideError", "math/bits.overflowError"], apart := false }
def RecentTruthSaid : Prop := recentTruthRow.holds Try.pinned (OpenSpec.ofChange recentTruthSpec)

/-- ITS FALSE NEIGHBOUR: 'it returns false'. Refute it at one input. -/
def recentTruthWrong : ChangeSpec := { name := "recentTruth", fn := fun _ => fun
  | [d1, d2, d3, d4, d5] => { results := [.lit (.bool false)], args := [d1, d2, d3, d4, d5] }
  | _ => none }
def RecentTruthWrongFalsely : Prop := recentTruthRow.holds Try.pinned (OpenSpec.ofChange recentTruthWrong)

/- THE SECOND FORM. 'bulk': how many values and letters a reading holds, each counted each time it is reached (what is shared counts as often as it is met; a slice's spare places count too). A statement '..UptoSaid' is the law's where the arguments, and the package variables that the reading takes, are together of bulk at most 1048576: NARROWER than '..Said'. Prove '..Said' where nothing that the law and all that it calls make is longer than what came in: it says more and counts as full. Else prove '..UptoSaid'. A law counts once. -/
mutual
def uptoBulk {H : Type} : DataW H → Nat
  | .lit (.string bytes) => bytes.length + 1
  | .lit _ => 1
  | .nil => 1
  | .ptr d => uptoBulk d + 1
  | .slice elems spare => uptoBulkAll elems + uptoBulkAll spare + 1
  | .agg parts => uptoBulkAll parts + 1
  | .iface _ d => uptoBulk d + 1
  | .map entries => uptoBulkEntries entries + 1
  | .held _ => 1
def uptoBulkAll {H : Type} : List (DataW H) → Nat
  | [] => 0
  | d :: r => uptoBulk d + uptoBulkAll r
def uptoBulkEntries {H : Type} : List (Lit × DataW H) → Nat
  | [] => 0
  | x :: r => uptoBulkEntry x + uptoBulkEntries r
def uptoBulkEntry {H : Type} : Lit × DataW H → Nat
  | (.string bytes, d) => bytes.length + uptoBulk d + 1
  | (_, d) => uptoBulk d + 1
 end
def uptoSmall : (H : Type) → List (DataW H) → Bool := fun _ ds => decide (uptoBulkAll ds ≤ 1048576)
def OpenSpec.upto (s : _root_.Go.ChangeSpec) : _root_.Go.OpenSpec := { _root_.Go.OpenSpec.ofChange s with cond := some uptoSmall }

/-- 'windowpanelaw09.RecentNew', WHERE WHAT IT READS IS OF BULK AT MOST 1048576: true; the input reads as it did. -/
def recentNewUptoRow : OpenClaim := { program := "ytflahclphdlolaa", sum := "ec210ae8eb1983f4676cd6bef99dc32eafc24f1ebe653e013ebc8caf2e0f3a0c", func := "windowpane/windowpanelaw09.RecentNew", spec := "recentNew", apart := false, narrowed := true }
def RecentNewUptoSaid : Prop := recentNewUptoRow.holds Try.pinned (OpenSpec.upto recentNewSpec)

/-- 'windowpanelaw09.RecentStates', WHERE WHAT IT READS IS OF BULK AT MOST 1048576: true; the input reads as it did. -/
def recentStatesUptoRow : OpenClaim := { program := "ytflahclphdlolaa", sum := "ec210ae8eb1983f4676cd6bef99dc32eafc24f1ebe653e013ebc8caf2e0f3a0c", func := "windowpane/windowpanelaw09.RecentStates", spec := "recentStates", apart := false, narrowed := true }
def RecentStatesUptoSaid : Prop := recentStatesUptoRow.holds Try.pinned (OpenSpec.upto recentStatesSpec)

/-- 'windowpanelaw09.RecentRuns', WHERE WHAT IT READS IS OF BULK AT MOST 1048576: true; the input reads as it did. -/
def recentRunsUptoRow : OpenClaim := { program := "ytflahclphdlolaa", sum := "ec210ae8eb1983f4676cd6bef99dc32eafc24f1ebe653e013ebc8caf2e0f3a0c", func := "windowpane/windowpanelaw09.RecentRuns", spec := "recentRuns", apart := false, narrowed := true }
def RecentRunsUptoSaid : Prop := recentRunsUptoRow.holds Try.pinned (OpenSpec.upto recentRunsSpec)

/-- 'windowpanelaw09.RecentTruth', WHERE WHAT IT READS IS OF BULK AT MOST 1048576: true; the input reads as it did. -/
def recentTruthUptoRow : OpenClaim := { program := "ytflahclphdlolaa", sum := "ec210ae8eb1983f4676cd6bef99dc32eafc24f1ebe653e013ebc8caf2e0f3a0c", func := "windowpane/windowpanelaw09.RecentTruth", spec := "recentTruth", inPlace := ["math/bits.Add64", "math/bits.Sub64"], recurses := true, named := ["math/bits.divideError", "math/bits.overflowError"], apart := false, narrowed := true }
def RecentTruthUptoSaid : Prop := recentTruthUptoRow.holds Try.pinned (OpenSpec.upto recentTruthSpec)

end Rows
end Go.Proofs.Ytflahclphdlolaa
