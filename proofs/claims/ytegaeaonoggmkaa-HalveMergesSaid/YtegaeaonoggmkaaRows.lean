/-
  No cell of these rows narrows 'for every input' (looked for: loops, veiled, ifaces, maps, wideKeys, modest, calm, conditions, laid).
  DERIVED. THE GIVEN ROWS OF THIS SEAT. 6 by the template 'for every input the law returns true; each argument reads behind the call as it read before'; 0 by the template 'total and deterministic' (their statements: YtegaeaonoggmkaaTotals.lean).
  GIVEN WITH THE SEED: the statements are not yours to turn. If you find one false, say at which input.
  Laid BY PROGRAM, IN A SANDBOX (cutbox-rows.mjs): the forced cells as the released guide's own fill.sh prints them over the translation 94187d531bda587b… (all of the seat's roots in one cut). By AI agents, Wed Nov 11 2026. No macro, syntax, notation, axiom, sorry.
-/
import Derived.Test.YtegaeaonoggmkaaChecked
import GoSem.Claim
import GoSem.ClaimJoined
import GoSem.ClaimMapViews
import Derived.JoinedTies
import Derived.KernelRfl
namespace Go.Proofs.Ytegaeaonoggmkaa
/- THE CELL 'sum', in the pinned program and in every row, IS THE sha256 OF THE DUMP (.gsa) THAT YtegaeaonoggmkaaProg.lean LOADS. Nothing in Lean hashes anything: it is a label: what it is worth is what the hold of that sum in a sandbox is worth. -/
noncomputable def Try.pinned : Pinned := { name := "ytegaeaonoggmkaa", sum := "94187d531bda587b57272c7ee88631274f43a01693d16489bbb24a42deca3308", checked := Try.checked }
namespace Rows
def none {H : Type} : Left H := { results := [], args := [] }

/-- 'windowpanelaw16.HalveNew': WHATEVER THE INPUT: true; the input reads as it did. -/
def halveNewSpec : ChangeSpec := { name := "halveNew", fn := fun _ => fun
  | [d1, d2] => { results := [.lit (.bool true)], args := [d1, d2] }
  | _ => none }
def halveNewRow : OpenClaim := { program := "ytegaeaonoggmkaa", sum := "94187d531bda587b57272c7ee88631274f43a01693d16489bbb24a42deca3308", func := "windowpane/windowpanelaw16.HalveNew", spec := "halveNew", inPlace := ["math/bits.Add64"], apart := false }
def HalveNewSaid : Prop := halveNewRow.holds Try.pinned (OpenSpec.ofChange halveNewSpec)

/-- ITS FALSE NEIGHBOUR: 'it returns false'. Refute it at one input. -/
def halveNewWrong : ChangeSpec := { name := "halveNew", fn := fun _ => fun
  | [d1, d2] => { results := [.lit (.bool false)], args := [d1, d2] }
  | _ => none }
def HalveNewWrongFalsely : Prop := halveNewRow.holds Try.pinned (OpenSpec.ofChange halveNewWrong)

/-- 'windowpanelaw16.HalveStates': WHATEVER THE INPUT: true; the input reads as it did. -/
def halveStatesSpec : ChangeSpec := { name := "halveStates", fn := fun _ => fun
  | [d1, d2, d3] => { results := [.lit (.bool true)], args := [d1, d2, d3] }
  | _ => none }
def halveStatesRow : OpenClaim := { program := "ytegaeaonoggmkaa", sum := "94187d531bda587b57272c7ee88631274f43a01693d16489bbb24a42deca3308", func := "windowpane/windowpanelaw16.HalveStates", spec := "halveStates", inPlace := ["math/bits.Add64"], apart := false }
def HalveStatesSaid : Prop := halveStatesRow.holds Try.pinned (OpenSpec.ofChange halveStatesSpec)

/-- ITS FALSE NEIGHBOUR: 'it returns false'. Refute it at one input. -/
def halveStatesWrong : ChangeSpec := { name := "halveStates", fn := fun _ => fun
  | [d1, d2, d3] => { results := [.lit (.bool false)], args := [d1, d2, d3] }
  | _ => none }
def HalveStatesWrongFalsely : Prop := halveStatesRow.holds Try.pinned (OpenSpec.ofChange halveStatesWrong)

/-- 'windowpanelaw16.HalveMerges': WHATEVER THE INPUT: true; the input reads as it did. -/
def halveMergesSpec : ChangeSpec := { name := "halveMerges", fn := fun _ => fun
  | [d1, d2] => { results := [.lit (.bool true)], args := [d1, d2] }
  | _ => none }
def halveMergesRow : OpenClaim := { program := "ytegaeaonoggmkaa", sum := "94187d531bda587b57272c7ee88631274f43a01693d16489bbb24a42deca3308", func := "windowpane/windowpanelaw16.HalveMerges", spec := "halveMerges", inPlace := ["math/bits.Add64"], apart := false }
def HalveMergesSaid : Prop := halveMergesRow.holds Try.pinned (OpenSpec.ofChange halveMergesSpec)

/-- ITS FALSE NEIGHBOUR: 'it returns false'. Refute it at one input. -/
def halveMergesWrong : ChangeSpec := { name := "halveMerges", fn := fun _ => fun
  | [d1, d2] => { results := [.lit (.bool false)], args := [d1, d2] }
  | _ => none }
def HalveMergesWrongFalsely : Prop := halveMergesRow.holds Try.pinned (OpenSpec.ofChange halveMergesWrong)

/-- 'windowpanelaw16.HalveTruth': WHATEVER THE INPUT: true; the input reads as it did. -/
def halveTruthSpec : ChangeSpec := { name := "halveTruth", fn := fun _ => fun
  | [d1, d2, d3] => { results := [.lit (.bool true)], args := [d1, d2, d3] }
  | _ => none }
def halveTruthRow : OpenClaim := { program := "ytegaeaonoggmkaa", sum := "94187d531bda587b57272c7ee88631274f43a01693d16489bbb24a42deca3308", func := "windowpane/windowpanelaw16.HalveTruth", spec := "halveTruth", inPlace := ["math/bits.Add64"], apart := false }
def HalveTruthSaid : Prop := halveTruthRow.holds Try.pinned (OpenSpec.ofChange halveTruthSpec)

/-- ITS FALSE NEIGHBOUR: 'it returns false'. Refute it at one input. -/
def halveTruthWrong : ChangeSpec := { name := "halveTruth", fn := fun _ => fun
  | [d1, d2, d3] => { results := [.lit (.bool false)], args := [d1, d2, d3] }
  | _ => none }
def HalveTruthWrongFalsely : Prop := halveTruthRow.holds Try.pinned (OpenSpec.ofChange halveTruthWrong)

/-- 'windowpanelaw16.HalveBoth': WHATEVER THE INPUT: true; the input reads as it did. -/
def halveBothSpec : ChangeSpec := { name := "halveBoth", fn := fun _ => fun
  | [d1, d2, d3] => { results := [.lit (.bool true)], args := [d1, d2, d3] }
  | _ => none }
def halveBothRow : OpenClaim := { program := "ytegaeaonoggmkaa", sum := "94187d531bda587b57272c7ee88631274f43a01693d16489bbb24a42deca3308", func := "windowpane/windowpanelaw16.HalveBoth", spec := "halveBoth", inPlace := ["math/bits.Add64"], apart := false }
def HalveBothSaid : Prop := halveBothRow.holds Try.pinned (OpenSpec.ofChange halveBothSpec)

/-- ITS FALSE NEIGHBOUR: 'it returns false'. Refute it at one input. -/
def halveBothWrong : ChangeSpec := { name := "halveBoth", fn := fun _ => fun
  | [d1, d2, d3] => { results := [.lit (.bool false)], args := [d1, d2, d3] }
  | _ => none }
def HalveBothWrongFalsely : Prop := halveBothRow.holds Try.pinned (OpenSpec.ofChange halveBothWrong)

/-- 'windowpanelaw16.HalveSplit': WHATEVER THE INPUT: true; the input reads as it did. -/
def halveSplitSpec : ChangeSpec := { name := "halveSplit", fn := fun _ => fun
  | [d1, d2, d3] => { results := [.lit (.bool true)], args := [d1, d2, d3] }
  | _ => none }
def halveSplitRow : OpenClaim := { program := "ytegaeaonoggmkaa", sum := "94187d531bda587b57272c7ee88631274f43a01693d16489bbb24a42deca3308", func := "windowpane/windowpanelaw16.HalveSplit", spec := "halveSplit", inPlace := ["math/bits.Add64"], apart := false }
def HalveSplitSaid : Prop := halveSplitRow.holds Try.pinned (OpenSpec.ofChange halveSplitSpec)

/-- ITS FALSE NEIGHBOUR: 'it returns false'. Refute it at one input. -/
def halveSplitWrong : ChangeSpec := { name := "halveSplit", fn := fun _ => fun
  | [d1, d2, d3] => { results := [.lit (.bool false)], args := [d1, d2, d3] }
  | _ => none }
def HalveSplitWrongFalsely : Prop := halveSplitRow.holds Try.pinned (OpenSpec.ofChange halveSplitWrong)

/- THE SECOND FORM. 'bulk': how many values and letters a reading holds, each counted each time it is reached (what is shared counts as often as it is met; a slice's spare places count too). A statement '..UptoSaid' is the law's where the arguments, and the package variables that the reading takes, are together of bulk at most 1048576: NARROWER than '..Said'. Prove '..Said' where nothing that the law and all that it calls make is longer than what came in: it says more and counts as full. Else prove '..UptoSaid'. A law counts once. -/
mutual
def uptoBulk {H : Type} : DataW H → Nat
  | .lit (.string bytes) => bytes.length + 1
  | .lit _ => 1
  | .nil => 1
  | .ptr d => uptoBulk d + 1
  | .slice elems spare => uptoBulkAll elems + uptoBulkAll spare + 1
  | .agg parts => uptoBulkAll parts + 1
  | .iface _ d => uptoBulk d + 1
  | .map entries => uptoBulkEntries entries + 1
  | .held _ => 1
def uptoBulkAll {H : Type} : List (DataW H) → Nat
  | [] => 0
  | d :: r => uptoBulk d + uptoBulkAll r
def uptoBulkEntries {H : Type} : List (Lit × DataW H) → Nat
  | [] => 0
  | x :: r => uptoBulkEntry x + uptoBulkEntries r
def uptoBulkEntry {H : Type} : Lit × DataW H → Nat
  | (.string bytes, d) => bytes.length + uptoBulk d + 1
  | (_, d) => uptoBulk d + 1
 end
def uptoSmall : (H : Type) → List (DataW H) → Bool := fun _ ds => decide (uptoBulkAll ds ≤ 1048576)
def OpenSpec.upto (s : _root_.Go.ChangeSpec) : _root_.Go.OpenSpec := { _root_.Go.OpenSpec.ofChange s with cond := some uptoSmall }

/-- 'windowpanelaw16.HalveNew', WHERE WHAT IT READS IS OF BULK AT MOST 1048576: true; the input reads as it did. -/
def halveNewUptoRow : OpenClaim := { program := "ytegaeaonoggmkaa", sum := "94187d531bda587b57272c7ee88631274f43a01693d16489bbb24a42deca3308", func := "windowpane/windowpanelaw16.HalveNew", spec := "halveNew", inPlace := ["math/bits.Add64"], apart := false, narrowed := true }
def HalveNewUptoSaid : Prop := halveNewUptoRow.holds Try.pinned (OpenSpec.upto halveNewSpec)

/-- 'windowpanelaw16.HalveStates', WHERE WHAT IT READS IS OF BULK AT MOST 1048576: true; the input reads as it did. -/
def halveStatesUptoRow : OpenClaim := { program := "ytegaeaonoggmkaa", sum := "94187d531bda587b57272c7ee88631274f43a01693d16489bbb24a42deca3308", func := "windowpane/windowpanelaw16.HalveStates", spec := "halveStates", inPlace := ["math/bits.Add64"], apart := false, narrowed := true }
def HalveStatesUptoSaid : Prop := halveStatesUptoRow.holds Try.pinned (OpenSpec.upto halveStatesSpec)

/-- 'windowpanelaw16.HalveMerges', WHERE WHAT IT READS IS OF BULK AT MOST 1048576: true; the input reads as it did. -/
def halveMergesUptoRow : OpenClaim := { program := "ytegaeaonoggmkaa", sum := "94187d531bda587b57272c7ee88631274f43a01693d16489bbb24a42deca3308", func := "windowpane/windowpanelaw16.HalveMerges", spec := "halveMerges", inPlace := ["math/bits.Add64"], apart := false, narrowed := true }
def HalveMergesUptoSaid : Prop := halveMergesUptoRow.holds Try.pinned (OpenSpec.upto halveMergesSpec)

/-- 'windowpanelaw16.HalveTruth', WHERE WHAT IT READS IS OF BULK AT MOST 1048576: true; the input reads as it did. -/
def halveTruthUptoRow : OpenClaim := { program := "ytegaeaonoggmkaa", sum := "94187d531bda587b57272c7ee88631274f43a01693d16489bbb24a42deca3308", func := "windowpane/windowpanelaw16.HalveTruth", spec := "halveTruth", inPlace := ["math/bits.Add64"], apart := false, narrowed := true }
def HalveTruthUptoSaid : Prop := halveTruthUptoRow.holds Try.pinned (OpenSpec.upto halveTruthSpec)

/-- 'windowpanelaw16.HalveBoth', WHERE WHAT IT READS IS OF BULK AT MOST 1048576: true; the input reads as it did. -/
def halveBothUptoRow : OpenClaim := { program := "ytegaeaonoggmkaa", sum := "94187d531bda587b57272c7ee88631274f43a01693d16489bbb24a42deca3308", func := "windowpane/windowpanelaw16.HalveBoth", spec := "halveBoth", inPlace := ["math/bits.Add64"], apart := false, narrowed := true }
def HalveBothUptoSaid : Prop := halveBothUptoRow.holds Try.pinned (OpenSpec.upto halveBothSpec)

/-- 'windowpanelaw16.HalveSplit', WHERE WHAT IT READS IS OF BULK AT MOST 1048576: true; the input reads as it did. -/
def halveSplitUptoRow : OpenClaim := { program := "ytegaeaonoggmkaa", sum := "94187d531bda587b57272c7ee88631274f43a01693d16489bbb24a42deca3308", func := "windowpane/windowpanelaw16.HalveSplit", spec := "halveSplit", inPlace := ["math/bits.Add64"], apart := false, narrowed := true }
def HalveSplitUptoSaid : Prop := halveSplitUptoRow.holds Try.pinned (OpenSpec.upto halveSplitSpec)

end Rows
end Go.Proofs.Ytegaeaonoggmkaa
