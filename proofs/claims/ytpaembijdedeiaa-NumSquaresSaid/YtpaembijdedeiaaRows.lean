/-
  No cell of these rows narrows 'for every input' (looked for: loops, veiled, ifaces, maps, wideKeys, modest, calm, conditions, laid).
  DERIVED. THE GIVEN ROWS OF THIS SEAT. 10 by the template 'for every input the law returns true; each argument reads behind the call as it read before'; 0 by the template 'total and deterministic' (their statements: YtpaembijdedeiaaTotals.lean).
  GIVEN WITH THE SEED: the statements are not yours to turn. If you find one false, say at which input.
  Laid BY PROGRAM, IN A SANDBOX (cutbox-rows.mjs): the forced cells as the released guide's own fill.sh prints them over the translation b82e9165bbce8adf… (all of the seat's roots in one cut). By AI agents, Wed Nov 11 2026. No macro, syntax, notation, axiom, sorry.
-/
import Derived.Test.YtpaembijdedeiaaChecked
import GoSem.Claim
import GoSem.ClaimJoined
import GoSem.ClaimMapViews
import Derived.JoinedTies
import Derived.KernelRfl
namespace Go.Proofs.Ytpaembijdedeiaa
/- THE CELL 'sum', in the pinned program and in every row, IS THE sha256 OF THE DUMP (.gsa) THAT YtpaembijdedeiaaProg.lean LOADS. Nothing in Lean hashes anything: it is a label: what it is worth is what the hold of that sum in a sandbox is worth. -/
noncomputable def Try.pinned : Pinned := { name := "ytpaembijdedeiaa", sum := "b82e9165bbce8adff3b67246aa4d8f73f9b20c3f42a746c9365d91b58daefc50", checked := Try.checked }
namespace Rows
def none {H : Type} : Left H := { results := [], args := [] }

/-- 'windowpanelaw01.NumAdds': WHATEVER THE INPUT: true; the input reads as it did. -/
def numAddsSpec : ChangeSpec := { name := "numAdds", fn := fun _ => fun
  | [d1, d2] => { results := [.lit (.bool true)], args := [d1, d2] }
  | _ => none }
def numAddsRow : OpenClaim := { program := "ytpaembijdedeiaa", sum := "b82e9165bbce8adff3b67246aa4d8f73f9b20c3f42a746c9365d91b58daefc50", func := "windowpane/windowpanelaw01.NumAdds", spec := "numAdds", apart := false }
def NumAddsSaid : Prop := numAddsRow.holds Try.pinned (OpenSpec.ofChange numAddsSpec)

/-- ITS FALSE NEIGHBOUR: 'it returns false'. Refute it at one input. -/
def numAddsWrong : ChangeSpec := { name := "numAdds", fn := fun _ => fun
  | [d1, d2] => { results := [.lit (.bool false)], args := [d1, d2] }
  | _ => none }
def NumAddsWrongFalsely : Prop := numAddsRow.holds Try.pinned (OpenSpec.ofChange numAddsWrong)

/-- 'windowpanelaw01.NumSubtracts': WHATEVER THE INPUT: true; the input reads as it did. -/
def numSubtractsSpec : ChangeSpec := { name := "numSubtracts", fn := fun _ => fun
  | [d1, d2] => { results := [.lit (.bool true)], args := [d1, d2] }
  | _ => none }
def numSubtractsRow : OpenClaim := { program := "ytpaembijdedeiaa", sum := "b82e9165bbce8adff3b67246aa4d8f73f9b20c3f42a746c9365d91b58daefc50", func := "windowpane/windowpanelaw01.NumSubtracts", spec := "numSubtracts", apart := false }
def NumSubtractsSaid : Prop := numSubtractsRow.holds Try.pinned (OpenSpec.ofChange numSubtractsSpec)

/-- ITS FALSE NEIGHBOUR: 'it returns false'. Refute it at one input. -/
def numSubtractsWrong : ChangeSpec := { name := "numSubtracts", fn := fun _ => fun
  | [d1, d2] => { results := [.lit (.bool false)], args := [d1, d2] }
  | _ => none }
def NumSubtractsWrongFalsely : Prop := numSubtractsRow.holds Try.pinned (OpenSpec.ofChange numSubtractsWrong)

/-- 'windowpanelaw01.NumMultiplies': WHATEVER THE INPUT: true; the input reads as it did. -/
def numMultipliesSpec : ChangeSpec := { name := "numMultiplies", fn := fun _ => fun
  | [d1, d2] => { results := [.lit (.bool true)], args := [d1, d2] }
  | _ => none }
def numMultipliesRow : OpenClaim := { program := "ytpaembijdedeiaa", sum := "b82e9165bbce8adff3b67246aa4d8f73f9b20c3f42a746c9365d91b58daefc50", func := "windowpane/windowpanelaw01.NumMultiplies", spec := "numMultiplies", apart := false }
def NumMultipliesSaid : Prop := numMultipliesRow.holds Try.pinned (OpenSpec.ofChange numMultipliesSpec)

/-- ITS FALSE NEIGHBOUR: 'it returns false'. Refute it at one input. -/
def numMultipliesWrong : ChangeSpec := { name := "numMultiplies", fn := fun _ => fun
  | [d1, d2] => { results := [.lit (.bool false)], args := [d1, d2] }
  | _ => none }
def NumMultipliesWrongFalsely : Prop := numMultipliesRow.holds Try.pinned (OpenSpec.ofChange numMultipliesWrong)

/-- 'windowpanelaw01.NumPowers': WHATEVER THE INPUT: true; the input reads as it did. -/
def numPowersSpec : ChangeSpec := { name := "numPowers", fn := fun _ => fun
  | [d1, d2] => { results := [.lit (.bool true)], args := [d1, d2] }
  | _ => none }
def numPowersRow : OpenClaim := { program := "ytpaembijdedeiaa", sum := "b82e9165bbce8adff3b67246aa4d8f73f9b20c3f42a746c9365d91b58daefc50", func := "windowpane/windowpanelaw01.NumPowers", spec := "numPowers", apart := false }
def NumPowersSaid : Prop := numPowersRow.holds Try.pinned (OpenSpec.ofChange numPowersSpec)

/-- ITS FALSE NEIGHBOUR: 'it returns false'. Refute it at one input. -/
def numPowersWrong : ChangeSpec := { name := "numPowers", fn := fun _ => fun
  | [d1, d2] => { results := [.lit (.bool false)], args := [d1, d2] }
  | _ => none }
def NumPowersWrongFalsely : Prop := numPowersRow.holds Try.pinned (OpenSpec.ofChange numPowersWrong)

/-- 'windowpanelaw01.NumPowerSteps': WHATEVER THE INPUT: true; the input reads as it did. -/
def numPowerStepsSpec : ChangeSpec := { name := "numPowerSteps", fn := fun _ => fun
  | [d1, d2] => { results := [.lit (.bool true)], args := [d1, d2] }
  | _ => none }
def numPowerStepsRow : OpenClaim := { program := "ytpaembijdedeiaa", sum := "b82e9165bbce8adff3b67246aa4d8f73f9b20c3f42a746c9365d91b58daefc50", func := "windowpane/windowpanelaw01.NumPowerSteps", spec := "numPowerSteps", apart := false }
def NumPowerStepsSaid : Prop := numPowerStepsRow.holds Try.pinned (OpenSpec.ofChange numPowerStepsSpec)

/-- ITS FALSE NEIGHBOUR: 'it returns false'. Refute it at one input. -/
def numPowerStepsWrong : ChangeSpec := { name := "numPowerSteps", fn := fun _ => fun
  | [d1, d2] => { results := [.lit (.bool false)], args := [d1, d2] }
  | _ => none }
def NumPowerStepsWrongFalsely : Prop := numPowerStepsRow.holds Try.pinned (OpenSpec.ofChange numPowerStepsWrong)

/-- 'windowpanelaw01.NumDivides': WHATEVER THE INPUT: true; the input reads as it did. -/
def numDividesSpec : ChangeSpec := { name := "numDivides", fn := fun _ => fun
  | [d1, d2] => { results := [.lit (.bool true)], args := [d1, d2] }
  | _ => none }
def numDividesRow : OpenClaim := { program := "ytpaembijdedeiaa", sum := "b82e9165bbce8adff3b67246aa4d8f73f9b20c3f42a746c9365d91b58daefc50", func := "windowpane/windowpanelaw01.NumDivides", spec := "numDivides", apart := false }
def NumDividesSaid : Prop := numDividesRow.holds Try.pinned (OpenSpec.ofChange numDividesSpec)

/-- ITS FALSE NEIGHBOUR: 'it returns false'. Refute it at one input. -/
def numDividesWrong : ChangeSpec := { name := "numDivides", fn := fun _ => fun
  | [d1, d2] => { results := [.lit (.bool false)], args := [d1, d2] }
  | _ => none }
def NumDividesWrongFalsely : Prop := numDividesRow.holds Try.pinned (OpenSpec.ofChange numDividesWrong)

/-- 'windowpanelaw01.NumRemains': WHATEVER THE INPUT: true; the input reads as it did. -/
def numRemainsSpec : ChangeSpec := { name := "numRemains", fn := fun _ => fun
  | [d1, d2] => { results := [.lit (.bool true)], args := [d1, d2] }
  | _ => none }
def numRemainsRow : OpenClaim := { program := "ytpaembijdedeiaa", sum := "b82e9165bbce8adff3b67246aa4d8f73f9b20c3f42a746c9365d91b58daefc50", func := "windowpane/windowpanelaw01.NumRemains", spec := "numRemains", apart := false }
def NumRemainsSaid : Prop := numRemainsRow.holds Try.pinned (OpenSpec.ofChange numRemainsSpec)

/-- ITS FALSE NEIGHBOUR: 'it returns false'. Refute it at one input. -/
def numRemainsWrong : ChangeSpec := { name := "numRemains", fn := fun _ => fun
  | [d1, d2] => { results := [.lit (.bool false)], args := [d1, d2] }
  | _ => none }
def NumRemainsWrongFalsely : Prop := numRemainsRow.holds Try.pinned (OpenSpec.ofChange numRemainsWrong)

/-- 'windowpanelaw01.NumGcds': WHATEVER THE INPUT: true; the input reads as it did. -/
def numGcdsSpec : ChangeSpec := { name := "numGcds", fn := fun _ => fun
  | [d1, d2] => { results := [.lit (.bool true)], args := [d1, d2] }
  | _ => none }
def numGcdsRow : OpenClaim := { program := "ytpaembijdedeiaa", sum := "b82e9165bbce8adff3b67246aa4d8f73f9b20c3f42a746c9365d91b58daefc50", func := "windowpane/windowpanelaw01.NumGcds", spec := "numGcds", apart := false }
def NumGcdsSaid : Prop := numGcdsRow.holds Try.pinned (OpenSpec.ofChange numGcdsSpec)

/-- ITS FALSE NEIGHBOUR: 'it returns false'. Refute it at one input. -/
def numGcdsWrong : ChangeSpec := { name := "numGcds", fn := fun _ => fun
  | [d1, d2] => { results := [.lit (.bool false)], args := [d1, d2] }
  | _ => none }
def NumGcdsWrongFalsely : Prop := numGcdsRow.holds Try.pinned (OpenSpec.ofChange numGcdsWrong)

/-- 'windowpanelaw01.NumBitsRoots': WHATEVER THE INPUT: true; the input reads as it did. -/
def numBitsRootsSpec : ChangeSpec := { name := "numBitsRoots", fn := fun _ => fun
  | [d] => { results := [.lit (.bool true)], args := [d] }
  | _ => none }
def numBitsRootsRow : OpenClaim := { program := "ytpaembijdedeiaa", sum := "b82e9165bbce8adff3b67246aa4d8f73f9b20c3f42a746c9365d91b58daefc50", func := "windowpane/windowpanelaw01.NumBitsRoots", spec := "numBitsRoots", apart := false }
def NumBitsRootsSaid : Prop := numBitsRootsRow.holds Try.pinned (OpenSpec.ofChange numBitsRootsSpec)

/-- ITS FALSE NEIGHBOUR: 'it returns false'. Refute it at one input. -/
def numBitsRootsWrong : ChangeSpec := { name := "numBitsRoots", fn := fun _ => fun
  | [d] => { results := [.lit (.bool false)], args := [d] }
  | _ => none }
def NumBitsRootsWrongFalsely : Prop := numBitsRootsRow.holds Try.pinned (OpenSpec.ofChange numBitsRootsWrong)

/-- 'windowpanelaw01.NumSquares': WHATEVER THE INPUT: true; the input reads as it did. -/
def numSquaresSpec : ChangeSpec := { name := "numSquares", fn := fun _ => fun
  | [d] => { results := [.lit (.bool true)], args := [d] }
  | _ => none }
def numSquaresRow : OpenClaim := { program := "ytpaembijdedeiaa", sum := "b82e9165bbce8adff3b67246aa4d8f73f9b20c3f42a746c9365d91b58daefc50", func := "windowpane/windowpanelaw01.NumSquares", spec := "numSquares", apart := false }
def NumSquaresSaid : Prop := numSquaresRow.holds Try.pinned (OpenSpec.ofChange numSquaresSpec)

/-- ITS FALSE NEIGHBOUR: 'it returns false'. Refute it at one input. -/
def numSquaresWrong : ChangeSpec := { name := "numSquares", fn := fun _ => fun
  | [d] => { results := [.lit (.bool false)], args := [d] }
  | _ => none }
def NumSquaresWrongFalsely : Prop := numSquaresRow.holds Try.pinned (OpenSpec.ofChange numSquaresWrong)

/- THE SECOND FORM. 'bulk': how many values and letters a reading holds, each counted each time it is reached (what is shared counts as often as it is met; a slice's spare places count too). A statement '..UptoSaid' is the law's where the arguments, and the package variables that the reading takes, are together of bulk at most 1048576: NARROWER than '..Said'. Prove '..Said' where nothing that the law and all that it calls make is longer than what came in: it says more and counts as full. Else prove '..UptoSaid'. A law counts once. -/
mutual
def uptoBulk {H : Type} : DataW H → Nat
  | .lit (.string bytes) => bytes.length + 1
  | .lit _ => 1
  | .nil => 1
  | .ptr d => uptoBulk d + 1
  | .slice elems spare => uptoBulkAll elems + uptoBulkAll spare + 1
  | .agg parts => uptoBulkAll parts + 1
  | .iface _ d => uptoBulk d + 1
  | .map entries => uptoBulkEntries entries + 1
  | .held _ => 1
def uptoBulkAll {H : Type} : List (DataW H) → Nat
  | [] => 0
  | d :: r => uptoBulk d + uptoBulkAll r
def uptoBulkEntries {H : Type} : List (Lit × DataW H) → Nat
  | [] => 0
  | x :: r => uptoBulkEntry x + uptoBulkEntries r
def uptoBulkEntry {H : Type} : Lit × DataW H → Nat
  | (.string bytes, d) => bytes.length + uptoBulk d + 1
  | (_, d) => uptoBulk d + 1
 end
def uptoSmall : (H : Type) → List (DataW H) → Bool := fun _ ds => decide (uptoBulkAll ds ≤ 1048576)
def OpenSpec.upto (s : _root_.Go.ChangeSpec) : _root_.Go.OpenSpec := { _root_.Go.OpenSpec.ofChange s with cond := some uptoSmall }

/-- 'windowpanelaw01.NumAdds', WHERE WHAT IT READS IS OF BULK AT MOST 1048576: true; the input reads as it did. -/
def numAddsUptoRow : OpenClaim := { program := "ytpaembijdedeiaa", sum := "b82e9165bbce8adff3b67246aa4d8f73f9b20c3f42a746c9365d91b58daefc50", func := "windowpane/windowpanelaw01.NumAdds", spec := "numAdds", apart := false, narrowed := true }
def NumAddsUptoSaid : Prop := numAddsUptoRow.holds Try.pinned (OpenSpec.upto numAddsSpec)

/-- 'windowpanelaw01.NumSubtracts', WHERE WHAT IT READS IS OF BULK AT MOST 1048576: true; the input reads as it did. -/
def numSubtractsUptoRow : OpenClaim := { program := "ytpaembijdedeiaa", sum := "b82e9165bbce8adff3b67246aa4d8f73f9b20c3f42a746c9365d91b58daefc50", func := "windowpane/windowpanelaw01.NumSubtracts", spec := "numSubtracts", apart := false, narrowed := true }
def NumSubtractsUptoSaid : Prop := numSubtractsUptoRow.holds Try.pinned (OpenSpec.upto numSubtractsSpec)

/-- 'windowpanelaw01.NumMultiplies', WHERE WHAT IT READS IS OF BULK AT MOST 1048576: true; the input reads as it did. -/
def numMultipliesUptoRow : OpenClaim := { program := "ytpaembijdedeiaa", sum := "b82e9165bbce8adff3b67246aa4d8f73f9b20c3f42a746c9365d91b58daefc50", func := "windowpane/windowpanelaw01.NumMultiplies", spec := "numMultiplies", apart := false, narrowed := true }
def NumMultipliesUptoSaid : Prop := numMultipliesUptoRow.holds Try.pinned (OpenSpec.upto numMultipliesSpec)

/-- 'windowpanelaw01.NumPowers', WHERE WHAT IT READS IS OF BULK AT MOST 1048576: true; the input reads as it did. -/
def numPowersUptoRow : OpenClaim := { program := "ytpaembijdedeiaa", sum := "b82e9165bbce8adff3b67246aa4d8f73f9b20c3f42a746c9365d91b58daefc50", func := "windowpane/windowpanelaw01.NumPowers", spec := "numPowers", apart := false, narrowed := true }
def NumPowersUptoSaid : Prop := numPowersUptoRow.holds Try.pinned (OpenSpec.upto numPowersSpec)

/-- 'windowpanelaw01.NumPowerSteps', WHERE WHAT IT READS IS OF BULK AT MOST 1048576: true; the input reads as it did. -/
def numPowerStepsUptoRow : OpenClaim := { program := "ytpaembijdedeiaa", sum := "b82e9165bbce8adff3b67246aa4d8f73f9b20c3f42a746c9365d91b58daefc50", func := "windowpane/windowpanelaw01.NumPowerSteps", spec := "numPowerSteps", apart := false, narrowed := true }
def NumPowerStepsUptoSaid : Prop := numPowerStepsUptoRow.holds Try.pinned (OpenSpec.upto numPowerStepsSpec)

/-- 'windowpanelaw01.NumDivides', WHERE WHAT IT READS IS OF BULK AT MOST 1048576: true; the input reads as it did. -/
def numDividesUptoRow : OpenClaim := { program := "ytpaembijdedeiaa", sum := "b82e9165bbce8adff3b67246aa4d8f73f9b20c3f42a746c9365d91b58daefc50", func := "windowpane/windowpanelaw01.NumDivides", spec := "numDivides", apart := false, narrowed := true }
def NumDividesUptoSaid : Prop := numDividesUptoRow.holds Try.pinned (OpenSpec.upto numDividesSpec)

/-- 'windowpanelaw01.NumRemains', WHERE WHAT IT READS IS OF BULK AT MOST 1048576: true; the input reads as it did. -/
def numRemainsUptoRow : OpenClaim := { program := "ytpaembijdedeiaa", sum := "b82e9165bbce8adff3b67246aa4d8f73f9b20c3f42a746c9365d91b58daefc50", func := "windowpane/windowpanelaw01.NumRemains", spec := "numRemains", apart := false, narrowed := true }
def NumRemainsUptoSaid : Prop := numRemainsUptoRow.holds Try.pinned (OpenSpec.upto numRemainsSpec)

/-- 'windowpanelaw01.NumGcds', WHERE WHAT IT READS IS OF BULK AT MOST 1048576: true; the input reads as it did. -/
def numGcdsUptoRow : OpenClaim := { program := "ytpaembijdedeiaa", sum := "b82e9165bbce8adff3b67246aa4d8f73f9b20c3f42a746c9365d91b58daefc50", func := "windowpane/windowpanelaw01.NumGcds", spec := "numGcds", apart := false, narrowed := true }
def NumGcdsUptoSaid : Prop := numGcdsUptoRow.holds Try.pinned (OpenSpec.upto numGcdsSpec)

/-- 'windowpanelaw01.NumBitsRoots', WHERE WHAT IT READS IS OF BULK AT MOST 1048576: true; the input reads as it did. -/
def numBitsRootsUptoRow : OpenClaim := { program := "ytpaembijdedeiaa", sum := "b82e9165bbce8adff3b67246aa4d8f73f9b20c3f42a746c9365d91b58daefc50", func := "windowpane/windowpanelaw01.NumBitsRoots", spec := "numBitsRoots", apart := false, narrowed := true }
def NumBitsRootsUptoSaid : Prop := numBitsRootsUptoRow.holds Try.pinned (OpenSpec.upto numBitsRootsSpec)

/-- 'windowpanelaw01.NumSquares', WHERE WHAT IT READS IS OF BULK AT MOST 1048576: true; the input reads as it did. -/
def numSquaresUptoRow : OpenClaim := { program := "ytpaembijdedeiaa", sum := "b82e9165bbce8adff3b67246aa4d8f73f9b20c3f42a746c9365d91b58daefc50", func := "windowpane/windowpanelaw01.NumSquares", spec := "numSquares", apart := false, narrowed := true }
def NumSquaresUptoSaid : Prop := numSquaresUptoRow.holds Try.pinned (OpenSpec.upto numSquaresSpec)

end Rows
end Go.Proofs.Ytpaembijdedeiaa
