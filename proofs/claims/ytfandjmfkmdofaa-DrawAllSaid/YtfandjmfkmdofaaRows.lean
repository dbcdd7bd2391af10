/-
  No cell of these rows narrows 'for every input' (looked for: loops, veiled, ifaces, maps, wideKeys, modest, calm, conditions, laid).
  DERIVED. THE GIVEN ROWS OF THIS SEAT. 6 by the template 'for every input the law returns true; each argument reads behind the call as it read before'; 0 by the template 'total and deterministic' (their statements: YtfandjmfkmdofaaTotals.lean).
  GIVEN WITH THE SEED: the statements are not yours to turn. If you find one false, say at which input.
  Laid BY PROGRAM, IN A SANDBOX (cutbox-rows.mjs): the forced cells as the released guide's own fill.sh prints them over the translation c3ae90c9a94803d0… (all of the seat's roots in one cut). By AI agents, Wed Nov 11 2026. No macro, syntax, notation, axiom, sorry.
-/
import Derived.Test.YtfandjmfkmdofaaChecked
import GoSem.Claim
import GoSem.ClaimJoined
import GoSem.ClaimMapViews
import Derived.JoinedTies
import Derived.KernelRfl
namespace Go.Proofs.Ytfandjmfkmdofaa
/- THE CELL 'sum', in the pinned program and in every row, IS THE sha256 OF THE DUMP (.gsa) THAT YtfandjmfkmdofaaProg.lean LOADS. Nothing in Lean hashes anything: it is a label: what it is worth is what the hold of that sum in a sandbox is worth. -/
noncomputable def Try.pinned : Pinned := { name := "ytfandjmfkmdofaa", sum := "c3ae90c9a94803d0baefe9f4bd72786dc37296017e55687e5886fa33cf6f91e9", checked := Try.checked }
namespace Rows
def none {H : Type} : Left H := { results := [], args := [] }

/-- 'windowpanelaw07.DrawNext': WHATEVER THE INPUT: true; the input reads as it did. -/
def drawNextSpec : ChangeSpec := { name := "drawNext", fn := fun _ => fun
  | [d1, d2, d3] => { results := [.lit (.bool true)], args := [d1, d2, d3] }
  | _ => none }
def drawNextRow : OpenClaim := { program := "ytfandjmfkmdofaa", sum := "c3ae90c9a94803d0baefe9f4bd72786dc37296017e55687e5886fa33cf6f91e9", func := "windowpane/windowpanelaw07.DrawNext", spec := "drawNext", apart := false }
def DrawNextSaid : Prop := drawNextRow.holds Try.pinned (OpenSpec.ofChange drawNextSpec)

/-- ITS FALSE NEIGHBOUR: 'it returns false'. Refute it at one input. -/
def drawNextWrong : ChangeSpec := { name := "drawNext", fn := fun _ => fun
  | [d1, d2, d3] => { results := [.lit (.bool false)], args := [d1, d2, d3] }
  | _ => none }
def DrawNextWrongFalsely : Prop := drawNextRow.holds Try.pinned (OpenSpec.ofChange drawNextWrong)

/-- 'windowpanelaw07.DrawWeights': WHATEVER THE INPUT: true; the input reads as it did. -/
def drawWeightsSpec : ChangeSpec := { name := "drawWeights", fn := fun _ => fun
  | [d] => { results := [.lit (.bool true)], args := [d] }
  | _ => none }
def drawWeightsRow : OpenClaim := { program := "ytfandjmfkmdofaa", sum := "c3ae90c9a94803d0baefe9f4bd72786dc37296017e55687e5886fa33cf6f91e9", func := "windowpane/windowpanelaw07.DrawWeights", spec := "drawWeights", apart := false }
def DrawWeightsSaid : Prop := drawWeightsRow.holds Try.pinned (OpenSpec.ofChange drawWeightsSpec)

/-- ITS FALSE NEIGHBOUR: 'it returns false'. Refute it at one input. -/
def drawWeightsWrong : ChangeSpec := { name := "drawWeights", fn := fun _ => fun
  | [d] => { results := [.lit (.bool false)], args := [d] }
  | _ => none }
def DrawWeightsWrongFalsely : Prop := drawWeightsRow.holds Try.pinned (OpenSpec.ofChange drawWeightsWrong)

/-- 'windowpanelaw07.DrawSequences': WHATEVER THE INPUT: true; the input reads as it did. -/
def drawSequencesSpec : ChangeSpec := { name := "drawSequences", fn := fun _ => fun
  | [d1, d2] => { results := [.lit (.bool true)], args := [d1, d2] }
  | _ => none }
def drawSequencesRow : OpenClaim := { program := "ytfandjmfkmdofaa", sum := "c3ae90c9a94803d0baefe9f4bd72786dc37296017e55687e5886fa33cf6f91e9", func := "windowpane/windowpanelaw07.DrawSequences", spec := "drawSequences", apart := false }
def DrawSequencesSaid : Prop := drawSequencesRow.holds Try.pinned (OpenSpec.ofChange drawSequencesSpec)

/-- ITS FALSE NEIGHBOUR: 'it returns false'. Refute it at one input. -/
def drawSequencesWrong : ChangeSpec := { name := "drawSequences", fn := fun _ => fun
  | [d1, d2] => { results := [.lit (.bool false)], args := [d1, d2] }
  | _ => none }
def DrawSequencesWrongFalsely : Prop := drawSequencesRow.holds Try.pinned (OpenSpec.ofChange drawSequencesWrong)

/-- 'windowpanelaw07.DrawNumbers': WHATEVER THE INPUT: true; the input reads as it did. -/
def drawNumbersSpec : ChangeSpec := { name := "drawNumbers", fn := fun _ => fun
  | [d1, d2] => { results := [.lit (.bool true)], args := [d1, d2] }
  | _ => none }
def drawNumbersRow : OpenClaim := { program := "ytfandjmfkmdofaa", sum := "c3ae90c9a94803d0baefe9f4bd72786dc37296017e55687e5886fa33cf6f91e9", func := "windowpane/windowpanelaw07.DrawNumbers", spec := "drawNumbers", apart := false }
def DrawNumbersSaid : Prop := drawNumbersRow.holds Try.pinned (OpenSpec.ofChange drawNumbersSpec)

/-- ITS FALSE NEIGHBOUR: 'it returns false'. Refute it at one input. -/
def drawNumbersWrong : ChangeSpec := { name := "drawNumbers", fn := fun _ => fun
  | [d1, d2] => { results := [.lit (.bool false)], args := [d1, d2] }
  | _ => none }
def DrawNumbersWrongFalsely : Prop := drawNumbersRow.holds Try.pinned (OpenSpec.ofChange drawNumbersWrong)

/-- 'windowpanelaw07.DrawAll': WHATEVER THE INPUT: true; the input reads as it did. -/
def drawAllSpec : ChangeSpec := { name := "drawAll", fn := fun _ => fun
  | [d] => { results := [.lit (.bool true)], args := [d] }
  | _ => none }
def drawAllRow : OpenClaim := { program := "ytfandjmfkmdofaa", sum := "c3ae90c9a94803d0baefe9f4bd72786dc37296017e55687e5886fa33cf6f91e9", func := "windowpane/windowpanelaw07.DrawAll", spec := "drawAll", apart := false }
def DrawAllSaid : Prop := drawAllRow.holds Try.pinned (OpenSpec.ofChange drawAllSpec)

/-- ITS FALSE NEIGHBOUR: 'it returns false'. Refute it at one input. -/
def drawAllWrong : ChangeSpec := { name := "drawAll", fn := fun _ => fun
  | [d] => { results := [.lit (.bool false)], args := [d] }
  | _ => none }
def DrawAllWrongFalsely : Prop := drawAllRow.holds Try.pinned (OpenSpec.ofChange drawAllWrong)

/-- 'windowpanelaw07.DrawAllRaw': WHATEVER THE INPUT: true; the input reads as it did. -/
def drawAllRawSpec : ChangeSpec := { name := "drawAllRaw", fn := fun _ => fun
  | [d] => { results := [.lit (.bool true)], args := [d] }
  | _ => none }
def drawAllRawRow : OpenClaim := { program := "ytfandjmfkmdofaa", sum := "c3ae90c9a94803d0baefe9f4bd72786dc37296017e55687e5886fa33cf6f91e9", func := "windowpane/windowpanelaw07.DrawAllRaw", spec := "drawAllRaw", apart := false }
def DrawAllRawSaid : Prop := drawAllRawRow.holds Try.pinned (OpenSpec.ofChange drawAllRawSpec)

/-- ITS FALSE NEIGHBOUR: 'it returns false'. Refute it at one input. -/
def drawAllRawWrong : ChangeSpec := { name := "drawAllRaw", fn := fun _ => fun
  | [d] => { results := [.lit (.bool false)], args := [d] }
  | _ => none }
def DrawAllRawWrongFalsely : Prop := drawAllRawRow.holds Try.pinned (OpenSpec.ofChange drawAllRawWrong)

/- THE SECOND FORM. 'bulk': how many values and letters a reading holds, each counted each time it is reached (what is shared counts as often as it is met; a slice's spare places count too). A statement '..UptoSaid' is the law's where the arguments, and the package variables that the reading takes, are together of bulk at most 1048576: NARROWER than '..Said'. Prove '..Said' where nothing that the law and all that it calls make is longer than what came in: it says more and counts as full. Else prove '..UptoSaid'. A law counts once. -/
mutual
def uptoBulk {H : Type} : DataW H → Nat
  | .lit (.string bytes) => bytes.length + 1
  | .lit _ => 1
  | .nil => 1
  | .ptr d => uptoBulk d + 1
  | .slice elems spare => uptoBulkAll elems + uptoBulkAll spare + 1
  | .agg parts => uptoBulkAll parts + 1
  | .iface _ d => uptoBulk d + 1
  | .map entries => uptoBulkEntries entries + 1
  | .held _ => 1
def uptoBulkAll {H : Type} : List (DataW H) → Nat
  | [] => 0
  | d :: r => uptoBulk d + uptoBulkAll r
def uptoBulkEntries {H : Type} : List (Lit × DataW H) → Nat
  | [] => 0
  | x :: r => uptoBulkEntry x + uptoBulkEntries r
def uptoBulkEntry {H : Type} : Lit × DataW H → Nat
  | (.string bytes, d) => bytes.length + uptoBulk d + 1
  | (_, d) => uptoBulk d + 1
 end
def uptoSmall : (H : Type) → List (DataW H) → Bool := fun _ ds => decide (uptoBulkAll ds ≤ 1048576)
def OpenSpec.upto (s : _root_.Go.ChangeSpec) : _root_.Go.OpenSpec := { _root_.Go.OpenSpec.ofChange s with cond := some uptoSmall }

/-- 'windowpanelaw07.DrawNext', WHERE WHAT IT READS IS OF BULK AT MOST 1048576: true; the input reads as it did. -/
def drawNextUptoRow : OpenClaim := { program := "ytfandjmfkmdofaa", sum := "c3ae90c9a94803d0baefe9f4bd72786dc37296017e55687e5886fa33cf6f91e9", func := "windowpane/windowpanelaw07.DrawNext", spec := "drawNext", apart := false, narrowed := true }
def DrawNextUptoSaid : Prop := drawNextUptoRow.holds Try.pinned (OpenSpec.upto drawNextSpec)

/-- 'windowpanelaw07.DrawWeights', WHERE WHAT IT READS IS OF BULK AT MOST 1048576: true; the input reads as it did. -/
def drawWeightsUptoRow : OpenClaim := { program := "ytfandjmfkmdofaa", sum := "c3ae90c9a94803d0baefe9f4bd72786dc37296017e55687e5886fa33cf6f91e9", func := "windowpane/windowpanelaw07.DrawWeights", spec := "drawWeights", apart := false, narrowed := true }
def DrawWeightsUptoSaid : Prop := drawWeightsUptoRow.holds Try.pinned (OpenSpec.upto drawWeightsSpec)

/-- 'windowpanelaw07.DrawSequences', WHERE WHAT IT READS IS OF BULK AT MOST 1048576: true; the input reads as it did. -/
def drawSequencesUptoRow : OpenClaim := { program := "ytfandjmfkmdofaa", sum := "c3ae90c9a94803d0baefe9f4bd72786dc37296017e55687e5886fa33cf6f91e9", func := "windowpane/windowpanelaw07.DrawSequences", spec := "drawSequences", apart := false, narrowed := true }
def DrawSequencesUptoSaid : Prop := drawSequencesUptoRow.holds Try.pinned (OpenSpec.upto drawSequencesSpec)

/-- 'windowpanelaw07.DrawNumbers', WHERE WHAT IT READS IS OF BULK AT MOST 1048576: true; the input reads as it did. -/
def drawNumbersUptoRow : OpenClaim := { program := "ytfandjmfkmdofaa", sum := "c3ae90c9a94803d0baefe9f4bd72786dc37296017e55687e5886fa33cf6f91e9", func := "windowpane/windowpanelaw07.DrawNumbers", spec := "drawNumbers", apart := false, narrowed := true }
def DrawNumbersUptoSaid : Prop := drawNumbersUptoRow.holds Try.pinned (OpenSpec.upto drawNumbersSpec)

/-- 'windowpanelaw07.DrawAll', WHERE WHAT IT READS IS OF BULK AT MOST 1048576: true; the input reads as it did. -/
def drawAllUptoRow : OpenClaim := { program := "ytfandjmfkmdofaa", sum := "c3ae90c9a94803d0baefe9f4bd72786dc37296017e55687e5886fa33cf6f91e9", func := "windowpane/windowpanelaw07.DrawAll", spec := "drawAll", apart := false, narrowed := true }
def DrawAllUptoSaid : Prop := drawAllUptoRow.holds Try.pinned (OpenSpec.upto drawAllSpec)

/-- 'windowpanelaw07.DrawAllRaw', WHERE WHAT IT READS IS OF BULK AT MOST 1048576: true; the input reads as it did. -/
def drawAllRawUptoRow : OpenClaim := { program := "ytfandjmfkmdofaa", sum := "c3ae90c9a94803d0baefe9f4bd72786dc37296017e55687e5886fa33cf6f91e9", func := "windowpane/windowpanelaw07.DrawAllRaw", spec := "drawAllRaw", apart := false, narrowed := true }
def DrawAllRawUptoSaid : Prop := drawAllRawUptoRow.holds Try.pinned (OpenSpec.upto drawAllRawSpec)

end Rows
end Go.Proofs.Ytfandjmfkmdofaa
