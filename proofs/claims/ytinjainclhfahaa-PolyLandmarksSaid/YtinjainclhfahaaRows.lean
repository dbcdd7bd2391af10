/-
  No cell of these rows narrows 'for every input' (looked for: loops, veiled, ifaces, maps, wideKeys, modest, calm, conditions, laid).
  DERIVED. THE GIVEN ROWS OF THIS SEAT. 6 by the template 'for every input the law returns true; each argument reads behind the call as it read before'; 0 by the template 'total and deterministic' (their statements: YtinjainclhfahaaTotals.lean).
  GIVEN WITH THE SEED: the statements are not yours to turn. If you find one false, say at which input.
  Laid BY PROGRAM, IN A SANDBOX (cutbox-rows.mjs): the forced cells as the released guide's own fill.sh prints them over the translation 0d566f2be9e907f2… (all of the seat's roots in one cut). By AI agents, Wed Nov 11 2026. No macro, syntax, notation, axiom, sorry.
-/
import Derived.Test.YtinjainclhfahaaChecked
import GoSem.Claim
import GoSem.ClaimJoined
import GoSem.ClaimMapViews
import Derived.JoinedTies
import Derived.KernelRfl
namespace Go.Proofs.Ytinjainclhfahaa
/- THE CELL 'sum', in the pinned program and in every row, IS THE sha256 OF THE DUMP (.gsa) THAT YtinjainclhfahaaProg.lean LOADS. Nothing in Lean hashes anything: it is a label: what it is worth is what the hold of that sum in a sandbox is worth. -/
noncomputable def Try.pinned : Pinned := { name := "ytinjainclhfahaa", sum := "0d566f2be9e907f2740776137b36a6428cee5f056f0f4f9d0357f8c5871984de", checked := Try.checked }
namespace Rows
def none {H : Type} : Left H := { results := [], args := [] }

/-- 'windowpanelaw15.PolyNew': WHATEVER THE INPUT: true; the input reads as it did. -/
def polyNewSpec : ChangeSpec := { name := "polyNew", fn := fun _ => fun
  | [d1, d2] => { results := [.lit (.bool true)], args := [d1, d2] }
  | _ => none }
def polyNewRow : OpenClaim := { program := "ytinjainclhfahaa", sum := "0d566f2be9e907f2740776137b36a6428cee5f056f0f4f9d0357f8c5871984de", func := "windowpane/windowpanelaw15.PolyNew", spec := "polyNew", inPlace := ["math/bits.Add64"], apart := false }
def PolyNewSaid : Prop := polyNewRow.holds Try.pinned (OpenSpec.ofChange polyNewSpec)

/-- ITS FALSE NEIGHBOUR: 'it returns false'. Refute it at one input. -/
def polyNewWrong : ChangeSpec := { name := "polyNew", fn := fun _ => fun
  | [d1, d2] => { results := [.lit (.bool false)], args := [d1, d2] }
  | _ => none }
def PolyNewWrongFalsely : Prop := polyNewRow.holds Try.pinned (OpenSpec.ofChange polyNewWrong)

/-- 'windowpanelaw15.PolyStates': WHATEVER THE INPUT: true; the input reads as it did. -/
def polyStatesSpec : ChangeSpec := { name := "polyStates", fn := fun _ => fun
  | [d1, d2, d3] => { results := [.lit (.bool true)], args := [d1, d2, d3] }
  | _ => none }
def polyStatesRow : OpenClaim := { program := "ytinjainclhfahaa", sum := "0d566f2be9e907f2740776137b36a6428cee5f056f0f4f9d0357f8c5871984de", func := "windowpane/windowpanelaw15.PolyStates", spec := "polyStates", inPlace := ["math/bits.Add64"], apart := false }
def PolyStatesSaid : Prop := polyStatesRow.holds Try.pinned (OpenSpec.ofChange polyStatesSpec)

/-- ITS FALSE NEIGHBOUR: 'it returns false'. Refute it at one input. -/
def polyStatesWrong : ChangeSpec := { name := "polyStates", fn := fun _ => fun
  | [d1, d2, d3] => { results := [.lit (.bool false)], args := [d1, d2, d3] }
  | _ => none }
def PolyStatesWrongFalsely : Prop := polyStatesRow.holds Try.pinned (OpenSpec.ofChange polyStatesWrong)

/-- 'windowpanelaw15.PolyRebases': WHATEVER THE INPUT: true; the input reads as it did. -/
def polyRebasesSpec : ChangeSpec := { name := "polyRebases", fn := fun _ => fun
  | [d1, d2] => { results := [.lit (.bool true)], args := [d1, d2] }
  | _ => none }
def polyRebasesRow : OpenClaim := { program := "ytinjainclhfahaa", sum := "0d566f2be9e907f2740776137b36a6428cee5f056f0f4f9d0357f8c5871984de", func := "windowpane/windowpanelaw15.PolyRebases", spec := "polyRebases", inPlace := ["math/bits.Add64"], recurses := true, apart := false }
def PolyRebasesSaid : Prop := polyRebasesRow.holds Try.pinned (OpenSpec.ofChange polyRebasesSpec)

/-- ITS FALSE NEIGHBOUR: 'it returns false'. Refute it at one input. -/
def polyRebasesWrong : ChangeSpec := { name := "polyRebases", fn := fun _ => fun
  | [d1, d2] => { results := [.lit (.bool false)], args := [d1, d2] }
  | _ => none }
def PolyRebasesWrongFalsely : Prop := polyRebasesRow.holds Try.pinned (OpenSpec.ofChange polyRebasesWrong)

/-- 'windowpanelaw15.PolyMerges': WHATEVER THE INPUT: true; the input reads as it did. -/
def polyMergesSpec : ChangeSpec := { name := "polyMerges", fn := fun _ => fun
  | [d1, d2] => { results := [.lit (.bool true)], args := [d1, d2] }
  | _ => none }
def polyMergesRow : OpenClaim := { program := "ytinjainclhfahaa", sum := "0d566f2be9e907f2740776137b36a6428cee5f056f0f4f9d0357f8c5871984de", func := "windowpane/windowpanelaw15.PolyMerges", spec := "polyMerges", inPlace := ["math/bits.Add64"], recurses := true, apart := false }
def PolyMergesSaid : Prop := polyMergesRow.holds Try.pinned (OpenSpec.ofChange polyMergesSpec)

/-- ITS FALSE NEIGHBOUR: 'it returns false'. Refute it at one input. -/
def polyMergesWrong : ChangeSpec := { name := "polyMerges", fn := fun _ => fun
  | [d1, d2] => { results := [.lit (.bool false)], args := [d1, d2] }
  | _ => none }
def PolyMergesWrongFalsely : Prop := polyMergesRow.holds Try.pinned (OpenSpec.ofChange polyMergesWrong)

/-- 'windowpanelaw15.PolyTruth': WHATEVER THE INPUT: true; the input reads as it did. -/
def polyTruthSpec : ChangeSpec := { name := "polyTruth", fn := fun _ => fun
  | [d1, d2, d3, d4] => { results := [.lit (.bool true)], args := [d1, d2, d3, d4] }
  | _ => none }
def polyTruthRow : OpenClaim := { program := "ytinjainclhfahaa", sum := "0d566f2be9e907f2740776137b36a6428cee5f056f0f4f9d0357f8c5871984de", func := "windowpane/windowpanelaw15.PolyTruth", spec := "polyTruth", inPlace := ["math/bits.Add64"], apart := false }
def PolyTruthSaid : Prop := polyTruthRow.holds Try.pinned (OpenSpec.ofChange polyTruthSpec)

/-- ITS FALSE NEIGHBOUR: 'it returns false'. Refute it at one input. -/
def polyTruthWrong : ChangeSpec := { name := "polyTruth", fn := fun _ => fun
  | [d1, d2, d3, d4] => { results := [.lit (.bool false)], args := [d1, d2, d3, d4] }
  | _ => none }
def PolyTruthWrongFalsely : Prop := polyTruthRow.holds Try.pinned (OpenSpec.ofChange polyTruthWrong)

/-- 'windowpanelaw15.PolyLandmarks': WHATEVER THE INPUT: true; the input reads as it did. -/
def polyLandmarksSpec : ChangeSpec := { name := "polyLandmarks", fn := fun _ => fun
  | [d1, d2, d3, d4, d5] => { results := [.lit (.bool true)], args := [d1, d2, d3, d4, d5] }
  | _ => none }
def polyLandmarksRow : OpenClaim := { program := "ytinjainclhfahaa", sum := "0d566f2be9e907f2740776137b36a6428cee5f056f0f4f9d0357f8c5871984de", func := "windowpane/windowpanelaw15.PolyLandmarks", spec := "polyLandmarks", inPlace := ["math/bits.Add64"], apart := false }
def PolyLandmarksSaid : Prop := polyLandmarksRow.holds Try.pinned (OpenSpec.ofChange polyLandmarksSpec)

/-- ITS FALSE NEIGHBOUR: 'it returns false'. Refute it at one input. -/
def polyLandmarksWrong : ChangeSpec := { name := "polyLandmarks", fn := fun _ => fun
  | [d1, d2, d3, d4, d5] => { results := [.lit (.bool false)], args := [d1, d2, d3, d4, d5] }
  | _ => none }
def PolyLandmarksWrongFalsely : Prop := polyLandmarksRow.holds Try.pinned (OpenSpec.ofChange polyLandmarksWrong)

/- THE SECOND FORM. 'bulk': how many values and letters a reading holds, each counted each time it is reached (what is shared counts as often as it is met; a slice's spare places count too). A statement '..UptoSaid' is the law's where the arguments, and the package variables that the reading takes, are together of bulk at most 1048576: NARROWER than '..Said'. Prove '..Said' where nothing that the law and all that it calls make is longer than what came in: it says more and counts as full. Else prove '..UptoSaid'. A law counts once. -/
mutual
def uptoBulk {H : Type} : DataW H → Nat
  | .lit (.string bytes) => bytes.length + 1
  | .lit _ => 1
  | .nil => 1
  | .ptr d => uptoBulk d + 1
  | .slice elems spare => uptoBulkAll elems + uptoBulkAll spare + 1
  | .agg parts => uptoBulkAll parts + 1
  | .iface _ d => uptoBulk d + 1
  | .map entries => uptoBulkEntries entries + 1
  | .held _ => 1
def uptoBulkAll {H : Type} : List (DataW H) → Nat
  | [] => 0
  | d :: r => uptoBulk d + uptoBulkAll r
def uptoBulkEntries {H : Type} : List (Lit × DataW H) → Nat
  | [] => 0
  | x :: r => uptoBulkEntry x + uptoBulkEntries r
def uptoBulkEntry {H : Type} : Lit × DataW H → Nat
  | (.string bytes, d) => bytes.length + uptoBulk d + 1
  | (_, d) => uptoBulk d + 1
 end
def uptoSmall : (H : Type) → List (DataW H) → Bool := fun _ ds => decide (uptoBulkAll ds ≤ 1048576)
def OpenSpec.upto (s : _root_.Go.ChangeSpec) : _root_.Go.OpenSpec := { _root_.Go.OpenSpec.ofChange s with cond := some uptoSmall }

/-- 'windowpanelaw15.PolyNew', WHERE WHAT IT READS IS OF BULK AT MOST 1048576: true; the input reads as it did. -/
def polyNewUptoRow : OpenClaim := { program := "ytinjainclhfahaa", sum := "0d566f2be9e907f2740776137b36a6428cee5f056f0f4f9d0357f8c5871984de", func := "windowpane/windowpanelaw15.PolyNew", spec := "polyNew", inPlace := ["math/bits.Add64"], apart := false, narrowed := true }
def PolyNewUptoSaid : Prop := polyNewUptoRow.holds Try.pinned (OpenSpec.upto polyNewSpec)

/-- 'windowpanelaw15.PolyStates', WHERE WHAT IT READS IS OF BULK AT MOST 1048576: true; the input reads as it did. -/
def polyStatesUptoRow : OpenClaim := { program := "ytinjainclhfahaa", sum := "0d566f2be9e907f2740776137b36a6428cee5f056f0f4f9d0357f8c5871984de", func := "windowpane/windowpanelaw15.PolyStates", spec := "polyStates", inPlace := ["math/bits.Add64"], apart := false, narrowed := true }
def PolyStatesUptoSaid : Prop := polyStatesUptoRow.holds Try.pinned (OpenSpec.upto polyStatesSpec)

/-- 'windowpanelaw15.PolyRebases', WHERE WHAT IT READS IS OF BULK AT MOST 1048576: true; the input reads as it did. -/
def polyRebasesUptoRow : OpenClaim := { program := "ytinjainclhfahaa", sum := "0d566f2be9e907f2740776137b36a6428cee5f056f0f4f9d0357f8c5871984de", func := "windowpane/windowpanelaw15.PolyRebases", spec := "polyRebases", inPlace := ["math/bits.Add64"], recurses := true, apart := false, narrowed := true }
def PolyRebasesUptoSaid : Prop := polyRebasesUptoRow.holds Try.pinned (OpenSpec.upto polyRebasesSpec)

/-- 'windowpanelaw15.PolyMerges', WHERE WHAT IT READS IS OF BULK AT MOST 1048576: true; the input reads as it did. -/
def polyMergesUptoRow : OpenClaim := { program := "ytinjainclhfahaa", sum := "0d566f2be9e907f2740776137b36a6428cee5f056f0f4f9d0357f8c5871984de", func := "windowpane/windowpanelaw15.PolyMerges", spec := "polyMerges", inPlace := ["math/bits.Add64"], recurses := true, apart := false, narrowed := true }
def PolyMergesUptoSaid : Prop := polyMergesUptoRow.holds Try.pinned (OpenSpec.upto polyMergesSpec)

/-- 'windowpanelaw15.PolyTruth', WHERE WHAT IT READS IS OF BULK AT MOST 1048576: true; the input reads as it did. -/
def polyTruthUptoRow : OpenClaim := { program := "ytinjainclhfahaa", sum := "0d566f2be9e907f2740776137b36a6428cee5f056f0f4f9d0357f8c5871984de", func := "windowpane/windowpanelaw15.PolyTruth", spec := "polyTruth", inPlace := ["math/bits.Add64"], apart := false, narrowed := true }
def PolyTruthUptoSaid : Prop := polyTruthUptoRow.holds Try.pinned (OpenSpec.upto polyTruthSpec)

/-- 'windowpanelaw15.PolyLandmarks', WHERE WHAT IT READS IS OF BULK AT MOST 1048576: true; the input reads as it did. -/
def polyLandmarksUptoRow : OpenClaim := { program := "ytinjainclhfahaa", sum := "0d566f2be9e907f2740776137b36a6428cee5f056f0f4f9d0357f8c5871984de", func := "windowpane/windowpanelaw15.PolyLandmarks", spec := "polyLandmarks", inPlace := ["math/bits.Add64"], apart := false, narrowed := true }
def PolyLandmarksUptoSaid : Prop := polyLandmarksUptoRow.holds Try.pinned (OpenSpec.upto polyLandmarksSpec)

end Rows
end Go.Proofs.Ytinjainclhfahaa
