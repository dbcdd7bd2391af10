/-
  No cell of these rows narrows 'for every input' (looked for: loops, veiled, ifaces, maps, wideKeys, modest, calm, conditions, laid).
  DERIVED. THE GIVEN ROWS OF THIS SEAT. 6 by the template 'for every input the law returns true; each argument reads behind the call as it read before'; 0 by the template 'total and deterministic' (their statements: YtfcknhpllhkpeaaTotals.lean).
  GIVEN WITH THE SEED: the statements are not yours to turn. If you find one false, say at which input.
  Laid BY PROGRAM, IN A SANDBOX (cutbox-rows.mjs): the forced cells as the released guide's own fill.sh prints them over the translation 9db825c317dfffc2… (all of the seat's roots in one cut). By AI agents, Wed Nov 11 2026. No macro, syntax, notation, axiom, sorry.
-/
import Derived.Test.YtfcknhpllhkpeaaChecked
import GoSem.Claim
import GoSem.ClaimJoined
import GoSem.ClaimMapViews
import Derived.JoinedTies
import Derived.KernelRfl
namespace Go.Proofs.Ytfcknhpllhkpeaa
/- THE CELL 'sum', in the pinned program and in every row, IS THE sha256 OF THE DUMP (.gsa) THAT YtfcknhpllhkpeaaProg.lean LOADS. Nothing in Lean hashes anything: it is a label: what it is worth is what the hold of that sum in a sandbox is worth. -/
noncomputable def Try.pinned : Pinned := { name := "ytfcknhpllhkpeaa", sum := "9db825c317dfffc277768c125daecb5dd3097edbdae754c0305e00fe87f110e6", checked := Try.checked }
namespace Rows
def none {H : Type} : Left H := { results := [], args := [] }

/-- 'windowpanelaw17.ExtremeNew': WHATEVER THE INPUT: true; the input reads as it did. -/
def extremeNewSpec : ChangeSpec := { name := "extremeNew", fn := fun _ => fun
  | [d1, d2, d3, d4] => { results := [.lit (.bool true)], args := [d1, d2, d3, d4] }
  | _ => none }
def extremeNewRow : OpenClaim := { program := "ytfcknhpllhkpeaa", sum := "9db825c317dfffc277768c125daecb5dd3097edbdae754c0305e00fe87f110e6", func := "windowpane/windowpanelaw17.ExtremeNew", spec := "extremeNew", apart := false }
def ExtremeNewSaid : Prop := extremeNewRow.holds Try.pinned (OpenSpec.ofChange extremeNewSpec)

/-- ITS FALSE NEIGHBOUR: 'it returns false'. Refute it at one input. -/
def extremeNewWrong : ChangeSpec := { name := "extremeNew", fn := fun _ => fun
  | [d1, d2, d3, d4] => { results := [.lit (.bool false)], args := [d1, d2, d3, d4] }
  | _ => none }
def ExtremeNewWrongFalsely : Prop := extremeNewRow.holds Try.pinned (OpenSpec.ofChange extremeNewWrong)

/-- 'windowpanelaw17.ExtremeStates': WHATEVER THE INPUT: true; the input reads as it did. -/
def extremeStatesSpec : ChangeSpec := { name := "extremeStates", fn := fun _ => fun
  | [d1, d2, d3] => { results := [.lit (.bool true)], args := [d1, d2, d3] }
  | _ => none }
def extremeStatesRow : OpenClaim := { program := "ytfcknhpllhkpeaa", sum := "9db825c317dfffc277768c125daecb5dd3097edbdae754c0305e00fe87f110e6", func := "windowpane/windowpanelaw17.ExtremeStates", spec := "extremeStates", apart := false }
def ExtremeStatesSaid : Prop := extremeStatesRow.holds Try.pinned (OpenSpec.ofChange extremeStatesSpec)

/-- ITS FALSE NEIGHBOUR: 'it returns false'. Refute it at one input. -/
def extremeStatesWrong : ChangeSpec := { name := "extremeStates", fn := fun _ => fun
  | [d1, d2, d3] => { results := [.lit (.bool false)], args := [d1, d2, d3] }
  | _ => none }
def ExtremeStatesWrongFalsely : Prop := extremeStatesRow.holds Try.pinned (OpenSpec.ofChange extremeStatesWrong)

/-- 'windowpanelaw17.ExtremeMerges': WHATEVER THE INPUT: true; the input reads as it did. -/
def extremeMergesSpec : ChangeSpec := { name := "extremeMerges", fn := fun _ => fun
  | [d1, d2] => { results := [.lit (.bool true)], args := [d1, d2] }
  | _ => none }
def extremeMergesRow : OpenClaim := { program := "ytfcknhpllhkpeaa", sum := "9db825c317dfffc277768c125daecb5dd3097edbdae754c0305e00fe87f110e6", func := "windowpane/windowpanelaw17.ExtremeMerges", spec := "extremeMerges", apart := false }
def ExtremeMergesSaid : Prop := extremeMergesRow.holds Try.pinned (OpenSpec.ofChange extremeMergesSpec)

/-- ITS FALSE NEIGHBOUR: 'it returns false'. Refute it at one input. -/
def extremeMergesWrong : ChangeSpec := { name := "extremeMerges", fn := fun _ => fun
  | [d1, d2] => { results := [.lit (.bool false)], args := [d1, d2] }
  | _ => none }
def ExtremeMergesWrongFalsely : Prop := extremeMergesRow.holds Try.pinned (OpenSpec.ofChange extremeMergesWrong)

/-- 'windowpanelaw17.ExtremeTruth': WHATEVER THE INPUT: true; the input reads as it did. -/
def extremeTruthSpec : ChangeSpec := { name := "extremeTruth", fn := fun _ => fun
  | [d1, d2, d3, d4] => { results := [.lit (.bool true)], args := [d1, d2, d3, d4] }
  | _ => none }
def extremeTruthRow : OpenClaim := { program := "ytfcknhpllhkpeaa", sum := "9db825c317dfffc277768c125daecb5dd3097edbdae754c0305e00fe87f110e6", func := "windowpane/windowpanelaw17.ExtremeTruth", spec := "extremeTruth", apart := false }
def ExtremeTruthSaid : Prop := extremeTruthRow.holds Try.pinned (OpenSpec.ofChange extremeTruthSpec)

/-- ITS FALSE NEIGHBOUR: 'it returns false'. Refute it at one input. -/
def extremeTruthWrong : ChangeSpec := { name := "extremeTruth", fn := fun _ => fun
  | [d1, d2, d3, d4] => { results := [.lit (.bool false)], args := [d1, d2, d3, d4] }
  | _ => none }
def ExtremeTruthWrongFalsely : Prop := extremeTruthRow.holds Try.pinned (OpenSpec.ofChange extremeTruthWrong)

/-- 'windowpanelaw17.ExtremeFull': WHATEVER THE INPUT: true; the input reads as it did. -/
def extremeFullSpec : ChangeSpec := { name := "extremeFull", fn := fun _ => fun
  | [d1, d2, d3, d4] => { results := [.lit (.bool true)], args := [d1, d2, d3, d4] }
  | _ => none }
def extremeFullRow : OpenClaim := { program := "ytfcknhpllhkpeaa", sum := "9db825c317dfffc277768c125daecb5dd3097edbdae754c0305e00fe87f110e6", func := "windowpane/windowpanelaw17.ExtremeFull", spec := "extremeFull", apart := false }
def ExtremeFullSaid : Prop := extremeFullRow.holds Try.pinned (OpenSpec.ofChange extremeFullSpec)

/-- ITS FALSE NEIGHBOUR: 'it returns false'. Refute it at one input. -/
def extremeFullWrong : ChangeSpec := { name := "extremeFull", fn := fun _ => fun
  | [d1, d2, d3, d4] => { results := [.lit (.bool false)], args := [d1, d2, d3, d4] }
  | _ => none }
def ExtremeFullWrongFalsely : Prop := extremeFullRow.holds Try.pinned (OpenSpec.ofChange extremeFullWrong)

/-- 'windowpanelaw17.ExtremeBoth': WHATEVER THE INPUT: true; the input reads as it did. -/
def extremeBothSpec : ChangeSpec := { name := "extremeBoth", fn := fun _ => fun
  | [d1, d2, d3, d4] => { results := [.lit (.bool true)], args := [d1, d2, d3, d4] }
  | _ => none }
def extremeBothRow : OpenClaim := { program := "ytfcknhpllhkpeaa", sum := "9db825c317dfffc277768c125daecb5dd3097edbdae754c0305e00fe87f110e6", func := "windowpane/windowpanelaw17.ExtremeBoth", spec := "extremeBoth", apart := false }
def ExtremeBothSaid : Prop := extremeBothRow.holds Try.pinned (OpenSpec.ofChange extremeBothSpec)

/-- ITS FALSE NEIGHBOUR: 'it returns false'. Refute it at one input. -/
def extremeBothWrong : ChangeSpec := { name := "extremeBoth", fn := fun _ => fun
  | [d1, d2, d3, d4] => { results := [.lit (.bool false)], args := [d1, d2, d3, d4] }
  | _ => none }
def ExtremeBothWrongFalsely : Prop := extremeBothRow.holds Try.pinned (OpenSpec.ofChange extremeBothWrong)

/- THE SECOND FORM. 'bulk': how many values and letters a reading holds, each counted each time it is reached (what is shared counts as often as it is met; a slice's spare places count too). A statement '..UptoSaid' is the law's where the arguments, and the package variables that the reading takes, are together of bulk at most 1048576: NARROWER than '..Said'. Prove '..Said' where nothing that the law and all that it calls make is longer than what came in: it says more and counts as full. Else prove '..UptoSaid'. A law counts once. -/
mutual
def uptoBulk {H : Type} : DataW H → Nat
  | .lit (.string bytes) => bytes.length + 1
  | .lit _ => 1
  | .nil => 1
  | .ptr d => uptoBulk d + 1
  | .slice elems spare => uptoBulkAll elems + uptoBulkAll spare + 1
  | .agg parts => uptoBulkAll parts + 1
  | .iface _ d => uptoBulk d + 1
  | .map entries => uptoBulkEntries entries + 1
  | .held _ => 1
def uptoBulkAll {H : Type} : List (DataW H) → Nat
  | [] => 0
  | d :: r => uptoBulk d + uptoBulkAll r
def uptoBulkEntries {H : Type} : List (Lit × DataW H) → Nat
  | [] => 0
  | x :: r => uptoBulkEntry x + uptoBulkEntries r
def uptoBulkEntry {H : Type} : Lit × DataW H → Nat
  | (.string bytes, d) => bytes.length + uptoBulk d + 1
  | (_, d) => uptoBulk d + 1
 end
def uptoSmall : (H : Type) → List (DataW H) → Bool := fun _ ds => decide (uptoBulkAll ds ≤ 1048576)
def OpenSpec.upto (s : _root_.Go.ChangeSpec) : _root_.Go.OpenSpec := { _root_.Go.OpenSpec.ofChange s with cond := some uptoSmall }

/-- 'windowpanelaw17.ExtremeNew', WHERE WHAT IT READS IS OF BULK AT MOST 1048576: true; the input reads as it did. -/
def extremeNewUptoRow : OpenClaim := { program := "ytfcknhpllhkpeaa", sum := "9db825c317dfffc277768c125daecb5dd3097edbdae754c0305e00fe87f110e6", func := "windowpane/windowpanelaw17.ExtremeNew", spec := "extremeNew", apart := false, narrowed := true }
def ExtremeNewUptoSaid : Prop := extremeNewUptoRow.holds Try.pinned (OpenSpec.upto extremeNewSpec)

/-- 'windowpanelaw17.ExtremeStates', WHERE WHAT IT READS IS OF BULK AT MOST 1048576: true; the input reads as it did. -/
def extremeStatesUptoRow : OpenClaim := { program := "ytfcknhpllhkpeaa", sum := "9db825c317dfffc277768c125daecb5dd3097edbdae754c0305e00fe87f110e6", func := "windowpane/windowpanelaw17.ExtremeStates", spec := "extremeStates", apart := false, narrowed := true }
def ExtremeStatesUptoSaid : Prop := extremeStatesUptoRow.holds Try.pinned (OpenSpec.upto extremeStatesSpec)

/-- 'windowpanelaw17.ExtremeMerges', WHERE WHAT IT READS IS OF BULK AT MOST 1048576: true; the input reads as it did. -/
def extremeMergesUptoRow : OpenClaim := { program := "ytfcknhpllhkpeaa", sum := "9db825c317dfffc277768c125daecb5dd3097edbdae754c0305e00fe87f110e6", func := "windowpane/windowpanelaw17.ExtremeMerges", spec := "extremeMerges", apart := false, narrowed := true }
def ExtremeMergesUptoSaid : Prop := extremeMergesUptoRow.holds Try.pinned (OpenSpec.upto extremeMergesSpec)

/-- 'windowpanelaw17.ExtremeTruth', WHERE WHAT IT READS IS OF BULK AT MOST 1048576: true; the input reads as it did. -/
def extremeTruthUptoRow : OpenClaim := { program := "ytfcknhpllhkpeaa", sum := "9db825c317dfffc277768c125daecb5dd3097edbdae754c0305e00fe87f110e6", func := "windowpane/windowpanelaw17.ExtremeTruth", spec := "extremeTruth", apart := false, narrowed := true }
def ExtremeTruthUptoSaid : Prop := extremeTruthUptoRow.holds Try.pinned (OpenSpec.upto extremeTruthSpec)

/-- 'windowpanelaw17.ExtremeFull', WHERE WHAT IT READS IS OF BULK AT MOST 1048576: true; the input reads as it did. -/
def extremeFullUptoRow : OpenClaim := { program := "ytfcknhpllhkpeaa", sum := "9db825c317dfffc277768c125daecb5dd3097edbdae754c0305e00fe87f110e6", func := "windowpane/windowpanelaw17.ExtremeFull", spec := "extremeFull", apart := false, narrowed := true }
def ExtremeFullUptoSaid : Prop := extremeFullUptoRow.holds Try.pinned (OpenSpec.upto extremeFullSpec)

/-- 'windowpanelaw17.ExtremeBoth', WHERE WHAT IT READS IS OF BULK AT MOST 1048576: true; the input reads as it did. -/
def extremeBothUptoRow : OpenClaim := { program := "ytfcknhpllhkpeaa", sum := "9db825c317dfffc277768c125daecb5dd3097edbdae754c0305e00fe87f110e6", func := "windowpane/windowpanelaw17.ExtremeBoth", spec := "extremeBoth", apart := false, narrowed := true }
def ExtremeBothUptoSaid : Prop := extremeBothUptoRow.holds Try.pinned (OpenSpec.upto extremeBothSpec)

end Rows
end Go.Proofs.Ytfcknhpllhkpeaa
