/-
  No cell of these rows narrows 'for every input' (looked for: loops, veiled, ifaces, maps, wideKeys, modest, calm, conditions, laid).
  DERIVED. THE GIVEN ROWS OF THIS SEAT. 10 by the template 'for every input the law returns true; each argument reads behind the call as it read before'; 0 by the template 'total and deterministic' (their statements: YtafkoddgefcpnaaTotals.lean).
  GIVEN WITH THE SEED: the statements are not yours to turn. If you find one false, say at which input.
  Laid BY PROGRAM, IN A SANDBOX (cutbox-rows.mjs): the forced cells as the released guide's own fill.sh prints them over the translation 83837f638bf31864… (all of the seat's roots in one cut). By AI agents, Wed Nov 11 2026. No macro, syntax, notation, axiom, sorry.
-/
import Derived.Test.YtafkoddgefcpnaaChecked
import GoSem.Claim
import GoSem.ClaimJoined
import GoSem.ClaimMapViews
import Derived.JoinedTies
import Derived.KernelRfl
namespace Go.Proofs.Ytafkoddgefcpnaa
/- THE CELL 'sum', in the pinned program and in every row, IS THE sha256 OF THE DUMP (.gsa) THAT YtafkoddgefcpnaaProg.lean LOADS. Nothing in Lean hashes anything: it is a label: what it is worth is what the hold of that sum in a sandbox is worth. -/
noncomputable def Try.pinned : Pinned := { name := "ytafkoddgefcpnaa", sum := "83837f638bf31864834e344bb3c8b5f4d00e80d04819b15b6cb2146429628253", checked := Try.checked }
namespace Rows
def none {H : Type} : Left H := { results := [], args := [] }

/-- 'windowpanelaw13.SmoothNew': WHATEVER THE INPUT: true; the input reads as it did. -/
def smoothNewSpec : ChangeSpec := { name := "smoothNew", fn := fun _ => fun
  | [d1, d2, d3, d4, d5, d6] => { results := [.lit (.bool true)], args := [d1, d2, d3, d4, d5, d6] }
  | _ => none }
def smoothNewRow : OpenClaim := { program := "ytafkoddgefcpnaa", sum := "83837f638bf31864834e344bb3c8b5f4d00e80d04819b15b6cb2146429628253", func := "windowpane/windowpanelaw13.SmoothNew", spec := "smoothNew", unfollowed := true, recurses := true, apart := false }
def SmoothNewSaid : Prop := smoothNewRow.holds Try.pinned (OpenSpec.ofChange smoothNewSpec)

/-- ITS FALSE NEIGHBOUR: 'it returns false'. Refute it at one input. -/
def smoothNewWrong : ChangeSpec := { name := "smoothNew", fn := fun _ => fun
  | [d1, d2, d3, d4, d5, d6] => { results := [.lit (.bool false)], args := [d1, d2, d3, d4, d5, d6] }
  | _ => none }
def SmoothNewWrongFalsely : Prop := smoothNewRow.holds Try.pinned (OpenSpec.ofChange smoothNewWrong)

/-- 'windowpanelaw13.SmoothValidate': WHATEVER THE INPUT: true; the input reads as it did. -/
def smoothValidateSpec : ChangeSpec := { name := "smoothValidate", fn := fun _ => fun
  | [d] => { results := [.lit (.bool true)], args := [d] }
  | _ => none }
def smoothValidateRow : OpenClaim := { program := "ytafkoddgefcpnaa", sum := "83837f638bf31864834e344bb3c8b5f4d00e80d04819b15b6cb2146429628253", func := "windowpane/windowpanelaw13.SmoothValidate", spec := "smoothValidate", unfollowed := true, recurses := true, apart := false }
def SmoothValidateSaid : Prop := smoothValidateRow.holds Try.pinned (OpenSpec.ofChange smoothValidateSpec)

/-- ITS FALSE NEIGHBOUR: 'it returns false'. Refute it at one input. -/
def smoothValidateWrong : ChangeSpec := { name := "smoothValidate", fn := fun _ => fun
  | [d] => { results := [.lit (.bool false)], args := [d] }
  | _ => none }
def SmoothValidateWrongFalsely : Prop := smoothValidateRow.holds Try.pinned (OpenSpec.ofChange smoothValidateWrong)

/-- 'windowpanelaw13.SmoothAdvance': WHATEVER THE INPUT: true; the input reads as it did. -/
def smoothAdvanceSpec : ChangeSpec := { name := "smoothAdvance", fn := fun _ => fun
  | [d1, d2] => { results := [.lit (.bool true)], args := [d1, d2] }
  | _ => none }
def smoothAdvanceRow : OpenClaim := { program := "ytafkoddgefcpnaa", sum := "83837f638bf31864834e344bb3c8b5f4d00e80d04819b15b6cb2146429628253", func := "windowpane/windowpanelaw13.SmoothAdvance", spec := "smoothAdvance", unfollowed := true, recurses := true, apart := false }
def SmoothAdvanceSaid : Prop := smoothAdvanceRow.holds Try.pinned (OpenSpec.ofChange smoothAdvanceSpec)

/-- ITS FALSE NEIGHBOUR: 'it returns false'. Refute it at one input. -/
def smoothAdvanceWrong : ChangeSpec := { name := "smoothAdvance", fn := fun _ => fun
  | [d1, d2] => { results := [.lit (.bool false)], args := [d1, d2] }
  | _ => none }
def SmoothAdvanceWrongFalsely : Prop := smoothAdvanceRow.holds Try.pinned (OpenSpec.ofChange smoothAdvanceWrong)

/-- 'windowpanelaw13.SmoothAdd': WHATEVER THE INPUT: true; the input reads as it did. -/
def smoothAddSpec : ChangeSpec := { name := "smoothAdd", fn := fun _ => fun
  | [d1, d2] => { results := [.lit (.bool true)], args := [d1, d2] }
  | _ => none }
def smoothAddRow : OpenClaim := { program := "ytafkoddgefcpnaa", sum := "83837f638bf31864834e344bb3c8b5f4d00e80d04819b15b6cb2146429628253", func := "windowpane/windowpanelaw13.SmoothAdd", spec := "smoothAdd", unfollowed := true, recurses := true, apart := false }
def SmoothAddSaid : Prop := smoothAddRow.holds Try.pinned (OpenSpec.ofChange smoothAddSpec)

/-- ITS FALSE NEIGHBOUR: 'it returns false'. Refute it at one input. -/
def smoothAddWrong : ChangeSpec := { name := "smoothAdd", fn := fun _ => fun
  | [d1, d2] => { results := [.lit (.bool false)], args := [d1, d2] }
  | _ => none }
def SmoothAddWrongFalsely : Prop := smoothAddRow.holds Try.pinned (OpenSpec.ofChange smoothAddWrong)

/-- 'windowpanelaw13.SmoothAsk': WHATEVER THE INPUT: true; the input reads as it did. -/
def smoothAskSpec : ChangeSpec := { name := "smoothAsk", fn := fun _ => fun
  | [d] => { results := [.lit (.bool true)], args := [d] }
  | _ => none }
def smoothAskRow : OpenClaim := { program := "ytafkoddgefcpnaa", sum := "83837f638bf31864834e344bb3c8b5f4d00e80d04819b15b6cb2146429628253", func := "windowpane/windowpanelaw13.SmoothAsk", spec := "smoothAsk", inPlace := ["math/bits.Sub64"], unfollowed := true, recurses := true, apart := false }
def SmoothAskSaid : Prop := smoothAskRow.holds Try.pinned (OpenSpec.ofChange smoothAskSpec)

/-- ITS FALSE NEIGHBOUR: 'it returns false'. Refute it at one input. -/
def smoothAskWrong : ChangeSpec := { name := "smoothAsk", fn := fun _ => fun
  | [d] => { results := [.lit (.bool false)], args := [d] }
  | _ => none }
def SmoothAskWrongFalsely : Prop := smoothAskRow.holds Try.pinned (OpenSpec.ofChange smoothAskWrong)

/-- 'windowpanelaw13.SmoothTruth': WHATEVER THE INPUT: true; the input reads as it did. -/
def smoothTruthSpec : ChangeSpec := { name := "smoothTruth", fn := fun _ => fun
  | [d1, d2, d3, d4, d5, d6] => { results := [.lit (.bool true)], args := [d1, d2, d3, d4, d5, d6] }
  | _ => none }
def smoothTruthRow : OpenClaim := { program := "ytafkoddgefcpnaa", sum := "83837f638bf31864834e344bb3c8b5f4d00e80d04819b15b6cb2146429628253", func := "windowpane/windowpanelaw13.SmoothTruth", spec := "smoothTruth", inPlace := ["math/bits.Add64", "math/bits.Sub64"], unfollowed := true, recurses := true, apart := false }
def SmoothTruthSaid : Prop := smoothTruthRow.holds Try.pinned (OpenSpec.ofChange smoothTruthSpec)

/-- ITS FALSE NEIGHBOUR: 'it returns false'. Refute it at one input. -/
def smoothTruthWrong : ChangeSpec := { name := "smoothTruth", fn := fun _ => fun
  | [d1, d2, d3, d4, d5, d6] => { results := [.lit (.bool false)], args := [d1, d2, d3, d4, d5, d6] }
  | _ => none }
def SmoothTruthWrongFalsely : Prop := smoothTruthRow.holds Try.pinned (OpenSpec.ofChange smoothTruthWrong)

/-- 'windowpanelaw13.SmoothKeeps': WHATEVER THE INPUT: true; the input reads as it did. -/
def smoothKeepsSpec : ChangeSpec := { name := "smoothKeeps", fn := fun _ => fun
  | [d1, d2, d3, d4, d5] => { results := [.lit (.bool true)], args := [d1, d2, d3, d4, d5] }
  | _ => none }
def smoothKeepsRow : OpenClaim := { program := "ytafkoddgefcpnaa", sum := "83837f638bf31864834e344bb3c8b5f4d00e80d04819b15b6cb2146429628253", func := "windowpane/windowpanelaw13.SmoothKeeps", spec := "smoothKeeps", unfollowed := true, recurses := true, apart := false }
def SmoothKeepsSaid : Prop := smoothKeepsRow.holds Try.pinned (OpenSpec.ofChange smoothKeepsSpec)

/-- ITS FALSE NEIGHBOUR: 'it returns false'. Refute it at one input. -/
def smoothKeepsWrong : ChangeSpec := { name := "smoothKeeps", fn := fun _ => fun
  | [d1, d2, d3, d4, d5] => { results := [.lit (.bool false)], args := [d1, d2, d3, d4, d5] }
  | _ => none }
def SmoothKeepsWrongFalsely : Prop := smoothKeepsRow.holds Try.pinned (OpenSpec.ofChange smoothKeepsWrong)

/-- 'windowpanelaw14.SpreadNew': WHATEVER THE INPUT: true; the input reads as it did. -/
def spreadNewSpec : ChangeSpec := { name := "spreadNew", fn := fun _ => fun
  | [d1, d2, d3, d4] => { results := [.lit (.bool true)], args := [d1, d2, d3, d4] }
  | _ => none }
def spreadNewRow : OpenClaim := { program := "ytafkoddgefcpnaa", sum := "83837f638bf31864834e344bb3c8b5f4d00e80d04819b15b6cb2146429628253", func := "windowpane/windowpanelaw14.SpreadNew", spec := "spreadNew", inPlace := ["math/bits.Add64", "math/bits.Sub64"], named := ["math/bits.divideError", "math/bits.overflowError"], apart := false }
def SpreadNewSaid : Prop := spreadNewRow.holds Try.pinned (OpenSpec.ofChange spreadNewSpec)

/-- ITS FALSE NEIGHBOUR: 'it returns false'. Refute it at one input. -/
def spreadNewWrong : ChangeSpec := { name := "spreadNew", fn := fun _ => fun
  | [d1, d2, d3, d4] => { results := [.lit (.bool false)], args := [d1, d2, d3, d4] }
  | _ => none }
def SpreadNewWrongFalsely : Prop := spreadNewRow.holds Try.pinned (OpenSpec.ofChange spreadNewWrong)

/-- 'windowpanelaw14.SpreadMarks': WHATEVER THE INPUT: true; the input reads as it did. -/
def spreadMarksSpec : ChangeSpec := { name := "spreadMarks", fn := fun _ => fun
  | [d1, d2, d3] => { results := [.lit (.bool true)], args := [d1, d2, d3] }
  | _ => none }
def spreadMarksRow : OpenClaim := { program := "ytafkoddgefcpnaa", sum := "83837f638bf31864834e344bb3c8b5f4d00e80d04819b15b6cb2146429628253", func := "windowpane/windowpanelaw14.SpreadMarks", spec := "spreadMarks", inPlace := ["math/bits.Add64", "math/bits.Sub64"], named := ["math/bits.divideError", "math/bits.overflowError"], apart := false }
def SpreadMarksSaid : Prop := spreadMarksRow.holds Try.pinned (OpenSpec.ofChange spreadMarksSpec)

/-- ITS FALSE NEIGHBOUR: 'it returns false'. Refute it at one input. -/
def spreadMarksWrong : ChangeSpec := { name := "spreadMarks", fn := fun _ => fun
  | [d1, d2, d3] => { results := [.lit (.bool false)], args := [d1, d2, d3] }
  | _ => none }
def SpreadMarksWrongFalsely : Prop := spreadMarksRow.holds Try.pinned (OpenSpec.ofChange spreadMarksWrong)

/-- 'windowpanelaw14.SpreadKeeps': WHATEVER THE INPUT: true; the input reads as it did. -/
def spreadKeepsSpec : ChangeSpec := { name := "spreadKeeps", fn := fun _ => fun
  | [d1, d2, d3, d4] => { results := [.lit (.bool true)], args := [d1, d2, d3, d4] }
  | _ => none }
def spreadKeepsRow : OpenClaim := { program := "ytafkoddgefcpnaa", sum := "83837f638bf31864834e344bb3c8b5f4d00e80d04819b15b6cb2146429628253", func := "windowpane/windowpanelaw14.SpreadKeeps", spec := "spreadKeeps", inPlace := ["math/bits.Add64", "math/bits.Sub64"], unfollowed := true, recurses := true, named := ["math/bits.divideError", "math/bits.overflowError"], apart := false }
def SpreadKeepsSaid : Prop := spreadKeepsRow.holds Try.pinned (OpenSpec.ofChange spreadKeepsSpec)

/-- ITS FALSE NEIGHBOUR: 'it returns false'. Refute it at one input. -/
def spreadKeepsWrong : ChangeSpec := { name := "spreadKeeps", fn := fun _ => fun
  | [d1, d2, d3, d4] => { results := [.lit (.bool false)], args := [d1, d2, d3, d4] }
  | _ => none }
def SpreadKeepsWrongFalsely : Prop := spreadKeepsRow.holds Try.pinned (OpenSpec.ofChange spreadKeepsWrong)

/- THE SECOND FORM. 'bulk': how many values and letters a reading holds, each counted each time it is reached (what is shared counts as often as it is met; a slice's spare places count too). A statement '..UptoSaid' is the law's where the arguments, and the package variables that the reading takes, are together of bulk at most 1048576: NARROWER than '..Said'. Prove '..Said' where nothing that the law and all that it calls make is longer than what came in: it says more and counts as full. Else prove '..UptoSaid'. A law counts once. -/
mutual
def uptoBulk {H : Type} : DataW H → Nat
  | .lit (.string bytes) => bytes.length + 1
  | .lit _ => 1
  | .nil => 1
  | .ptr d => uptoBulk d + 1
  | .slice elems spare => uptoBulkAll elems + uptoBulkAll spare + 1
  | .agg parts => uptoBulkAll parts + 1
  | .iface _ d => uptoBulk d + 1
  | .map entries => uptoBulkEntries entries + 1
  | .held _ => 1
def uptoBulkAll {H : Type} : List (DataW H) → Nat
  | [] => 0
  | d :: r => uptoBulk d + uptoBulkAll r
def uptoBulkEntries {H : Type} : List (Lit × DataW H) → Nat
  | [] => 0
  | x :: r => uptoBulkEntry x + uptoBulkEntries r
def uptoBulkEntry {H : Type} : Lit × DataW H → Nat
  | (.string bytes, d) => bytes.length + uptoBulk d + 1
  | (_, d) => uptoBulk d + 1
 end
def uptoSmall : (H : Type) → List (DataW H) → Bool := fun _ ds => decide (uptoBulkAll ds ≤ 1048576)
def OpenSpec.upto (s : _root_.Go.ChangeSpec) : _root_.Go.OpenSpec := { _root_.Go.OpenSpec.ofChange s with cond := some uptoSmall }

/-- 'windowpanelaw13.SmoothNew', WHERE WHAT IT READS IS OF BULK AT MOST 1048576: true; the input reads as it did. -/
def smoothNewUptoRow : OpenClaim := { program := "ytafkoddgefcpnaa", sum := "83837f638bf31864834e344bb3c8b5f4d00e80d04819b15b6cb2146429628253", func := "windowpane/windowpanelaw13.SmoothNew", spec := "smoothNew", unfollowed := true, recurses := true, apart := false, narrowed := true }
def SmoothNewUptoSaid : Prop := smoothNewUptoRow.holds Try.pinned (OpenSpec.upto smoothNewSpec)

/-- 'windowpanelaw13.SmoothValidate', WHERE WHAT IT READS IS OF BULK AT MOST 1048576: true; the input reads as it did. -/
def smoothValidateUptoRow : OpenClaim := { program := "ytafkoddgefcpnaa", sum := "83837f638bf31864834e344bb3c8b5f4d00e80d04819b15b6cb2146429628253", func := "windowpane/windowpanelaw13.SmoothValidate", spec := "smoothValidate", unfollowed := true, recurses := true, apart := false, narrowed := true }
def SmoothValidateUptoSaid : Prop := smoothValidateUptoRow.holds Try.pinned (OpenSpec.upto smoothValidateSpec)

/-- 'windowpanelaw13.SmoothAdvance', WHERE WHAT IT READS IS OF BULK AT MOST 1048576: true; the input reads as it did. -/
def smoothAdvanceUptoRow : OpenClaim := { program := "ytafkoddgefcpnaa", sum := "83837f638bf31864834e344bb3c8b5f4d00e80d04819b15b6cb2146429628253", func := "windowpane/windowpanelaw13.SmoothAdvance", spec := "smoothAdvance", unfollowed := true, recurses := true, apart := false, narrowed := true }
def SmoothAdvanceUptoSaid : Prop := smoothAdvanceUptoRow.holds Try.pinned (OpenSpec.upto smoothAdvanceSpec)

/-- 'windowpanelaw13.SmoothAdd', WHERE WHAT IT READS IS OF BULK AT MOST 1048576: true; the input reads as it did. -/
def smoothAddUptoRow : OpenClaim := { program := "ytafkoddgefcpnaa", sum := "83837f638bf31864834e344bb3c8b5f4d00e80d04819b15b6cb2146429628253", func := "windowpane/windowpanelaw13.SmoothAdd", spec := "smoothAdd", unfollowed := true, recurses := true, apart := false, narrowed := true }
def SmoothAddUptoSaid : Prop := smoothAddUptoRow.holds Try.pinned (OpenSpec.upto smoothAddSpec)

/-- 'windowpanelaw13.SmoothAsk', WHERE WHAT IT READS IS OF BULK AT MOST 1048576: true; the input reads as it did. -/
def smoothAskUptoRow : OpenClaim := { program := "ytafkoddgefcpnaa", sum := "83837f638bf31864834e344bb3c8b5f4d00e80d04819b15b6cb2146429628253", func := "windowpane/windowpanelaw13.SmoothAsk", spec := "smoothAsk", inPlace := ["math/bits.Sub64"], unfollowed := true, recurses := true, apart := false, narrowed := true }
def SmoothAskUptoSaid : Prop := smoothAskUptoRow.holds Try.pinned (OpenSpec.upto smoothAskSpec)

/-- 'windowpanelaw13.SmoothTruth', WHERE WHAT IT READS IS OF BULK AT MOST 1048576: true; the input reads as it did. -/
def smoothTruthUptoRow : OpenClaim := { program := "ytafkoddgefcpnaa", sum := "83837f638bf31864834e344bb3c8b5f4d00e80d04819b15b6cb2146429628253", func := "windowpane/windowpanelaw13.SmoothTruth", spec := "smoothTruth", inPlace := ["math/bits.Add64", "math/bits.Sub64"], unfollowed := true, recurses := true, apart := false, narrowed := true }
def SmoothTruthUptoSaid : Prop := smoothTruthUptoRow.holds Try.pinned (OpenSpec.upto smoothTruthSpec)

/-- 'windowpanelaw13.SmoothKeeps', WHERE WHAT IT READS IS OF BULK AT MOST 1048576: true; the input reads as it did. -/
def smoothKeepsUptoRow : OpenClaim := { program := "ytafkoddgefcpnaa", sum := "83837f638bf31864834e344bb3c8b5f4d00e80d04819b15b6cb2146429628253", func := "windowpane/windowpanelaw13.SmoothKeeps", spec := "smoothKeeps", unfollowed := true, recurses := true, apart := false, narrowed := true }
def SmoothKeepsUptoSaid : Prop := smoothKeepsUptoRow.holds Try.pinned (OpenSpec.upto smoothKeepsSpec)

/-- 'windowpanelaw14.SpreadNew', WHERE WHAT IT READS IS OF BULK AT MOST 1048576: true; the input reads as it did. -/
def spreadNewUptoRow : OpenClaim := { program := "ytafkoddgefcpnaa", sum := "83837f638bf31864834e344bb3c8b5f4d00e80d04819b15b6cb2146429628253", func := "windowpane/windowpanelaw14.SpreadNew", spec := "spreadNew", inPlace := ["math/bits.Add64", "math/bits.Sub64"], named := ["math/bits.divideError", "math/bits.overflowError"], apart := false, narrowed := true }
def SpreadNewUptoSaid : Prop := spreadNewUptoRow.holds Try.pinned (OpenSpec.upto spreadNewSpec)

/-- 'windowpanelaw14.SpreadMarks', WHERE WHAT IT READS IS OF BULK AT MOST 1048576: true; the input reads as it did. -/
def spreadMarksUptoRow : OpenClaim := { program := "ytafkoddgefcpnaa", sum := "83837f638bf31864834e344bb3c8b5f4d00e80d04819b15b6cb2146429628253", func := "windowpane/windowpanelaw14.SpreadMarks", spec := "spreadMarks", inPlace := ["math/bits.Add64", "math/bits.Sub64"], named := ["math/bits.divideError", "math/bits.overflowError"], apart := false, narrowed := true }
def SpreadMarksUptoSaid : Prop := spreadMarksUptoRow.holds Try.pinned (OpenSpec.upto spreadMarksSpec)

/-- 'windowpanelaw14.SpreadKeeps', WHERE WHAT IT READS IS OF BULK AT MOST 1048576: true; the input reads as it did. -/
def spreadKeepsUptoRow : OpenClaim := { program := "ytafkoddgefcpnaa", sum := "83837f638bf31864834e344bb3c8b5f4d00e80d04819b15b6cb2146429628253", func := "windowpane/windowpanelaw14.SpreadKeeps", spec := "spreadKeeps", inPlace := ["math/bits.Add64", "math/bits.Sub64"], unfollowed := true, recurses := true, named := ["math/bits.divideError", "math/bits.overflowError"], apart := false, narrowed := true }
def SpreadKeepsUptoSaid : Prop := spreadKeepsUptoRow.holds Try.pinned (OpenSpec.upto spreadKeepsSpec)

end Rows
end Go.Proofs.Ytafkoddgefcpnaa
