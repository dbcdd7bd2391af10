/-
  No cell of these rows narrows 'for every input' (looked for: loops, veiled, ifaces, maps, wideKeys, modest, calm, conditions, laid).
  DERIVED. THE GIVEN ROWS OF THIS SEAT. 10 by the template 'for every input the law returns true; each argument reads behind the call as it read before'; 0 by the template 'total and deterministic' (their statements: YtkhgibpginbdcaaTotals.lean).
  GIVEN WITH THE SEED: the statements are not yours to turn. If you find one false, say at which input.
  Laid BY PROGRAM, IN A SANDBOX (cutbox-rows.mjs): the forced cells as the released guide's own fill.sh prints them over the translation 51db31d6efb038c5… (all of the seat's roots in one cut). By AI agents, Wed Nov 11 2026. No macro, syntax, notation, axiom, sorry.
-/
import Derived.Test.YtkhgibpginbdcaaChecked
import GoSem.Claim
import GoSem.ClaimJoined
import GoSem.ClaimMapViews
import Derived.JoinedTies
import Derived.KernelRfl
namespace Go.Proofs.Ytkhgibpginbdcaa
/- THE CELL 'sum', in the pinned program and in every row, IS THE sha256 OF THE DUMP (.gsa) THAT YtkhgibpginbdcaaProg.lean LOADS. Nothing in Lean hashes anything: it is a label: what it is worth is what the hold of that sum in a sandbox is worth. -/
noncomputable def Try.pinned : Pinned := { name := "ytkhgibpginbdcaa", sum := "51db31d6efb038c59ba5ab2033c0c81cdcf8edf29a626100227a85f7df7e8415", checked := Try.checked }
namespace Rows
def none {H : Type} : Left H := { results := [], args := [] }

/-- 'windowpanelaw02.WideAdds': WHATEVER THE INPUT: true; the input reads as it did. -/
def wideAddsSpec : ChangeSpec := { name := "wideAdds", fn := fun _ => fun
  | [d1, d2] => { results := [.lit (.bool true)], args := [d1, d2] }
  | _ => none }
def wideAddsRow : OpenClaim := { program := "ytkhgibpginbdcaa", sum := "51db31d6efb038c59ba5ab2033c0c81cdcf8edf29a626100227a85f7df7e8415", func := "windowpane/windowpanelaw02.WideAdds", spec := "wideAdds", inPlace := ["math/bits.Add64", "math/bits.Sub64"], named := ["math/bits.divideError", "math/bits.overflowError"], apart := false }
def WideAddsSaid : Prop := wideAddsRow.holds Try.pinned (OpenSpec.ofChange wideAddsSpec)

/-- ITS FALSE NEIGHBOUR: 'it returns false'. Refute it at one input. -/
def wideAddsWrong : ChangeSpec := { name := "wideAdds", fn := fun _ => fun
  | [d1, d2] => { results := [.lit (.bool false)], args := [d1, d2] }
  | _ => none }
def WideAddsWrongFalsely : Prop := wideAddsRow.holds Try.pinned (OpenSpec.ofChange wideAddsWrong)

/-- 'windowpanelaw02.WideMultiplies': WHATEVER THE INPUT: true; the input reads as it did. -/
def wideMultipliesSpec : ChangeSpec := { name := "wideMultiplies", fn := fun _ => fun
  | [d1, d2] => { results := [.lit (.bool true)], args := [d1, d2] }
  | _ => none }
def wideMultipliesRow : OpenClaim := { program := "ytkhgibpginbdcaa", sum := "51db31d6efb038c59ba5ab2033c0c81cdcf8edf29a626100227a85f7df7e8415", func := "windowpane/windowpanelaw02.WideMultiplies", spec := "wideMultiplies", inPlace := ["math/bits.Add64"], named := ["math/bits.divideError", "math/bits.overflowError"], apart := false }
def WideMultipliesSaid : Prop := wideMultipliesRow.holds Try.pinned (OpenSpec.ofChange wideMultipliesSpec)

/-- ITS FALSE NEIGHBOUR: 'it returns false'. Refute it at one input. -/
def wideMultipliesWrong : ChangeSpec := { name := "wideMultiplies", fn := fun _ => fun
  | [d1, d2] => { results := [.lit (.bool false)], args := [d1, d2] }
  | _ => none }
def WideMultipliesWrongFalsely : Prop := wideMultipliesRow.holds Try.pinned (OpenSpec.ofChange wideMultipliesWrong)

/-- 'windowpanelaw02.WidePowers': WHATEVER THE INPUT: true; the input reads as it did. -/
def widePowersSpec : ChangeSpec := { name := "widePowers", fn := fun _ => fun
  | [d1, d2] => { results := [.lit (.bool true)], args := [d1, d2] }
  | _ => none }
def widePowersRow : OpenClaim := { program := "ytkhgibpginbdcaa", sum := "51db31d6efb038c59ba5ab2033c0c81cdcf8edf29a626100227a85f7df7e8415", func := "windowpane/windowpanelaw02.WidePowers", spec := "widePowers", inPlace := ["math/bits.Add64"], named := ["math/bits.divideError", "math/bits.overflowError"], apart := false }
def WidePowersSaid : Prop := widePowersRow.holds Try.pinned (OpenSpec.ofChange widePowersSpec)

/-- ITS FALSE NEIGHBOUR: 'it returns false'. Refute it at one input. -/
def widePowersWrong : ChangeSpec := { name := "widePowers", fn := fun _ => fun
  | [d1, d2] => { results := [.lit (.bool false)], args := [d1, d2] }
  | _ => none }
def WidePowersWrongFalsely : Prop := widePowersRow.holds Try.pinned (OpenSpec.ofChange widePowersWrong)

/-- 'windowpanelaw02.WideDivides': WHATEVER THE INPUT: true; the input reads as it did. -/
def wideDividesSpec : ChangeSpec := { name := "wideDivides", fn := fun _ => fun
  | [d1, d2] => { results := [.lit (.bool true)], args := [d1, d2] }
  | _ => none }
def wideDividesRow : OpenClaim := { program := "ytkhgibpginbdcaa", sum := "51db31d6efb038c59ba5ab2033c0c81cdcf8edf29a626100227a85f7df7e8415", func := "windowpane/windowpanelaw02.WideDivides", spec := "wideDivides", inPlace := ["math/bits.Add64", "math/bits.Sub64"], named := ["math/bits.divideError", "math/bits.overflowError"], apart := false }
def WideDividesSaid : Prop := wideDividesRow.holds Try.pinned (OpenSpec.ofChange wideDividesSpec)

/-- ITS FALSE NEIGHBOUR: 'it returns false'. Refute it at one input. -/
def wideDividesWrong : ChangeSpec := { name := "wideDivides", fn := fun _ => fun
  | [d1, d2] => { results := [.lit (.bool false)], args := [d1, d2] }
  | _ => none }
def WideDividesWrongFalsely : Prop := wideDividesRow.holds Try.pinned (OpenSpec.ofChange wideDividesWrong)

/-- 'windowpanelaw02.WideRemains': WHATEVER THE INPUT: true; the input reads as it did. -/
def wideRemainsSpec : ChangeSpec := { name := "wideRemains", fn := fun _ => fun
  | [d1, d2] => { results := [.lit (.bool true)], args := [d1, d2] }
  | _ => none }
def wideRemainsRow : OpenClaim := { program := "ytkhgibpginbdcaa", sum := "51db31d6efb038c59ba5ab2033c0c81cdcf8edf29a626100227a85f7df7e8415", func := "windowpane/windowpanelaw02.WideRemains", spec := "wideRemains", inPlace := ["math/bits.Add64", "math/bits.Sub64"], named := ["math/bits.divideError", "math/bits.overflowError"], apart := false }
def WideRemainsSaid : Prop := wideRemainsRow.holds Try.pinned (OpenSpec.ofChange wideRemainsSpec)

/-- ITS FALSE NEIGHBOUR: 'it returns false'. Refute it at one input. -/
def wideRemainsWrong : ChangeSpec := { name := "wideRemains", fn := fun _ => fun
  | [d1, d2] => { results := [.lit (.bool false)], args := [d1, d2] }
  | _ => none }
def WideRemainsWrongFalsely : Prop := wideRemainsRow.holds Try.pinned (OpenSpec.ofChange wideRemainsWrong)

/-- 'windowpanelaw02.WideCompares': WHATEVER THE INPUT: true; the input reads as it did. -/
def wideComparesSpec : ChangeSpec := { name := "wideCompares", fn := fun _ => fun
  | [d1, d2] => { results := [.lit (.bool true)], args := [d1, d2] }
  | _ => none }
def wideComparesRow : OpenClaim := { program := "ytkhgibpginbdcaa", sum := "51db31d6efb038c59ba5ab2033c0c81cdcf8edf29a626100227a85f7df7e8415", func := "windowpane/windowpanelaw02.WideCompares", spec := "wideCompares", named := ["math/bits.divideError", "math/bits.overflowError"], apart := false }
def WideComparesSaid : Prop := wideComparesRow.holds Try.pinned (OpenSpec.ofChange wideComparesSpec)

/-- ITS FALSE NEIGHBOUR: 'it returns false'. Refute it at one input. -/
def wideComparesWrong : ChangeSpec := { name := "wideCompares", fn := fun _ => fun
  | [d1, d2] => { results := [.lit (.bool false)], args := [d1, d2] }
  | _ => none }
def WideComparesWrongFalsely : Prop := wideComparesRow.holds Try.pinned (OpenSpec.ofChange wideComparesWrong)

/-- 'windowpanelaw02.WideGcds': WHATEVER THE INPUT: true; the input reads as it did. -/
def wideGcdsSpec : ChangeSpec := { name := "wideGcds", fn := fun _ => fun
  | [d1, d2] => { results := [.lit (.bool true)], args := [d1, d2] }
  | _ => none }
def wideGcdsRow : OpenClaim := { program := "ytkhgibpginbdcaa", sum := "51db31d6efb038c59ba5ab2033c0c81cdcf8edf29a626100227a85f7df7e8415", func := "windowpane/windowpanelaw02.WideGcds", spec := "wideGcds", inPlace := ["math/bits.Add64", "math/bits.Sub64"], named := ["math/bits.divideError", "math/bits.overflowError"], apart := false }
def WideGcdsSaid : Prop := wideGcdsRow.holds Try.pinned (OpenSpec.ofChange wideGcdsSpec)

/-- ITS FALSE NEIGHBOUR: 'it returns false'. Refute it at one input. -/
def wideGcdsWrong : ChangeSpec := { name := "wideGcds", fn := fun _ => fun
  | [d1, d2] => { results := [.lit (.bool false)], args := [d1, d2] }
  | _ => none }
def WideGcdsWrongFalsely : Prop := wideGcdsRow.holds Try.pinned (OpenSpec.ofChange wideGcdsWrong)

/-- 'windowpanelaw02.WideWrites': WHATEVER THE INPUT: true; the input reads as it did. -/
def wideWritesSpec : ChangeSpec := { name := "wideWrites", fn := fun _ => fun
  | [d] => { results := [.lit (.bool true)], args := [d] }
  | _ => none }
def wideWritesRow : OpenClaim := { program := "ytkhgibpginbdcaa", sum := "51db31d6efb038c59ba5ab2033c0c81cdcf8edf29a626100227a85f7df7e8415", func := "windowpane/windowpanelaw02.WideWrites", spec := "wideWrites", inPlace := ["math/bits.Add64", "math/bits.Sub64"], named := ["math/bits.divideError", "math/bits.overflowError"], apart := false }
def WideWritesSaid : Prop := wideWritesRow.holds Try.pinned (OpenSpec.ofChange wideWritesSpec)

/-- ITS FALSE NEIGHBOUR: 'it returns false'. Refute it at one input. -/
def wideWritesWrong : ChangeSpec := { name := "wideWrites", fn := fun _ => fun
  | [d] => { results := [.lit (.bool false)], args := [d] }
  | _ => none }
def WideWritesWrongFalsely : Prop := wideWritesRow.holds Try.pinned (OpenSpec.ofChange wideWritesWrong)

/-- 'windowpanelaw02.WideReads': WHATEVER THE INPUT: true; the input reads as it did. -/
def wideReadsSpec : ChangeSpec := { name := "wideReads", fn := fun _ => fun
  | [d] => { results := [.lit (.bool true)], args := [d] }
  | _ => none }
def wideReadsRow : OpenClaim := { program := "ytkhgibpginbdcaa", sum := "51db31d6efb038c59ba5ab2033c0c81cdcf8edf29a626100227a85f7df7e8415", func := "windowpane/windowpanelaw02.WideReads", spec := "wideReads", inPlace := ["math/bits.Add64"], named := ["math/bits.divideError", "math/bits.overflowError"], apart := false }
def WideReadsSaid : Prop := wideReadsRow.holds Try.pinned (OpenSpec.ofChange wideReadsSpec)

/-- ITS FALSE NEIGHBOUR: 'it returns false'. Refute it at one input. -/
def wideReadsWrong : ChangeSpec := { name := "wideReads", fn := fun _ => fun
  | [d] => { results := [.lit (.bool false)], args := [d] }
  | _ => none }
def WideReadsWrongFalsely : Prop := wideReadsRow.holds Try.pinned (OpenSpec.ofChange wideReadsWrong)

/-- 'windowpanelaw02.WideCrosses': WHATEVER THE INPUT: true; the input reads as it did. -/
def wideCrossesSpec : ChangeSpec := { name := "wideCrosses", fn := fun _ => fun
  | [d1, d2, d3, d4] => { results := [.lit (.bool true)], args := [d1, d2, d3, d4] }
  | _ => none }
def wideCrossesRow : OpenClaim := { program := "ytkhgibpginbdcaa", sum := "51db31d6efb038c59ba5ab2033c0c81cdcf8edf29a626100227a85f7df7e8415", func := "windowpane/windowpanelaw02.WideCrosses", spec := "wideCrosses", named := ["math/bits.divideError", "math/bits.overflowError"], apart := false }
def WideCrossesSaid : Prop := wideCrossesRow.holds Try.pinned (OpenSpec.ofChange wideCrossesSpec)

/-- ITS FALSE NEIGHBOUR: 'it returns false'. Refute it at one input. -/
def wideCrossesWrong : ChangeSpec := { name := "wideCrosses", fn := fun _ => fun
  | [d1, d2, d3, d4] => { results := [.lit (.bool false)], args := [d1, d2, d3, d4] }
  | _ => none }
def WideCrossesWrongFalsely : Prop := wideCrossesRow.holds Try.pinned (OpenSpec.ofChange wideCrossesWrong)

/- THE SECOND FORM. 'bulk': how many values and letters a reading holds, each counted each time it is reached (what is shared counts as often as it is met; a slice's spare places count too). A statement '..UptoSaid' is the law's where the arguments, and the package variables that the reading takes, are together of bulk at most 1048576: NARROWER than '..Said'. Prove '..Said' where nothing that the law and all that it calls make is longer than what came in: it says more and counts as full. Else prove '..UptoSaid'. A law counts once. -/
mutual
def uptoBulk {H : Type} : DataW H → Nat
  | .lit (.string bytes) => bytes.length + 1
  | .lit _ => 1
  | .nil => 1
  | .ptr d => uptoBulk d + 1
  | .slice elems spare => uptoBulkAll elems + uptoBulkAll spare + 1
  | .agg parts => uptoBulkAll parts + 1
  | .iface _ d => uptoBulk d + 1
  | .map entries => uptoBulkEntries entries + 1
  | .held _ => 1
def uptoBulkAll {H : Type} : List (DataW H) → Nat
  | [] => 0
  | d :: r => uptoBulk d + uptoBulkAll r
def uptoBulkEntries {H : Type} : List (Lit × DataW H) → Nat
  | [] => 0
  | x :: r => uptoBulkEntry x + uptoBulkEntries r
def uptoBulkEntry {H : Type} : Lit × DataW H → Nat
  | (.string bytes, d) => bytes.length + uptoBulk d + 1
  | (_, d) => uptoBulk d + 1
 end
def uptoSmall : (H : Type) → List (DataW H) → Bool := fun _ ds => decide (uptoBulkAll ds ≤ 1048576)
def OpenSpec.upto (s : _root_.Go.ChangeSpec) : _root_.Go.OpenSpec := { _root_.Go.OpenSpec.ofChange s with cond := some uptoSmall }

/-- 'windowpanelaw02.WideAdds', WHERE WHAT IT READS IS OF BULK AT MOST 1048576: true; the input reads as it did. -/
def wideAddsUptoRow : OpenClaim := { program := "ytkhgibpginbdcaa", sum := "51db31d6efb038c59ba5ab2033c0c81cdcf8edf29a626100227a85f7df7e8415", func := "windowpane/windowpanelaw02.WideAdds", spec := "wideAdds", inPlace := ["math/bits.Add64", "math/bits.Sub64"], named := ["math/bits.divideError", "math/bits.overflowError"], apart := false, narrowed := true }
def WideAddsUptoSaid : Prop := wideAddsUptoRow.holds Try.pinned (OpenSpec.upto wideAddsSpec)

/-- 'windowpanelaw02.WideMultiplies', WHERE WHAT IT READS IS OF BULK AT MOST 1048576: true; the input reads as it did. -/
def wideMultipliesUptoRow : OpenClaim := { program := "ytkhgibpginbdcaa", sum := "51db31d6efb038c59ba5ab2033c0c81cdcf8edf29a626100227a85f7df7e8415", func := "windowpane/windowpanelaw02.WideMultiplies", spec := "wideMultiplies", inPlace := ["math/bits.Add64"], named := ["math/bits.divideError", "math/bits.overflowError"], apart := false, narrowed := true }
def WideMultipliesUptoSaid : Prop := wideMultipliesUptoRow.holds Try.pinned (OpenSpec.upto wideMultipliesSpec)

/-- 'windowpanelaw02.WidePowers', WHERE WHAT IT READS IS OF BULK AT MOST 1048576: true; the input reads as it did. -/
def widePowersUptoRow : OpenClaim := { program := "ytkhgibpginbdcaa", sum := "51db31d6efb038c59ba5ab2033c0c81cdcf8edf29a626100227a85f7df7e8415", func := "windowpane/windowpanelaw02.WidePowers", spec := "widePowers", inPlace := ["math/bits.Add64"], named := ["math/bits.divideError", "math/bits.overflowError"], apart := false, narrowed := true }
def WidePowersUptoSaid : Prop := widePowersUptoRow.holds Try.pinned (OpenSpec.upto widePowersSpec)

/-- 'windowpanelaw02.WideDivides', WHERE WHAT IT READS IS OF BULK AT MOST 1048576: true; the input reads as it did. -/
def wideDividesUptoRow : OpenClaim := { program := "ytkhgibpginbdcaa", sum := "51db31d6efb038c59ba5ab2033c0c81cdcf8edf29a626100227a85f7df7e8415", func := "windowpane/windowpanelaw02.WideDivides", spec := "wideDivides", inPlace := ["math/bits.Add64", "math/bits.Sub64"], named := ["math/bits.divideError", "math/bits.overflowError"], apart := false, narrowed := true }
def WideDividesUptoSaid : Prop := wideDividesUptoRow.holds Try.pinned (OpenSpec.upto wideDividesSpec)

/-- 'windowpanelaw02.WideRemains', WHERE WHAT IT READS IS OF BULK AT MOST 1048576: true; the input reads as it did. -/
def wideRemainsUptoRow : OpenClaim := { program := "ytkhgibpginbdcaa", sum := "51db31d6efb038c59ba5ab2033c0c81cdcf8edf29a626100227a85f7df7e8415", func := "windowpane/windowpanelaw02.WideRemains", spec := "wideRemains", inPlace := ["math/bits.Add64", "math/bits.Sub64"], named := ["math/bits.divideError", "math/bits.overflowError"], apart := false, narrowed := true }
def WideRemainsUptoSaid : Prop := wideRemainsUptoRow.holds Try.pinned (OpenSpec.upto wideRemainsSpec)

/-- 'windowpanelaw02.WideCompares', WHERE WHAT IT READS IS OF BULK AT MOST 1048576: true; the input reads as it did. -/
def wideComparesUptoRow : OpenClaim := { program := "ytkhgibpginbdcaa", sum := "51db31d6efb038c59ba5ab2033c0c81cdcf8edf29a626100227a85f7df7e8415", func := "windowpane/windowpanelaw02.WideCompares", spec := "wideCompares", named := ["math/bits.divideError", "math/bits.overflowError"], apart := false, narrowed := true }
def WideComparesUptoSaid : Prop := wideComparesUptoRow.holds Try.pinned (OpenSpec.upto wideComparesSpec)

/-- 'windowpanelaw02.WideGcds', WHERE WHAT IT READS IS OF BULK AT MOST 1048576: true; the input reads as it did. -/
def wideGcdsUptoRow : OpenClaim := { program := "ytkhgibpginbdcaa", sum := "51db31d6efb038c59ba5ab2033c0c81cdcf8edf29a626100227a85f7df7e8415", func := "windowpane/windowpanelaw02.WideGcds", spec := "wideGcds", inPlace := ["math/bits.Add64", "math/bits.Sub64"], named := ["math/bits.divideError", "math/bits.overflowError"], apart := false, narrowed := true }
def WideGcdsUptoSaid : Prop := wideGcdsUptoRow.holds Try.pinned (OpenSpec.upto wideGcdsSpec)

/-- 'windowpanelaw02.WideWrites', WHERE WHAT IT READS IS OF BULK AT MOST 1048576: true; the input reads as it did. -/
def wideWritesUptoRow : OpenClaim := { program := "ytkhgibpginbdcaa", sum := "51db31d6efb038c59ba5ab2033c0c81cdcf8edf29a626100227a85f7df7e8415", func := "windowpane/windowpanelaw02.WideWrites", spec := "wideWrites", inPlace := ["math/bits.Add64", "math/bits.Sub64"], named := ["math/bits.divideError", "math/bits.overflowError"], apart := false, narrowed := true }
def WideWritesUptoSaid : Prop := wideWritesUptoRow.holds Try.pinned (OpenSpec.upto wideWritesSpec)

/-- 'windowpanelaw02.WideReads', WHERE WHAT IT READS IS OF BULK AT MOST 1048576: true; the input reads as it did. -/
def wideReadsUptoRow : OpenClaim := { program := "ytkhgibpginbdcaa", sum := "51db31d6efb038c59ba5ab2033c0c81cdcf8edf29a626100227a85f7df7e8415", func := "windowpane/windowpanelaw02.WideReads", spec := "wideReads", inPlace := ["math/bits.Add64"], named := ["math/bits.divideError", "math/bits.overflowError"], apart := false, narrowed := true }
def WideReadsUptoSaid : Prop := wideReadsUptoRow.holds Try.pinned (OpenSpec.upto wideReadsSpec)

/-- 'windowpanelaw02.WideCrosses', WHERE WHAT IT READS IS OF BULK AT MOST 1048576: true; the input reads as it did. -/
def wideCrossesUptoRow : OpenClaim := { program := "ytkhgibpginbdcaa", sum := "51db31d6efb038c59ba5ab2033c0c81cdcf8edf29a626100227a85f7df7e8415", func := "windowpane/windowpanelaw02.WideCrosses", spec := "wideCrosses", named := ["math/bits.divideError", "math/bits.overflowError"], apart := false, narrowed := true }
def WideCrossesUptoSaid : Prop := wideCrossesUptoRow.holds Try.pinned (OpenSpec.upto wideCrossesSpec)

end Rows
end Go.Proofs.Ytkhgibpginbdcaa
