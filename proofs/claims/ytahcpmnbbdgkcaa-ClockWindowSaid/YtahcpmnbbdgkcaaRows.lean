/-
  No cell of these rows narrows 'for every input' (looked for: loops, veiled, ifaces, maps, wideKeys, modest, calm, conditions, laid).
  DERIVED. THE GIVEN ROWS OF THIS SEAT. 5 by the template 'for every input the law returns true; each argument reads behind the call as it read before'; 0 by the template 'total and deterministic' (their statements: YtahcpmnbbdgkcaaTotals.lean).
  GIVEN WITH THE SEED: the statements are not yours to turn. If you find one false, say at which input.
  Laid BY PROGRAM, IN A SANDBOX (cutbox-rows.mjs): the forced cells as the released guide's own fill.sh prints them over the translation e28a7faab1b05e38… (all of the seat's roots in one cut). By AI agents, Wed Nov 11 2026. No macro, syntax, notation, axiom, sorry.
-/
import Derived.Test.YtahcpmnbbdgkcaaChecked
import GoSem.Claim
import GoSem.ClaimJoined
import GoSem.ClaimMapViews
import Derived.JoinedTies
import Derived.KernelRfl
namespace Go.Proofs.Ytahcpmnbbdgkcaa
/- THE CELL 'sum', in the pinned program and in every row, IS THE sha256 OF THE DUMP (.gsa) THAT YtahcpmnbbdgkcaaProg.lean LOADS. Nothing in Lean hashes anything: it is a label: what it is worth is what the hold of that sum in a sandbox is worth. -/
noncomputable def Try.pinned : Pinned := { name := "ytahcpmnbbdgkcaa", sum := "e28a7faab1b05e386b43811f03a2c08bfacdc02a928b22810c3971fd6fc98d52", checked := Try.checked }
namespace Rows
def none {H : Type} : Left H := { results := [], args := [] }

/-- 'windowpanelaw06.ClockAdvances': WHATEVER THE INPUT: true; the input reads as it did. -/
def clockAdvancesSpec : ChangeSpec := { name := "clockAdvances", fn := fun _ => fun
  | [d1, d2] => { results := [.lit (.bool true)], args := [d1, d2] }
  | _ => none }
def clockAdvancesRow : OpenClaim := { program := "ytahcpmnbbdgkcaa", sum := "e28a7faab1b05e386b43811f03a2c08bfacdc02a928b22810c3971fd6fc98d52", func := "windowpane/windowpanelaw06.ClockAdvances", spec := "clockAdvances", apart := false }
def ClockAdvancesSaid : Prop := clockAdvancesRow.holds Try.pinned (OpenSpec.ofChange clockAdvancesSpec)

/-- ITS FALSE NEIGHBOUR: 'it returns false'. Refute it at one input. -/
def clockAdvancesWrong : ChangeSpec := { name := "clockAdvances", fn := fun _ => fun
  | [d1, d2] => { results := [.lit (.bool false)], args := [d1, d2] }
  | _ => none }
def ClockAdvancesWrongFalsely : Prop := clockAdvancesRow.holds Try.pinned (OpenSpec.ofChange clockAdvancesWrong)

/-- 'windowpanelaw06.ClockLive': WHATEVER THE INPUT: true; the input reads as it did. -/
def clockLiveSpec : ChangeSpec := { name := "clockLive", fn := fun _ => fun
  | [d1, d2, d3] => { results := [.lit (.bool true)], args := [d1, d2, d3] }
  | _ => none }
def clockLiveRow : OpenClaim := { program := "ytahcpmnbbdgkcaa", sum := "e28a7faab1b05e386b43811f03a2c08bfacdc02a928b22810c3971fd6fc98d52", func := "windowpane/windowpanelaw06.ClockLive", spec := "clockLive", apart := false }
def ClockLiveSaid : Prop := clockLiveRow.holds Try.pinned (OpenSpec.ofChange clockLiveSpec)

/-- ITS FALSE NEIGHBOUR: 'it returns false'. Refute it at one input. -/
def clockLiveWrong : ChangeSpec := { name := "clockLive", fn := fun _ => fun
  | [d1, d2, d3] => { results := [.lit (.bool false)], args := [d1, d2, d3] }
  | _ => none }
def ClockLiveWrongFalsely : Prop := clockLiveRow.holds Try.pinned (OpenSpec.ofChange clockLiveWrong)

/-- 'windowpanelaw06.ClockWindow': WHATEVER THE INPUT: true; the input reads as it did. -/
def clockWindowSpec : ChangeSpec := { name := "clockWindow", fn := fun _ => fun
  | [d1, d2, d3, d4] => { results := [.lit (.bool true)], args := [d1, d2, d3, d4] }
  | _ => none }
def clockWindowRow : OpenClaim := { program := "ytahcpmnbbdgkcaa", sum := "e28a7faab1b05e386b43811f03a2c08bfacdc02a928b22810c3971fd6fc98d52", func := "windowpane/windowpanelaw06.ClockWindow", spec := "clockWindow", apart := false }
def ClockWindowSaid : Prop := clockWindowRow.holds Try.pinned (OpenSpec.ofChange clockWindowSpec)

/-- ITS FALSE NEIGHBOUR: 'it returns false'. Refute it at one input. -/
def clockWindowWrong : ChangeSpec := { name := "clockWindow", fn := fun _ => fun
  | [d1, d2, d3, d4] => { results := [.lit (.bool false)], args := [d1, d2, d3, d4] }
  | _ => none }
def ClockWindowWrongFalsely : Prop := clockWindowRow.holds Try.pinned (OpenSpec.ofChange clockWindowWrong)

/-- 'windowpanelaw06.ClockExpired': WHATEVER THE INPUT: true; the input reads as it did. -/
def clockExpiredSpec : ChangeSpec := { name := "clockExpired", fn := fun _ => fun
  | [d1, d2, d3] => { results := [.lit (.bool true)], args := [d1, d2, d3] }
  | _ => none }
def clockExpiredRow : OpenClaim := { program := "ytahcpmnbbdgkcaa", sum := "e28a7faab1b05e386b43811f03a2c08bfacdc02a928b22810c3971fd6fc98d52", func := "windowpane/windowpanelaw06.ClockExpired", spec := "clockExpired", unfollowed := true, recurses := true, apart := false }
def ClockExpiredSaid : Prop := clockExpiredRow.holds Try.pinned (OpenSpec.ofChange clockExpiredSpec)

/-- ITS FALSE NEIGHBOUR: 'it returns false'. Refute it at one input. -/
def clockExpiredWrong : ChangeSpec := { name := "clockExpired", fn := fun _ => fun
  | [d1, d2, d3] => { results := [.lit (.bool false)], args := [d1, d2, d3] }
  | _ => none }
def ClockExpiredWrongFalsely : Prop := clockExpiredRow.holds Try.pinned (OpenSpec.ofChange clockExpiredWrong)

/-- 'windowpanelaw06.ClockLater': WHATEVER THE INPUT: true; the input reads as it did. -/
def clockLaterSpec : ChangeSpec := { name := "clockLater", fn := fun _ => fun
  | [d1, d2, d3, d4] => { results := [.lit (.bool true)], args := [d1, d2, d3, d4] }
  | _ => none }
def clockLaterRow : OpenClaim := { program := "ytahcpmnbbdgkcaa", sum := "e28a7faab1b05e386b43811f03a2c08bfacdc02a928b22810c3971fd6fc98d52", func := "windowpane/windowpanelaw06.ClockLater", spec := "clockLater", unfollowed := true, recurses := true, apart := false }
def ClockLaterSaid : Prop := clockLaterRow.holds Try.pinned (OpenSpec.ofChange clockLaterSpec)

/-- ITS FALSE NEIGHBOUR: 'it returns false'. Refute it at one input. -/
def clockLaterWrong : ChangeSpec := { name := "clockLater", fn := fun _ => fun
  | [d1, d2, d3, d4] => { results := [.lit (.bool false)], args := [d1, d2, d3, d4] }
  | _ => none }
def ClockLaterWrongFalsely : Prop := clockLaterRow.holds Try.pinned (OpenSpec.ofChange clockLaterWrong)

/- THE SECOND FORM. 'bulk': how many values and letters a reading holds, each counted each time it is reached (what is shared counts as often as it is met; a slice's spare places count too). A statement '..UptoSaid' is the law's where the arguments, and the package variables that the reading takes, are together of bulk at most 1048576: NARROWER than '..Said'. Prove '..Said' where nothing that the law and all that it calls make is longer than what came in: it says more and counts as full. Else prove '..UptoSaid'. A law counts once. -/
mutual
def uptoBulk {H : Type} : DataW H → Nat
  | .lit (.string bytes) => bytes.length + 1
  | .lit _ => 1
  | .nil => 1
  | .ptr d => uptoBulk d + 1
  | .slice elems spare => uptoBulkAll elems + uptoBulkAll spare + 1
  | .agg parts => uptoBulkAll parts + 1
  | .iface _ d => uptoBulk d + 1
  | .map entries => uptoBulkEntries entries + 1
  | .held _ => 1
def uptoBulkAll {H : Type} : List (DataW H) → Nat
  | [] => 0
  | d :: r => uptoBulk d + uptoBulkAll r
def uptoBulkEntries {H : Type} : List (Lit × DataW H) → Nat
  | [] => 0
  | x :: r => uptoBulkEntry x + uptoBulkEntries r
def uptoBulkEntry {H : Type} : Lit × DataW H → Nat
  | (.string bytes, d) => bytes.length + uptoBulk d + 1
  | (_, d) => uptoBulk d + 1
 end
def uptoSmall : (H : Type) → List (DataW H) → Bool := fun _ ds => decide (uptoBulkAll ds ≤ 1048576)
def OpenSpec.upto (s : _root_.Go.ChangeSpec) : _root_.Go.OpenSpec := { _root_.Go.OpenSpec.ofChange s with cond := some uptoSmall }

/-- 'windowpanelaw06.ClockAdvances', WHERE WHAT IT READS IS OF BULK AT MOST 1048576: true; the input reads as it did. -/
def clockAdvancesUptoRow : OpenClaim := { program := "ytahcpmnbbdgkcaa", sum := "e28a7faab1b05e386b43811f03a2c08bfacdc02a928b22810c3971fd6fc98d52", func := "windowpane/windowpanelaw06.ClockAdvances", spec := "clockAdvances", apart := false, narrowed := true }
def ClockAdvancesUptoSaid : Prop := clockAdvancesUptoRow.holds Try.pinned (OpenSpec.upto clockAdvancesSpec)

/-- 'windowpanelaw06.ClockLive', WHERE WHAT IT READS IS OF BULK AT MOST 1048576: true; the input reads as it did. -/
def clockLiveUptoRow : OpenClaim := { program := "ytahcpmnbbdgkcaa", sum := "e28a7faab1b05e386b43811f03a2c08bfacdc02a928b22810c3971fd6fc98d52", func := "windowpane/windowpanelaw06.ClockLive", spec := "clockLive", apart := false, narrowed := true }
def ClockLiveUptoSaid : Prop := clockLiveUptoRow.holds Try.pinned (OpenSpec.upto clockLiveSpec)

/-- 'windowpanelaw06.ClockWindow', WHERE WHAT IT READS IS OF BULK AT MOST 1048576: true; the input reads as it did. -/
def clockWindowUptoRow : OpenClaim := { program := "ytahcpmnbbdgkcaa", sum := "e28a7faab1b05e386b43811f03a2c08bfacdc02a928b22810c3971fd6fc98d52", func := "windowpane/windowpanelaw06.ClockWindow", spec := "clockWindow", apart := false, narrowed := true }
def ClockWindowUptoSaid : Prop := clockWindowUptoRow.holds Try.pinned (OpenSpec.upto clockWindowSpec)

/-- 'windowpanelaw06.ClockExpired', WHERE WHAT IT READS IS OF BULK AT MOST 1048576: true; the input reads as it did. -/
def clockExpiredUptoRow : OpenClaim := { program := "ytahcpmnbbdgkcaa", sum := "e28a7faab1b05e386b43811f03a2c08bfacdc02a928b22810c3971fd6fc98d52", func := "windowpane/windowpanelaw06.ClockExpired", spec := "clockExpired", unfollowed := true, recurses := true, apart := false, narrowed := true }
def ClockExpiredUptoSaid : Prop := clockExpiredUptoRow.holds Try.pinned (OpenSpec.upto clockExpiredSpec)

/-- 'windowpanelaw06.ClockLater', WHERE WHAT IT READS IS OF BULK AT MOST 1048576: true; the input reads as it did. -/
def clockLaterUptoRow : OpenClaim := { program := "ytahcpmnbbdgkcaa", sum := "e28a7faab1b05e386b43811f03a2c08bfacdc02a928b22810c3971fd6fc98d52", func := "windowpane/windowpanelaw06.ClockLater", spec := "clockLater", unfollowed := true, recurses := true, apart := false, narrowed := true }
def ClockLaterUptoSaid : Prop := clockLaterUptoRow.holds Try.pinned (OpenSpec.upto clockLaterSpec)

end Rows
end Go.Proofs.Ytahcpmnbbdgkcaa
