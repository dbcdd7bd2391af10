/-
  No cell of these rows narrows 'for every input' (looked for: loops, veiled, ifaces, maps, wideKeys, modest, calm, conditions, laid).
  DERIVED. THE GIVEN ROWS OF THIS SEAT. 7 by the template 'for every input the law returns true; each argument reads behind the call as it read before'; 0 by the template 'total and deterministic' (their statements: YtjedcpfipebncaaTotals.lean).
  GIVEN WITH THE SEED: the statements are not yours to turn. If you find one false, say at which input.
  Laid BY PROGRAM, IN A SANDBOX (cutbox-rows.mjs): the forced cells as the released guide's own fill.sh prints them over the translation 533ae633646dffce… (all of the seat's roots in one cut). By AI agents, Wed Nov 11 2026. No macro, syntax, notation, axiom, sorry.
-/
import Derived.Test.YtjedcpfipebncaaChecked
import GoSem.Claim
import GoSem.ClaimJoined
import GoSem.ClaimMapViews
import Derived.JoinedTies
import Derived.KernelRfl
namespace Go.Proofs.Ytjedcpfipebncaa
/- THE CELL 'sum', in the pinned program and in every row, IS THE sha256 OF THE DUMP (.gsa) THAT YtjedcpfipebncaaProg.lean LOADS. Nothing in Lean hashes anything: it is a label: what it is worth is what the hold of that sum in a sandbox is worth. -/
noncomputable def Try.pinned : Pinned := { name := "ytjedcpfipebncaa", sum := "533ae633646dffce407bcbe2116be046a20a8ca90998137e22f40313a84032d1", checked := Try.checked }
namespace Rows
def none {H : Type} : Left H := { results := [], args := [] }

/-- 'windowpanelaw05.RingNew': WHATEVER THE INPUT: true; the input reads as it did. -/
def ringNewSpec : ChangeSpec := { name := "ringNew", fn := fun _ => fun
  | [d] => { results := [.lit (.bool true)], args := [d] }
  | _ => none }
def ringNewRow : OpenClaim := { program := "ytjedcpfipebncaa", sum := "533ae633646dffce407bcbe2116be046a20a8ca90998137e22f40313a84032d1", func := "windowpane/windowpanelaw05.RingNew", spec := "ringNew", apart := false }
def RingNewSaid : Prop := ringNewRow.holds Try.pinned (OpenSpec.ofChange ringNewSpec)

/-- ITS FALSE NEIGHBOUR: 'it returns false'. Refute it at one input. -/
def ringNewWrong : ChangeSpec := { name := "ringNew", fn := fun _ => fun
  | [d] => { results := [.lit (.bool false)], args := [d] }
  | _ => none }
def RingNewWrongFalsely : Prop := ringNewRow.holds Try.pinned (OpenSpec.ofChange ringNewWrong)

/-- 'windowpanelaw05.RingValidate': WHATEVER THE INPUT: true; the input reads as it did. -/
def ringValidateSpec : ChangeSpec := { name := "ringValidate", fn := fun _ => fun
  | [d1, d2] => { results := [.lit (.bool true)], args := [d1, d2] }
  | _ => none }
def ringValidateRow : OpenClaim := { program := "ytjedcpfipebncaa", sum := "533ae633646dffce407bcbe2116be046a20a8ca90998137e22f40313a84032d1", func := "windowpane/windowpanelaw05.RingValidate", spec := "ringValidate", apart := false }
def RingValidateSaid : Prop := ringValidateRow.holds Try.pinned (OpenSpec.ofChange ringValidateSpec)

/-- ITS FALSE NEIGHBOUR: 'it returns false'. Refute it at one input. -/
def ringValidateWrong : ChangeSpec := { name := "ringValidate", fn := fun _ => fun
  | [d1, d2] => { results := [.lit (.bool false)], args := [d1, d2] }
  | _ => none }
def RingValidateWrongFalsely : Prop := ringValidateRow.holds Try.pinned (OpenSpec.ofChange ringValidateWrong)

/-- 'windowpanelaw05.RingPushes': WHATEVER THE INPUT: true; the input reads as it did. -/
def ringPushesSpec : ChangeSpec := { name := "ringPushes", fn := fun _ => fun
  | [d1, d2] => { results := [.lit (.bool true)], args := [d1, d2] }
  | _ => none }
def ringPushesRow : OpenClaim := { program := "ytjedcpfipebncaa", sum := "533ae633646dffce407bcbe2116be046a20a8ca90998137e22f40313a84032d1", func := "windowpane/windowpanelaw05.RingPushes", spec := "ringPushes", apart := false }
def RingPushesSaid : Prop := ringPushesRow.holds Try.pinned (OpenSpec.ofChange ringPushesSpec)

/-- ITS FALSE NEIGHBOUR: 'it returns false'. Refute it at one input. -/
def ringPushesWrong : ChangeSpec := { name := "ringPushes", fn := fun _ => fun
  | [d1, d2] => { results := [.lit (.bool false)], args := [d1, d2] }
  | _ => none }
def RingPushesWrongFalsely : Prop := ringPushesRow.holds Try.pinned (OpenSpec.ofChange ringPushesWrong)

/-- 'windowpanelaw05.RingPops': WHATEVER THE INPUT: true; the input reads as it did. -/
def ringPopsSpec : ChangeSpec := { name := "ringPops", fn := fun _ => fun
  | [d] => { results := [.lit (.bool true)], args := [d] }
  | _ => none }
def ringPopsRow : OpenClaim := { program := "ytjedcpfipebncaa", sum := "533ae633646dffce407bcbe2116be046a20a8ca90998137e22f40313a84032d1", func := "windowpane/windowpanelaw05.RingPops", spec := "ringPops", apart := false }
def RingPopsSaid : Prop := ringPopsRow.holds Try.pinned (OpenSpec.ofChange ringPopsSpec)

/-- ITS FALSE NEIGHBOUR: 'it returns false'. Refute it at one input. -/
def ringPopsWrong : ChangeSpec := { name := "ringPops", fn := fun _ => fun
  | [d] => { results := [.lit (.bool false)], args := [d] }
  | _ => none }
def RingPopsWrongFalsely : Prop := ringPopsRow.holds Try.pinned (OpenSpec.ofChange ringPopsWrong)

/-- 'windowpanelaw05.RingRotates': WHATEVER THE INPUT: true; the input reads as it did. -/
def ringRotatesSpec : ChangeSpec := { name := "ringRotates", fn := fun _ => fun
  | [d1, d2] => { results := [.lit (.bool true)], args := [d1, d2] }
  | _ => none }
def ringRotatesRow : OpenClaim := { program := "ytjedcpfipebncaa", sum := "533ae633646dffce407bcbe2116be046a20a8ca90998137e22f40313a84032d1", func := "windowpane/windowpanelaw05.RingRotates", spec := "ringRotates", apart := false }
def RingRotatesSaid : Prop := ringRotatesRow.holds Try.pinned (OpenSpec.ofChange ringRotatesSpec)

/-- ITS FALSE NEIGHBOUR: 'it returns false'. Refute it at one input. -/
def ringRotatesWrong : ChangeSpec := { name := "ringRotates", fn := fun _ => fun
  | [d1, d2] => { results := [.lit (.bool false)], args := [d1, d2] }
  | _ => none }
def RingRotatesWrongFalsely : Prop := ringRotatesRow.holds Try.pinned (OpenSpec.ofChange ringRotatesWrong)

/-- 'windowpanelaw05.RingGrows': WHATEVER THE INPUT: true; the input reads as it did. -/
def ringGrowsSpec : ChangeSpec := { name := "ringGrows", fn := fun _ => fun
  | [d1, d2] => { results := [.lit (.bool true)], args := [d1, d2] }
  | _ => none }
def ringGrowsRow : OpenClaim := { program := "ytjedcpfipebncaa", sum := "533ae633646dffce407bcbe2116be046a20a8ca90998137e22f40313a84032d1", func := "windowpane/windowpanelaw05.RingGrows", spec := "ringGrows", apart := false }
def RingGrowsSaid : Prop := ringGrowsRow.holds Try.pinned (OpenSpec.ofChange ringGrowsSpec)

/-- ITS FALSE NEIGHBOUR: 'it returns false'. Refute it at one input. -/
def ringGrowsWrong : ChangeSpec := { name := "ringGrows", fn := fun _ => fun
  | [d1, d2] => { results := [.lit (.bool false)], args := [d1, d2] }
  | _ => none }
def RingGrowsWrongFalsely : Prop := ringGrowsRow.holds Try.pinned (OpenSpec.ofChange ringGrowsWrong)

/-- 'windowpanelaw05.RingQueue': WHATEVER THE INPUT: true; the input reads as it did. -/
def ringQueueSpec : ChangeSpec := { name := "ringQueue", fn := fun _ => fun
  | [d1, d2] => { results := [.lit (.bool true)], args := [d1, d2] }
  | _ => none }
def ringQueueRow : OpenClaim := { program := "ytjedcpfipebncaa", sum := "533ae633646dffce407bcbe2116be046a20a8ca90998137e22f40313a84032d1", func := "windowpane/windowpanelaw05.RingQueue", spec := "ringQueue", apart := false }
def RingQueueSaid : Prop := ringQueueRow.holds Try.pinned (OpenSpec.ofChange ringQueueSpec)

/-- ITS FALSE NEIGHBOUR: 'it returns false'. Refute it at one input. -/
def ringQueueWrong : ChangeSpec := { name := "ringQueue", fn := fun _ => fun
  | [d1, d2] => { results := [.lit (.bool false)], args := [d1, d2] }
  | _ => none }
def RingQueueWrongFalsely : Prop := ringQueueRow.holds Try.pinned (OpenSpec.ofChange ringQueueWrong)

/- THE SECOND FORM. 'bulk': how many values and letters a reading holds, each counted each time it is reached (what is shared counts as often as it is met; a slice's spare places count too). A statement '..UptoSaid' is the law's where the arguments, and the package variables that the reading takes, are together of bulk at most 1048576: NARROWER than '..Said'. Prove '..Said' where nothing that the law and all that it calls make is longer than what came in: it says more and counts as full. Else prove '..UptoSaid'. A law counts once. -/
mutual
def uptoBulk {H : Type} : DataW H → Nat
  | .lit (.string bytes) => bytes.length + 1
  | .lit _ => 1
  | .nil => 1
  | .ptr d => uptoBulk d + 1
  | .slice elems spare => uptoBulkAll elems + uptoBulkAll spare + 1
  | .agg parts => uptoBulkAll parts + 1
  | .iface _ d => uptoBulk d + 1
  | .map entries => uptoBulkEntries entries + 1
  | .held _ => 1
def uptoBulkAll {H : Type} : List (DataW H) → Nat
  | [] => 0
  | d :: r => uptoBulk d + uptoBulkAll r
def uptoBulkEntries {H : Type} : List (Lit × DataW H) → Nat
  | [] => 0
  | x :: r => uptoBulkEntry x + uptoBulkEntries r
def uptoBulkEntry {H : Type} : Lit × DataW H → Nat
  | (.string bytes, d) => bytes.length + uptoBulk d + 1
  | (_, d) => uptoBulk d + 1
 end
def uptoSmall : (H : Type) → List (DataW H) → Bool := fun _ ds => decide (uptoBulkAll ds ≤ 1048576)
def OpenSpec.upto (s : _root_.Go.ChangeSpec) : _root_.Go.OpenSpec := { _root_.Go.OpenSpec.ofChange s with cond := some uptoSmall }

/-- 'windowpanelaw05.RingNew', WHERE WHAT IT READS IS OF BULK AT MOST 1048576: true; the input reads as it did. -/
def ringNewUptoRow : OpenClaim := { program := "ytjedcpfipebncaa", sum := "533ae633646dffce407bcbe2116be046a20a8ca90998137e22f40313a84032d1", func := "windowpane/windowpanelaw05.RingNew", spec := "ringNew", apart := false, narrowed := true }
def RingNewUptoSaid : Prop := ringNewUptoRow.holds Try.pinned (OpenSpec.upto ringNewSpec)

/-- 'windowpanelaw05.RingValidate', WHERE WHAT IT READS IS OF BULK AT MOST 1048576: true; the input reads as it did. -/
def ringValidateUptoRow : OpenClaim := { program := "ytjedcpfipebncaa", sum := "533ae633646dffce407bcbe2116be046a20a8ca90998137e22f40313a84032d1", func := "windowpane/windowpanelaw05.RingValidate", spec := "ringValidate", apart := false, narrowed := true }
def RingValidateUptoSaid : Prop := ringValidateUptoRow.holds Try.pinned (OpenSpec.upto ringValidateSpec)

/-- 'windowpanelaw05.RingPushes', WHERE WHAT IT READS IS OF BULK AT MOST 1048576: true; the input reads as it did. -/
def ringPushesUptoRow : OpenClaim := { program := "ytjedcpfipebncaa", sum := "533ae633646dffce407bcbe2116be046a20a8ca90998137e22f40313a84032d1", func := "windowpane/windowpanelaw05.RingPushes", spec := "ringPushes", apart := false, narrowed := true }
def RingPushesUptoSaid : Prop := ringPushesUptoRow.holds Try.pinned (OpenSpec.upto ringPushesSpec)

/-- 'windowpanelaw05.RingPops', WHERE WHAT IT READS IS OF BULK AT MOST 1048576: true; the input reads as it did. -/
def ringPopsUptoRow : OpenClaim := { program := "ytjedcpfipebncaa", sum := "533ae633646dffce407bcbe2116be046a20a8ca90998137e22f40313a84032d1", func := "windowpane/windowpanelaw05.RingPops", spec := "ringPops", apart := false, narrowed := true }
def RingPopsUptoSaid : Prop := ringPopsUptoRow.holds Try.pinned (OpenSpec.upto ringPopsSpec)

/-- 'windowpanelaw05.RingRotates', WHERE WHAT IT READS IS OF BULK AT MOST 1048576: true; the input reads as it did. -/
def ringRotatesUptoRow : OpenClaim := { program := "ytjedcpfipebncaa", sum := "533ae633646dffce407bcbe2116be046a20a8ca90998137e22f40313a84032d1", func := "windowpane/windowpanelaw05.RingRotates", spec := "ringRotates", apart := false, narrowed := true }
def RingRotatesUptoSaid : Prop := ringRotatesUptoRow.holds Try.pinned (OpenSpec.upto ringRotatesSpec)

/-- 'windowpanelaw05.RingGrows', WHERE WHAT IT READS IS OF BULK AT MOST 1048576: true; the input reads as it did. -/
def ringGrowsUptoRow : OpenClaim := { program := "ytjedcpfipebncaa", sum := "533ae633646dffce407bcbe2116be046a20a8ca90998137e22f40313a84032d1", func := "windowpane/windowpanelaw05.RingGrows", spec := "ringGrows", apart := false, narrowed := true }
def RingGrowsUptoSaid : Prop := ringGrowsUptoRow.holds Try.pinned (OpenSpec.upto ringGrowsSpec)

/-- 'windowpanelaw05.RingQueue', WHERE WHAT IT READS IS OF BULK AT MOST 1048576: true; the input reads as it did. -/
def ringQueueUptoRow : OpenClaim := { program := "ytjedcpfipebncaa", sum := "533ae633646dffce407bcbe2116be046a20a8ca90998137e22f40313a84032d1", func := "windowpane/windowpanelaw05.RingQueue", spec := "ringQueue", apart := false, narrowed := true }
def RingQueueUptoSaid : Prop := ringQueueUptoRow.holds Try.pinned (OpenSpec.upto ringQueueSpec)

end Rows
end Go.Proofs.Ytjedcpfipebncaa
