/-
  No cell of these rows narrows 'for every input' (looked for: loops, veiled, ifaces, maps, wideKeys, modest, calm, conditions, laid).
  DERIVED. THE GIVEN ROWS OF THIS SEAT. 8 by the template 'for every input the law returns true; each argument reads behind the call as it read before'; 0 by the template 'total and deterministic' (their statements: YtjmfliljiffekaaTotals.lean).
  GIVEN WITH THE SEED: the statements are not yours to turn. If you find one false, say at which input.
  Laid BY PROGRAM, IN A SANDBOX (cutbox-rows.mjs): the forced cells as the released guide's own fill.sh prints them over the translation 97f24b5f1b3f6cb0… (all of the seat's roots in one cut). By AI agents, Wed Nov 11 2026. No macro, syntax, notation, axiom, sorry.
-/
import Derived.Test.YtjmfliljiffekaaChecked
import GoSem.Claim
import GoSem.ClaimJoined
import GoSem.ClaimMapViews
import Derived.JoinedTies
import Derived.KernelRfl
namespace Go.Proofs.Ytjmfliljiffekaa
/- THE CELL 'sum', in the pinned program and in every row, IS THE sha256 OF THE DUMP (.gsa) THAT YtjmfliljiffekaaProg.lean LOADS. Nothing in Lean hashes anything: it is a label: what it is worth is what the hold of that sum in a sandbox is worth. -/
noncomputable def Try.pinned : Pinned := { name := "ytjmfliljiffekaa", sum := "97f24b5f1b3f6cb08b1ee19ca25d1e0a81eadd6b5bca1945983429aff3e84b3c", checked := Try.checked }
namespace Rows
def none {H : Type} : Left H := { results := [], args := [] }

/-- 'windowpanelaw08.ExactLive': WHATEVER THE INPUT: true; the input reads as it did. -/
def exactLiveSpec : ChangeSpec := { name := "exactLive", fn := fun _ => fun
  | [d1, d2, d3] => { results := [.lit (.bool true)], args := [d1, d2, d3] }
  | _ => none }
def exactLiveRow : OpenClaim := { program := "ytjmfliljiffekaa", sum := "97f24b5f1b3f6cb08b1ee19ca25d1e0a81eadd6b5bca1945983429aff3e84b3c", func := "windowpane/windowpanelaw08.ExactLive", spec := "exactLive", inPlace := ["math/bits.Add64"], apart := false }
def ExactLiveSaid : Prop := exactLiveRow.holds Try.pinned (OpenSpec.ofChange exactLiveSpec)

/-- ITS FALSE NEIGHBOUR: 'it returns false'. Refute it at one input. -/
def exactLiveWrong : ChangeSpec := { name := "exactLive", fn := fun _ => fun
  | [d1, d2, d3] => { results := [.lit (.bool false)], args := [d1, d2, d3] }
  | _ => none }
def ExactLiveWrongFalsely : Prop := exactLiveRow.holds Try.pinned (OpenSpec.ofChange exactLiveWrong)

/-- 'windowpanelaw08.ExactSums': WHATEVER THE INPUT: true; the input reads as it did. -/
def exactSumsSpec : ChangeSpec := { name := "exactSums", fn := fun _ => fun
  | [d] => { results := [.lit (.bool true)], args := [d] }
  | _ => none }
def exactSumsRow : OpenClaim := { program := "ytjmfliljiffekaa", sum := "97f24b5f1b3f6cb08b1ee19ca25d1e0a81eadd6b5bca1945983429aff3e84b3c", func := "windowpane/windowpanelaw08.ExactSums", spec := "exactSums", inPlace := ["math/bits.Add64", "math/bits.Sub64"], apart := false }
def ExactSumsSaid : Prop := exactSumsRow.holds Try.pinned (OpenSpec.ofChange exactSumsSpec)

/-- ITS FALSE NEIGHBOUR: 'it returns false'. Refute it at one input. -/
def exactSumsWrong : ChangeSpec := { name := "exactSums", fn := fun _ => fun
  | [d] => { results := [.lit (.bool false)], args := [d] }
  | _ => none }
def ExactSumsWrongFalsely : Prop := exactSumsRow.holds Try.pinned (OpenSpec.ofChange exactSumsWrong)

/-- 'windowpanelaw08.ExactExtremes': WHATEVER THE INPUT: true; the input reads as it did. -/
def exactExtremesSpec : ChangeSpec := { name := "exactExtremes", fn := fun _ => fun
  | [d] => { results := [.lit (.bool true)], args := [d] }
  | _ => none }
def exactExtremesRow : OpenClaim := { program := "ytjmfliljiffekaa", sum := "97f24b5f1b3f6cb08b1ee19ca25d1e0a81eadd6b5bca1945983429aff3e84b3c", func := "windowpane/windowpanelaw08.ExactExtremes", spec := "exactExtremes", inPlace := ["math/bits.Add64"], apart := false }
def ExactExtremesSaid : Prop := exactExtremesRow.holds Try.pinned (OpenSpec.ofChange exactExtremesSpec)

/-- ITS FALSE NEIGHBOUR: 'it returns false'. Refute it at one input. -/
def exactExtremesWrong : ChangeSpec := { name := "exactExtremes", fn := fun _ => fun
  | [d] => { results := [.lit (.bool false)], args := [d] }
  | _ => none }
def ExactExtremesWrongFalsely : Prop := exactExtremesRow.holds Try.pinned (OpenSpec.ofChange exactExtremesWrong)

/-- 'windowpanelaw08.ExactSpreads': WHATEVER THE INPUT: true; the input reads as it did. -/
def exactSpreadsSpec : ChangeSpec := { name := "exactSpreads", fn := fun _ => fun
  | [d] => { results := [.lit (.bool true)], args := [d] }
  | _ => none }
def exactSpreadsRow : OpenClaim := { program := "ytjmfliljiffekaa", sum := "97f24b5f1b3f6cb08b1ee19ca25d1e0a81eadd6b5bca1945983429aff3e84b3c", func := "windowpane/windowpanelaw08.ExactSpreads", spec := "exactSpreads", inPlace := ["math/bits.Add64", "math/bits.Sub64"], named := ["math/bits.divideError", "math/bits.overflowError"], apart := false }
def ExactSpreadsSaid : Prop := exactSpreadsRow.holds Try.pinned (OpenSpec.ofChange exactSpreadsSpec)

/-- ITS FALSE NEIGHBOUR: 'it returns false'. Refute it at one input. -/
def exactSpreadsWrong : ChangeSpec := { name := "exactSpreads", fn := fun _ => fun
  | [d] => { results := [.lit (.bool false)], args := [d] }
  | _ => none }
def ExactSpreadsWrongFalsely : Prop := exactSpreadsRow.holds Try.pinned (OpenSpec.ofChange exactSpreadsWrong)

/-- 'windowpanelaw08.ExactMoves': WHATEVER THE INPUT: true; the input reads as it did. -/
def exactMovesSpec : ChangeSpec := { name := "exactMoves", fn := fun _ => fun
  | [d1, d2, d3] => { results := [.lit (.bool true)], args := [d1, d2, d3] }
  | _ => none }
def exactMovesRow : OpenClaim := { program := "ytjmfliljiffekaa", sum := "97f24b5f1b3f6cb08b1ee19ca25d1e0a81eadd6b5bca1945983429aff3e84b3c", func := "windowpane/windowpanelaw08.ExactMoves", spec := "exactMoves", inPlace := ["math/bits.Add64", "math/bits.Sub64"], named := ["math/bits.divideError", "math/bits.overflowError"], apart := false }
def ExactMovesSaid : Prop := exactMovesRow.holds Try.pinned (OpenSpec.ofChange exactMovesSpec)

/-- ITS FALSE NEIGHBOUR: 'it returns false'. Refute it at one input. -/
def exactMovesWrong : ChangeSpec := { name := "exactMoves", fn := fun _ => fun
  | [d1, d2, d3] => { results := [.lit (.bool false)], args := [d1, d2, d3] }
  | _ => none }
def ExactMovesWrongFalsely : Prop := exactMovesRow.holds Try.pinned (OpenSpec.ofChange exactMovesWrong)

/-- 'windowpanelaw08.ExactRanks': WHATEVER THE INPUT: true; the input reads as it did. -/
def exactRanksSpec : ChangeSpec := { name := "exactRanks", fn := fun _ => fun
  | [d1, d2, d3, d4] => { results := [.lit (.bool true)], args := [d1, d2, d3, d4] }
  | _ => none }
def exactRanksRow : OpenClaim := { program := "ytjmfliljiffekaa", sum := "97f24b5f1b3f6cb08b1ee19ca25d1e0a81eadd6b5bca1945983429aff3e84b3c", func := "windowpane/windowpanelaw08.ExactRanks", spec := "exactRanks", inPlace := ["math/bits.Add64", "math/bits.Sub64"], recurses := true, named := ["math/bits.divideError", "math/bits.overflowError"], apart := false }
def ExactRanksSaid : Prop := exactRanksRow.holds Try.pinned (OpenSpec.ofChange exactRanksSpec)

/-- ITS FALSE NEIGHBOUR: 'it returns false'. Refute it at one input. -/
def exactRanksWrong : ChangeSpec := { name := "exactRanks", fn := fun _ => fun
  | [d1, d2, d3, d4] => { results := [.lit (.bool false)], args := [d1, d2, d3, d4] }
  | _ => none }
def ExactRanksWrongFalsely : Prop := exactRanksRow.holds Try.pinned (OpenSpec.ofChange exactRanksWrong)

/-- 'windowpanelaw08.ExactPolys': WHATEVER THE INPUT: true; the input reads as it did. -/
def exactPolysSpec : ChangeSpec := { name := "exactPolys", fn := fun _ => fun
  | [d1, d2, d3] => { results := [.lit (.bool true)], args := [d1, d2, d3] }
  | _ => none }
def exactPolysRow : OpenClaim := { program := "ytjmfliljiffekaa", sum := "97f24b5f1b3f6cb08b1ee19ca25d1e0a81eadd6b5bca1945983429aff3e84b3c", func := "windowpane/windowpanelaw08.ExactPolys", spec := "exactPolys", inPlace := ["math/bits.Add64"], unfollowed := true, recurses := true, apart := false }
def ExactPolysSaid : Prop := exactPolysRow.holds Try.pinned (OpenSpec.ofChange exactPolysSpec)

/-- ITS FALSE NEIGHBOUR: 'it returns false'. Refute it at one input. -/
def exactPolysWrong : ChangeSpec := { name := "exactPolys", fn := fun _ => fun
  | [d1, d2, d3] => { results := [.lit (.bool false)], args := [d1, d2, d3] }
  | _ => none }
def ExactPolysWrongFalsely : Prop := exactPolysRow.holds Try.pinned (OpenSpec.ofChange exactPolysWrong)

/-- 'windowpanelaw08.ExactHalves': WHATEVER THE INPUT: true; the input reads as it did. -/
def exactHalvesSpec : ChangeSpec := { name := "exactHalves", fn := fun _ => fun
  | [d1, d2, d3] => { results := [.lit (.bool true)], args := [d1, d2, d3] }
  | _ => none }
def exactHalvesRow : OpenClaim := { program := "ytjmfliljiffekaa", sum := "97f24b5f1b3f6cb08b1ee19ca25d1e0a81eadd6b5bca1945983429aff3e84b3c", func := "windowpane/windowpanelaw08.ExactHalves", spec := "exactHalves", inPlace := ["math/bits.Add64"], unfollowed := true, recurses := true, apart := false }
def ExactHalvesSaid : Prop := exactHalvesRow.holds Try.pinned (OpenSpec.ofChange exactHalvesSpec)

/-- ITS FALSE NEIGHBOUR: 'it returns false'. Refute it at one input. -/
def exactHalvesWrong : ChangeSpec := { name := "exactHalves", fn := fun _ => fun
  | [d1, d2, d3] => { results := [.lit (.bool false)], args := [d1, d2, d3] }
  | _ => none }
def ExactHalvesWrongFalsely : Prop := exactHalvesRow.holds Try.pinned (OpenSpec.ofChange exactHalvesWrong)

/- THE SECOND FORM. 'bulk': how many values and letters a reading holds, each counted each time it is reached (what is shared counts as often as it is met; a slice's spare places count too). A statement '..UptoSaid' is the law's where the arguments, and the package variables that the reading takes, are together of bulk at most 1048576: NARROWER than '..Said'. Prove '..Said' where nothing that the law and all that it calls make is longer than what came in: it says more and counts as full. Else prove '..UptoSaid'. A law counts once. -/
mutual
def uptoBulk {H : Type} : DataW H → Nat
  | .lit (.string bytes) => bytes.length + 1
  | .lit _ => 1
  | .nil => 1
  | .ptr d => uptoBulk d + 1
  | .slice elems spare => uptoBulkAll elems + uptoBulkAll spare + 1
  | .agg parts => uptoBulkAll parts + 1
  | .iface _ d => uptoBulk d + 1
  | .map entries => uptoBulkEntries entries + 1
  | .held _ => 1
def uptoBulkAll {H : Type} : List (DataW H) → Nat
  | [] => 0
  | d :: r => uptoBulk d + uptoBulkAll r
def uptoBulkEntries {H : Type} : List (Lit × DataW H) → Nat
  | [] => 0
  | x :: r => uptoBulkEntry x + uptoBulkEntries r
def uptoBulkEntry {H : Type} : Lit × DataW H → Nat
  | (.string bytes, d) => bytes.length + uptoBulk d + 1
  | (_, d) => uptoBulk d + 1
 end
def uptoSmall : (H : Type) → List (DataW H) → Bool := fun _ ds => decide (uptoBulkAll ds ≤ 1048576)
def OpenSpec.upto (s : _root_.Go.ChangeSpec) : _root_.Go.OpenSpec := { _root_.Go.OpenSpec.ofChange s with cond := some uptoSmall }

/-- 'windowpanelaw08.ExactLive', WHERE WHAT IT READS IS OF BULK AT MOST 1048576: true; the input reads as it did. -/
def exactLiveUptoRow : OpenClaim := { program := "ytjmfliljiffekaa", sum := "97f24b5f1b3f6cb08b1ee19ca25d1e0a81eadd6b5bca1945983429aff3e84b3c", func := "windowpane/windowpanelaw08.ExactLive", spec := "exactLive", inPlace := ["math/bits.Add64"], apart := false, narrowed := true }
def ExactLiveUptoSaid : Prop := exactLiveUptoRow.holds Try.pinned (OpenSpec.upto exactLiveSpec)

/-- 'windowpanelaw08.ExactSums', WHERE WHAT IT READS IS OF BULK AT MOST 1048576: true; the input reads as it did. -/
def exactSumsUptoRow : OpenClaim := { program := "ytjmfliljiffekaa", sum := "97f24b5f1b3f6cb08b1ee19ca25d1e0a81eadd6b5bca1945983429aff3e84b3c", func := "windowpane/windowpanelaw08.ExactSums", spec := "exactSums", inPlace := ["math/bits.Add64", "math/bits.Sub64"], apart := false, narrowed := true }
def ExactSumsUptoSaid : Prop := exactSumsUptoRow.holds Try.pinned (OpenSpec.upto exactSumsSpec)

/-- 'windowpanelaw08.ExactExtremes', WHERE WHAT IT READS IS OF BULK AT MOST 1048576: true; the input reads as it did. -/
def exactExtremesUptoRow : OpenClaim := { program := "ytjmfliljiffekaa", sum := "97f24b5f1b3f6cb08b1ee19ca25d1e0a81eadd6b5bca1945983429aff3e84b3c", func := "windowpane/windowpanelaw08.ExactExtremes", spec := "exactExtremes", inPlace := ["math/bits.Add64"], apart := false, narrowed := true }
def ExactExtremesUptoSaid : Prop := exactExtremesUptoRow.holds Try.pinned (OpenSpec.upto exactExtremesSpec)

/-- 'windowpanelaw08.ExactSpreads', WHERE WHAT IT READS IS OF BULK AT MOST 1048576: true; the input reads as it did. -/
def exactSpreadsUptoRow : OpenClaim := { program := "ytjmfliljiffekaa", sum := "97f24b5f1b3f6cb08b1ee19ca25d1e0a81eadd6b5bca1945983429aff3e84b3c", func := "windowpane/windowpanelaw08.ExactSpreads", spec := "exactSpreads", inPlace := ["math/bits.Add64", "math/bits.Sub64"], named := ["math/bits.divideError", "math/bits.overflowError"], apart := false, narrowed := true }
def ExactSpreadsUptoSaid : Prop := exactSpreadsUptoRow.holds Try.pinned (OpenSpec.upto exactSpreadsSpec)

/-- 'windowpanelaw08.ExactMoves', WHERE WHAT IT READS IS OF BULK AT MOST 1048576: true; the input reads as it did. -/
def exactMovesUptoRow : OpenClaim := { program := "ytjmfliljiffekaa", sum := "97f24b5f1b3f6cb08b1ee19ca25d1e0a81eadd6b5bca1945983429aff3e84b3c", func := "windowpane/windowpanelaw08.ExactMoves", spec := "exactMoves", inPlace := ["math/bits.Add64", "math/bits.Sub64"], named := ["math/bits.divideError", "math/bits.overflowError"], apart := false, narrowed := true }
def ExactMovesUptoSaid : Prop := exactMovesUptoRow.holds Try.pinned (OpenSpec.upto exactMovesSpec)

/-- 'windowpanelaw08.ExactRanks', WHERE WHAT IT READS IS OF BULK AT MOST 1048576: true; the input reads as it did. -/
def exactRanksUptoRow : OpenClaim := { program := "ytjmfliljiffekaa", sum := "97f24b5f1b3f6cb08b1ee19ca25d1e0a81eadd6b5bca1945983429aff3e84b3c", func := "windowpane/windowpanelaw08.ExactRanks", spec := "exactRanks", inPlace := ["math/bits.Add64", "math/bits.Sub64"], recurses := true, named := ["math/bits.divideError", "math/bits.overflowError"], apart := false, narrowed := true }
def ExactRanksUptoSaid : Prop := exactRanksUptoRow.holds Try.pinned (OpenSpec.upto exactRanksSpec)

/-- 'windowpanelaw08.ExactPolys', WHERE WHAT IT READS IS OF BULK AT MOST 1048576: true; the input reads as it did. -/
def exactPolysUptoRow : OpenClaim := { program := "ytjmfliljiffekaa", sum := "97f24b5f1b3f6cb08b1ee19ca25d1e0a81eadd6b5bca1945983429aff3e84b3c", func := "windowpane/windowpanelaw08.ExactPolys", spec := "exactPolys", inPlace := ["math/bits.Add64"], unfollowed := true, recurses := true, apart := false, narrowed := true }
def ExactPolysUptoSaid : Prop := exactPolysUptoRow.holds Try.pinned (OpenSpec.upto exactPolysSpec)

/-- 'windowpanelaw08.ExactHalves', WHERE WHAT IT READS IS OF BULK AT MOST 1048576: true; the input reads as it did. -/
def exactHalvesUptoRow : OpenClaim := { program := "ytjmfliljiffekaa", sum := "97f24b5f1b3f6cb08b1ee19ca25d1e0a81eadd6b5bca1945983429aff3e84b3c", func := "windowpane/windowpanelaw08.ExactHalves", spec := "exactHalves", inPlace := ["math/bits.Add64"], unfollowed := true, recurses := true, apart := false, narrowed := true }
def ExactHalvesUptoSaid : Prop := exactHalvesUptoRow.holds Try.pinned (OpenSpec.upto exactHalvesSpec)

end Rows
end Go.Proofs.Ytjmfliljiffekaa
