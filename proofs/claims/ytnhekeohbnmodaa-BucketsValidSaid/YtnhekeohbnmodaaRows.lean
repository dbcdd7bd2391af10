/-
  No cell of these rows narrows 'for every input' (looked for: loops, veiled, ifaces, maps, wideKeys, modest, calm, conditions, laid).
  DERIVED. THE GIVEN ROWS OF THIS SEAT. 9 by the template 'for every input the law returns true; each argument reads behind the call as it read before'; 0 by the template 'total and deterministic' (their statements: YtnhekeohbnmodaaTotals.lean).
  GIVEN WITH THE SEED: the statements are not yours to turn. If you find one false, say at which input.
  Laid BY PROGRAM, IN A SANDBOX (cutbox-rows.mjs): the forced cells as the released guide's own fill.sh prints them over the translation 4f1375a65eb7ac09… (all of the seat's roots in one cut). By AI agents, Wed Nov 11 2026. No macro, syntax, notation, axiom, sorry.
-/
import Derived.Test.YtnhekeohbnmodaaChecked
import GoSem.Claim
import GoSem.ClaimJoined
import GoSem.ClaimMapViews
import Derived.JoinedTies
import Derived.KernelRfl
namespace Go.Proofs.Ytnhekeohbnmodaa
/- THE CELL 'sum', in the pinned program and in every row, IS THE sha256 OF THE DUMP (.gsa) THAT YtnhekeohbnmodaaProg.lean LOADS. Nothing in Lean hashes anything: it is a label: what it is worth is what the hold of that sum in a sandbox is worth. -/
noncomputable def Try.pinned : Pinned := { name := "ytnhekeohbnmodaa", sum := "4f1375a65eb7ac09bdeceab28933e17045d8415af44580b97d84c441b8bdf490", checked := Try.checked }
namespace Rows
def none {H : Type} : Left H := { results := [], args := [] }

/-- 'windowpanelaw10.BucketsValid': WHATEVER THE INPUT: true; the input reads as it did. -/
def bucketsValidSpec : ChangeSpec := { name := "bucketsValid", fn := fun _ => fun
  | [d1, d2] => { results := [.lit (.bool true)], args := [d1, d2] }
  | _ => none }
def bucketsValidRow : OpenClaim := { program := "ytnhekeohbnmodaa", sum := "4f1375a65eb7ac09bdeceab28933e17045d8415af44580b97d84c441b8bdf490", func := "windowpane/windowpanelaw10.BucketsValid", spec := "bucketsValid", apart := false }
def BucketsValidSaid : Prop := bucketsValidRow.holds Try.pinned (OpenSpec.ofChange bucketsValidSpec)

/-- ITS FALSE NEIGHBOUR: 'it returns false'. Refute it at one input. -/
def bucketsValidWrong : ChangeSpec := { name := "bucketsValid", fn := fun _ => fun
  | [d1, d2] => { results := [.lit (.bool false)], args := [d1, d2] }
  | _ => none }
def BucketsValidWrongFalsely : Prop := bucketsValidRow.holds Try.pinned (OpenSpec.ofChange bucketsValidWrong)

/-- 'windowpanelaw10.BucketsInsert': WHATEVER THE INPUT: true; the input reads as it did. -/
def bucketsInsertSpec : ChangeSpec := { name := "bucketsInsert", fn := fun _ => fun
  | [d1, d2, d3] => { results := [.lit (.bool true)], args := [d1, d2, d3] }
  | _ => none }
def bucketsInsertRow : OpenClaim := { program := "ytnhekeohbnmodaa", sum := "4f1375a65eb7ac09bdeceab28933e17045d8415af44580b97d84c441b8bdf490", func := "windowpane/windowpanelaw10.BucketsInsert", spec := "bucketsInsert", apart := false }
def BucketsInsertSaid : Prop := bucketsInsertRow.holds Try.pinned (OpenSpec.ofChange bucketsInsertSpec)

/-- ITS FALSE NEIGHBOUR: 'it returns false'. Refute it at one input. -/
def bucketsInsertWrong : ChangeSpec := { name := "bucketsInsert", fn := fun _ => fun
  | [d1, d2, d3] => { results := [.lit (.bool false)], args := [d1, d2, d3] }
  | _ => none }
def BucketsInsertWrongFalsely : Prop := bucketsInsertRow.holds Try.pinned (OpenSpec.ofChange bucketsInsertWrong)

/-- 'windowpanelaw10.BucketsInsertMany': WHATEVER THE INPUT: true; the input reads as it did. -/
def bucketsInsertManySpec : ChangeSpec := { name := "bucketsInsertMany", fn := fun _ => fun
  | [d1, d2, d3, d4] => { results := [.lit (.bool true)], args := [d1, d2, d3, d4] }
  | _ => none }
def bucketsInsertManyRow : OpenClaim := { program := "ytnhekeohbnmodaa", sum := "4f1375a65eb7ac09bdeceab28933e17045d8415af44580b97d84c441b8bdf490", func := "windowpane/windowpanelaw10.BucketsInsertMany", spec := "bucketsInsertMany", apart := false }
def BucketsInsertManySaid : Prop := bucketsInsertManyRow.holds Try.pinned (OpenSpec.ofChange bucketsInsertManySpec)

/-- ITS FALSE NEIGHBOUR: 'it returns false'. Refute it at one input. -/
def bucketsInsertManyWrong : ChangeSpec := { name := "bucketsInsertMany", fn := fun _ => fun
  | [d1, d2, d3, d4] => { results := [.lit (.bool false)], args := [d1, d2, d3, d4] }
  | _ => none }
def BucketsInsertManyWrongFalsely : Prop := bucketsInsertManyRow.holds Try.pinned (OpenSpec.ofChange bucketsInsertManyWrong)

/-- 'windowpanelaw10.BucketsOneByOne': WHATEVER THE INPUT: true; the input reads as it did. -/
def bucketsOneByOneSpec : ChangeSpec := { name := "bucketsOneByOne", fn := fun _ => fun
  | [d1, d2, d3, d4] => { results := [.lit (.bool true)], args := [d1, d2, d3, d4] }
  | _ => none }
def bucketsOneByOneRow : OpenClaim := { program := "ytnhekeohbnmodaa", sum := "4f1375a65eb7ac09bdeceab28933e17045d8415af44580b97d84c441b8bdf490", func := "windowpane/windowpanelaw10.BucketsOneByOne", spec := "bucketsOneByOne", apart := false }
def BucketsOneByOneSaid : Prop := bucketsOneByOneRow.holds Try.pinned (OpenSpec.ofChange bucketsOneByOneSpec)

/-- ITS FALSE NEIGHBOUR: 'it returns false'. Refute it at one input. -/
def bucketsOneByOneWrong : ChangeSpec := { name := "bucketsOneByOne", fn := fun _ => fun
  | [d1, d2, d3, d4] => { results := [.lit (.bool false)], args := [d1, d2, d3, d4] }
  | _ => none }
def BucketsOneByOneWrongFalsely : Prop := bucketsOneByOneRow.holds Try.pinned (OpenSpec.ofChange bucketsOneByOneWrong)

/-- 'windowpanelaw10.BucketsExpire': WHATEVER THE INPUT: true; the input reads as it did. -/
def bucketsExpireSpec : ChangeSpec := { name := "bucketsExpire", fn := fun _ => fun
  | [d1, d2] => { results := [.lit (.bool true)], args := [d1, d2] }
  | _ => none }
def bucketsExpireRow : OpenClaim := { program := "ytnhekeohbnmodaa", sum := "4f1375a65eb7ac09bdeceab28933e17045d8415af44580b97d84c441b8bdf490", func := "windowpane/windowpanelaw10.BucketsExpire", spec := "bucketsExpire", apart := false }
def BucketsExpireSaid : Prop := bucketsExpireRow.holds Try.pinned (OpenSpec.ofChange bucketsExpireSpec)

/-- ITS FALSE NEIGHBOUR: 'it returns false'. Refute it at one input. -/
def bucketsExpireWrong : ChangeSpec := { name := "bucketsExpire", fn := fun _ => fun
  | [d1, d2] => { results := [.lit (.bool false)], args := [d1, d2] }
  | _ => none }
def BucketsExpireWrongFalsely : Prop := bucketsExpireRow.holds Try.pinned (OpenSpec.ofChange bucketsExpireWrong)

/-- 'windowpanelaw10.BucketsQuery': WHATEVER THE INPUT: true; the input reads as it did. -/
def bucketsQuerySpec : ChangeSpec := { name := "bucketsQuery", fn := fun _ => fun
  | [d] => { results := [.lit (.bool true)], args := [d] }
  | _ => none }
def bucketsQueryRow : OpenClaim := { program := "ytnhekeohbnmodaa", sum := "4f1375a65eb7ac09bdeceab28933e17045d8415af44580b97d84c441b8bdf490", func := "windowpane/windowpanelaw10.BucketsQuery", spec := "bucketsQuery", inPlace := ["math/bits.Sub64"], apart := false }
def BucketsQuerySaid : Prop := bucketsQueryRow.holds Try.pinned (OpenSpec.ofChange bucketsQuerySpec)

/-- ITS FALSE NEIGHBOUR: 'it returns false'. Refute it at one input. -/
def bucketsQueryWrong : ChangeSpec := { name := "bucketsQuery", fn := fun _ => fun
  | [d] => { results := [.lit (.bool false)], args := [d] }
  | _ => none }
def BucketsQueryWrongFalsely : Prop := bucketsQueryRow.holds Try.pinned (OpenSpec.ofChange bucketsQueryWrong)

/-- 'windowpanelaw10.BucketsCanonical': WHATEVER THE INPUT: true; the input reads as it did. -/
def bucketsCanonicalSpec : ChangeSpec := { name := "bucketsCanonical", fn := fun _ => fun
  | [d1, d2, d3] => { results := [.lit (.bool true)], args := [d1, d2, d3] }
  | _ => none }
def bucketsCanonicalRow : OpenClaim := { program := "ytnhekeohbnmodaa", sum := "4f1375a65eb7ac09bdeceab28933e17045d8415af44580b97d84c441b8bdf490", func := "windowpane/windowpanelaw10.BucketsCanonical", spec := "bucketsCanonical", apart := false }
def BucketsCanonicalSaid : Prop := bucketsCanonicalRow.holds Try.pinned (OpenSpec.ofChange bucketsCanonicalSpec)

/-- ITS FALSE NEIGHBOUR: 'it returns false'. Refute it at one input. -/
def bucketsCanonicalWrong : ChangeSpec := { name := "bucketsCanonical", fn := fun _ => fun
  | [d1, d2, d3] => { results := [.lit (.bool false)], args := [d1, d2, d3] }
  | _ => none }
def BucketsCanonicalWrongFalsely : Prop := bucketsCanonicalRow.holds Try.pinned (OpenSpec.ofChange bucketsCanonicalWrong)

/-- 'windowpanelaw10.BucketsGrow': WHATEVER THE INPUT: true; the input reads as it did. -/
def bucketsGrowSpec : ChangeSpec := { name := "bucketsGrow", fn := fun _ => fun
  | [d1, d2] => { results := [.lit (.bool true)], args := [d1, d2] }
  | _ => none }
def bucketsGrowRow : OpenClaim := { program := "ytnhekeohbnmodaa", sum := "4f1375a65eb7ac09bdeceab28933e17045d8415af44580b97d84c441b8bdf490", func := "windowpane/windowpanelaw10.BucketsGrow", spec := "bucketsGrow", apart := false }
def BucketsGrowSaid : Prop := bucketsGrowRow.holds Try.pinned (OpenSpec.ofChange bucketsGrowSpec)

/-- ITS FALSE NEIGHBOUR: 'it returns false'. Refute it at one input. -/
def bucketsGrowWrong : ChangeSpec := { name := "bucketsGrow", fn := fun _ => fun
  | [d1, d2] => { results := [.lit (.bool false)], args := [d1, d2] }
  | _ => none }
def BucketsGrowWrongFalsely : Prop := bucketsGrowRow.holds Try.pinned (OpenSpec.ofChange bucketsGrowWrong)

/-- 'windowpanelaw10.BucketsKeep': WHATEVER THE INPUT: true; the input reads as it did. -/
def bucketsKeepSpec : ChangeSpec := { name := "bucketsKeep", fn := fun _ => fun
  | [d1, d2] => { results := [.lit (.bool true)], args := [d1, d2] }
  | _ => none }
def bucketsKeepRow : OpenClaim := { program := "ytnhekeohbnmodaa", sum := "4f1375a65eb7ac09bdeceab28933e17045d8415af44580b97d84c441b8bdf490", func := "windowpane/windowpanelaw10.BucketsKeep", spec := "bucketsKeep", inPlace := ["math/bits.Add64", "math/bits.Sub64"], apart := false }
def BucketsKeepSaid : Prop := bucketsKeepRow.holds Try.pinned (OpenSpec.ofChange bucketsKeepSpec)

/-- ITS FALSE NEIGHBOUR: 'it returns false'. Refute it at one input. -/
def bucketsKeepWrong : ChangeSpec := { name := "bucketsKeep", fn := fun _ => fun
  | [d1, d2] => { results := [.lit (.bool false)], args := [d1, d2] }
  | _ => none }
def BucketsKeepWrongFalsely : Prop := bucketsKeepRow.holds Try.pinned (OpenSpec.ofChange bucketsKeepWrong)

/- THE SECOND FORM. 'bulk': how many values and letters a reading holds, each counted each time it is reached (what is shared counts as often as it is met; a slice's spare places count too). A statement '..UptoSaid' is the law's where the arguments, and the package variables that the reading takes, are together of bulk at most 1048576: NARROWER than '..Said'. Prove '..Said' where nothing that the law and all that it calls make is longer than what came in: it says more and counts as full. Else prove '..UptoSaid'. A law counts once. -/
mutual
def uptoBulk {H : Type} : DataW H → Nat
  | .lit (.string bytes) => bytes.length + 1
  | .lit _ => 1
  | .nil => 1
  | .ptr d => uptoBulk d + 1
  | .slice elems spare => uptoBulkAll elems + uptoBulkAll spare + 1
  | .agg parts => uptoBulkAll parts + 1
  | .iface _ d => uptoBulk d + 1
  | .map entries => uptoBulkEntries entries + 1
  | .held _ => 1
def uptoBulkAll {H : Type} : List (DataW H) → Nat
  | [] => 0
  | d :: r => uptoBulk d + uptoBulkAll r
def uptoBulkEntries {H : Type} : List (Lit × DataW H) → Nat
  | [] => 0
  | x :: r => uptoBulkEntry x + uptoBulkEntries r
def uptoBulkEntry {H : Type} : Lit × DataW H → Nat
  | (.string bytes, d) => bytes.length + uptoBulk d + 1
  | (_, d) => uptoBulk d + 1
 end
def uptoSmall : (H : Type) → List (DataW H) → Bool := fun _ ds => decide (uptoBulkAll ds ≤ 1048576)
def OpenSpec.upto (s : _root_.Go.ChangeSpec) : _root_.Go.OpenSpec := { _root_.Go.OpenSpec.ofChange s with cond := some uptoSmall }

/-- 'windowpanelaw10.BucketsValid', WHERE WHAT IT READS IS OF BULK AT MOST 1048576: true; the input reads as it did. -/
def bucketsValidUptoRow : OpenClaim := { program := "ytnhekeohbnmodaa", sum := "4f1375a65eb7ac09bdeceab28933e17045d8415af44580b97d84c441b8bdf490", func := "windowpane/windowpanelaw10.BucketsValid", spec := "bucketsValid", apart := false, narrowed := true }
def BucketsValidUptoSaid : Prop := bucketsValidUptoRow.holds Try.pinned (OpenSpec.upto bucketsValidSpec)

/-- 'windowpanelaw10.BucketsInsert', WHERE WHAT IT READS IS OF BULK AT MOST 1048576: true; the input reads as it did. -/
def bucketsInsertUptoRow : OpenClaim := { program := "ytnhekeohbnmodaa", sum := "4f1375a65eb7ac09bdeceab28933e17045d8415af44580b97d84c441b8bdf490", func := "windowpane/windowpanelaw10.BucketsInsert", spec := "bucketsInsert", apart := false, narrowed := true }
def BucketsInsertUptoSaid : Prop := bucketsInsertUptoRow.holds Try.pinned (OpenSpec.upto bucketsInsertSpec)

/-- 'windowpanelaw10.BucketsInsertMany', WHERE WHAT IT READS IS OF BULK AT MOST 1048576: true; the input reads as it did. -/
def bucketsInsertManyUptoRow : OpenClaim := { program := "ytnhekeohbnmodaa", sum := "4f1375a65eb7ac09bdeceab28933e17045d8415af44580b97d84c441b8bdf490", func := "windowpane/windowpanelaw10.BucketsInsertMany", spec := "bucketsInsertMany", apart := false, narrowed := true }
def BucketsInsertManyUptoSaid : Prop := bucketsInsertManyUptoRow.holds Try.pinned (OpenSpec.upto bucketsInsertManySpec)

/-- 'windowpanelaw10.BucketsOneByOne', WHERE WHAT IT READS IS OF BULK AT MOST 1048576: true; the input reads as it did. -/
def bucketsOneByOneUptoRow : OpenClaim := { program := "ytnhekeohbnmodaa", sum := "4f1375a65eb7ac09bdeceab28933e17045d8415af44580b97d84c441b8bdf490", func := "windowpane/windowpanelaw10.BucketsOneByOne", spec := "bucketsOneByOne", apart := false, narrowed := true }
def BucketsOneByOneUptoSaid : Prop := bucketsOneByOneUptoRow.holds Try.pinned (OpenSpec.upto bucketsOneByOneSpec)

/-- 'windowpanelaw10.BucketsExpire', WHERE WHAT IT READS IS OF BULK AT MOST 1048576: true; the input reads as it did. -/
def bucketsExpireUptoRow : OpenClaim := { program := "ytnhekeohbnmodaa", sum := "4f1375a65eb7ac09bdeceab28933e17045d8415af44580b97d84c441b8bdf490", func := "windowpane/windowpanelaw10.BucketsExpire", spec := "bucketsExpire", apart := false, narrowed := true }
def BucketsExpireUptoSaid : Prop := bucketsExpireUptoRow.holds Try.pinned (OpenSpec.upto bucketsExpireSpec)

/-- 'windowpanelaw10.BucketsQuery', WHERE WHAT IT READS IS OF BULK AT MOST 1048576: true; the input reads as it did. -/
def bucketsQueryUptoRow : OpenClaim := { program := "ytnhekeohbnmodaa", sum := "4f1375a65eb7ac09bdeceab28933e17045d8415af44580b97d84c441b8bdf490", func := "windowpane/windowpanelaw10.BucketsQuery", spec := "bucketsQuery", inPlace := ["math/bits.Sub64"], apart := false, narrowed := true }
def BucketsQueryUptoSaid : Prop := bucketsQueryUptoRow.holds Try.pinned (OpenSpec.upto bucketsQuerySpec)

/-- 'windowpanelaw10.BucketsCanonical', WHERE WHAT IT READS IS OF BULK AT MOST 1048576: true; the input reads as it did. -/
def bucketsCanonicalUptoRow : OpenClaim := { program := "ytnhekeohbnmodaa", sum := "4f1375a65eb7ac09bdeceab28933e17045d8415af44580b97d84c441b8bdf490", func := "windowpane/windowpanelaw10.BucketsCanonical", spec := "bucketsCanonical", apart := false, narrowed := true }
def BucketsCanonicalUptoSaid : Prop := bucketsCanonicalUptoRow.holds Try.pinned (OpenSpec.upto bucketsCanonicalSpec)

/-- 'windowpanelaw10.BucketsGrow', WHERE WHAT IT READS IS OF BULK AT MOST 1048576: true; the input reads as it did. -/
def bucketsGrowUptoRow : OpenClaim := { program := "ytnhekeohbnmodaa", sum := "4f1375a65eb7ac09bdeceab28933e17045d8415af44580b97d84c441b8bdf490", func := "windowpane/windowpanelaw10.BucketsGrow", spec := "bucketsGrow", apart := false, narrowed := true }
def BucketsGrowUptoSaid : Prop := bucketsGrowUptoRow.holds Try.pinned (OpenSpec.upto bucketsGrowSpec)

/-- 'windowpanelaw10.BucketsKeep', WHERE WHAT IT READS IS OF BULK AT MOST 1048576: true; the input reads as it did. -/
def bucketsKeepUptoRow : OpenClaim := { program := "ytnhekeohbnmodaa", sum := "4f1375a65eb7ac09bdeceab28933e17045d8415af44580b97d84c441b8bdf490", func := "windowpane/windowpanelaw10.BucketsKeep", spec := "bucketsKeep", inPlace := ["math/bits.Add64", "math/bits.Sub64"], apart := false, narrowed := true }
def BucketsKeepUptoSaid : Prop := bucketsKeepUptoRow.holds Try.pinned (OpenSpec.upto bucketsKeepSpec)

end Rows
end Go.Proofs.Ytnhekeohbnmodaa
