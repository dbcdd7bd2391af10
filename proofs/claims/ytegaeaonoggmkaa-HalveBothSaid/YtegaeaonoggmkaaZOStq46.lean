/- Decay by halving: what the functions return, as plain results, and their steps over items. No program is named here. -/
import Derived.Test.YtegaeaonoggmkaaRows
import Derived.Test.YtegaeaonoggmkaaZETotalq39
import Derived.Test.YtegaeaonoggmkaaZGLawq34
import Derived.Test.YtegaeaonoggmkaaZOMathq24
namespace Go.Proofs.Ytegaeaonoggmkaa
open Go.RowKit
set_option linter.unusedVariables false

/-- All sums of two lists are in range. -/
def mgHB (S T : List Int) : Bool := (List.range S.length).all (fun e => decide (S.getD e 0 + T.getD e 0 ≤ 1099511627776))
theorem mgHB_iff {S T : List Int} : mgHB S T = true ↔ ∀ e, e < S.length → S.getD e 0 + T.getD e 0 ≤ 1099511627776 := by
  unfold mgHB
  rw [List.all_eq_true]
  exact ⟨fun h e he => of_decide_eq_true (h e (List.mem_range.2 he)), fun h e he => decide_eq_true (h e (List.mem_range.1 he))⟩
def mgR (now : Int) (S : List Int) (now' : Int) (T : List Int) : QH := if stH now S = true then (if stH now' T = true then (if now = now' ∧ S.length = T.length then (if mgHB S T = true then (now, mgH S T, 0) else noH 6) else noH 1) else noH 2) else noH 2
end Go.Proofs.Ytegaeaonoggmkaa
