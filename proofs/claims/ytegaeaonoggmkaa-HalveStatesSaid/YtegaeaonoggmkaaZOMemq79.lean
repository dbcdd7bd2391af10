/- Rows of int64 with stores; what functions with a state of a tick and sums return. No function of a program is named here. -/
import Derived.Test.YtegaeaonoggmkaaRows
import Derived.Test.YtegaeaonoggmkaaZFBaseq71
import Derived.Test.YtegaeaonoggmkaaZOMemq78
import Derived.Test.YtegaeaonoggmkaaZOStq52
namespace Go.Proofs.Ytegaeaonoggmkaa
open Go.RowKit
set_option linter.unusedVariables false

/-- The weighted sum, term by term, fits. -/
theorem asF_in {now : Int} {S : List Int} (h : stH now S = true) {n : Nat} (hn : n ≤ S.length) : In2 (asF S.length (fun e => S.getD e 0) n) ∧ ∀ e, e < S.length → In2 (S.getD e 0 * 2 ^ (S.length - 1 - e)) := by
  obtain ⟨h1, _, h3⟩ := stH_iff.1 h
  have hb := asF_bd (a := S.length) (f := fun e => S.getD e 0) h1.2 (n := n) (fun e he => ⟨(h3 e (by omega)).1, (h3 e (by omega)).2.1⟩)
  refine ⟨⟨hb.1, by omega⟩, fun e he => ?_⟩
  have ht := term_bd (a := S.length) (e := e) h1.2 (h3 e he).1 (h3 e he).2.1
  exact ⟨ht.1, by omega⟩
end Go.Proofs.Ytegaeaonoggmkaa
