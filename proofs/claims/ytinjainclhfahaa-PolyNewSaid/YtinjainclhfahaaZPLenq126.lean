/- How long the results of package poly are. -/
import Derived.Test.YtinjainclhfahaaRows
import Derived.Test.YtinjainclhfahaaZPAskq117
import Derived.Test.YtinjainclhfahaaZPBaseq101
namespace Go.Proofs.Ytinjainclhfahaa
open Go.RowKit
set_option linter.unusedVariables false

theorem nwQ_len (p t : Int) : (nwQ p t).2.2.2.1.length ≤ 5 := by
  unfold nwQ
  by_cases h : (0 ≤ p ∧ p ≤ 4) ∧ (0 ≤ t ∧ t ≤ 16777216)
  · rw [if_pos h]; simp; omega
  · rw [if_neg h]; simp [noQ]
end Go.Proofs.Ytinjainclhfahaa
