/- Decay by halving: what the functions return, as plain results, and their steps over items. No program is named here. -/
import Derived.Test.YtegaeaonoggmkaaRows
import Derived.Test.YtegaeaonoggmkaaZETotalq39
namespace Go.Proofs.Ytegaeaonoggmkaa
open Go.RowKit
set_option linter.unusedVariables false

theorem nwH_len (a t : Int) : (nwH a t).2.1.length ≤ 64 := by
  unfold nwH
  by_cases h : (1 ≤ a ∧ a ≤ 64) ∧ (0 ≤ t ∧ t ≤ 16777216)
  · rw [if_pos h]; simp; omega
  · rw [if_neg h]; simp [noH]
end Go.Proofs.Ytegaeaonoggmkaa
