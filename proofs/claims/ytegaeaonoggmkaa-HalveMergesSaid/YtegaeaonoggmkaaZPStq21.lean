/- Polynomial decay: the states, what Add, Rebase and Merge make of the moments, and the moments of items. No program is named here. -/
import Derived.Test.YtegaeaonoggmkaaRows
import Derived.Test.YtegaeaonoggmkaaZWFormatq9
namespace Go.Proofs.Ytegaeaonoggmkaa

theorem byL_push (n : Nat) (f : Nat → Int) : byL (n + 1) f = byL n f ++ [f n] := by
  unfold byL; rw [List.range_succ, List.map_append]; rfl
end Go.Proofs.Ytegaeaonoggmkaa
