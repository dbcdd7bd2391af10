/- What the sums, differences and comparisons of package wide, and of its reference, return. -/
import Derived.Test.YtbfbmdkgnecfaaaDoorWide
namespace Go.Proofs.YtbfbmdkgnecfaaaDoor
open Go.RowKit

/-! ### Comparisons -/
/-- -1, 0 or 1. -/
def cmpZ (x y : Int) : Int := if x < y then -1 else if x = y then 0 else 1
theorem cmpZ_lt {x y : Int} (h : x < y) : cmpZ x y = -1 := by unfold cmpZ; rw [if_pos h]
theorem cmpZ_eq {x y : Int} (h : x = y) : cmpZ x y = 0 := by unfold cmpZ; rw [if_neg (by omega), if_pos h]
theorem cmpZ_gt {x y : Int} (h : y < x) : cmpZ x y = 1 := by unfold cmpZ; rw [if_neg (by omega), if_neg (by omega)]
theorem cmpZ_bound (x y : Int) : -1 ≤ cmpZ x y ∧ cmpZ x y ≤ 1 := by unfold cmpZ; split; decide; split <;> decide
theorem cmpZ_anti (x y : Int) : cmpZ y x = -cmpZ x y := by unfold cmpZ; repeat (split <;> try omega)
theorem cmpZ_neg (x y : Int) : (cmpZ x y < 0) ↔ x < y := by unfold cmpZ; repeat (split <;> try omega)

end Go.Proofs.YtbfbmdkgnecfaaaDoor
