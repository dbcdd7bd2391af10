/- What Within of package bounds returns. -/
import Derived.Test.YtjbgogajnjefmaaGreatZBProduct
import Derived.Test.YtjbgogajnjefmaaGreatZBValid
import Derived.Test.YtjbgogajnjefmaaGreatZBWidth
import Derived.Test.YtjbgogajnjefmaaGreatZRArithm4
import Derived.Test.YtjbgogajnjefmaaGreatZWMathm8
namespace Go.Proofs.YtjbgogajnjefmaaGreat
open Go.RowKit

/-- Whether an interval is narrow against a number. -/
def wiB (n1 d1 n2 d2 n3 d3 k n d : Int) : Bool := bvB n1 d1 n2 d2 n3 d3 && (decide (1 ≤ k) && (validB n d && (decide (0 ≤ n) && decide (wdZ n1 d1 n3 d3 * (k * d) ≤ d1 * d3 * n))))
theorem wiB_main {n1 d1 n2 d2 n3 d3 k n d : Int} (h1 : bvB n1 d1 n2 d2 n3 d3 = true) (h2 : 1 ≤ k) (h3 : validB n d = true) (h4 : 0 ≤ n) : wiB n1 d1 n2 d2 n3 d3 k n d = decide (wdZ n1 d1 n3 d3 * (k * d) ≤ d1 * d3 * n) := by
  unfold wiB; rw [h1, h3, decide_eq_true h2, decide_eq_true h4]; rfl

end Go.Proofs.YtjbgogajnjefmaaGreat
