/- What Advance of package count and of its reference returns. -/
import Derived.Test.YtchikndofpkjmaaRows
import Derived.Test.YtchikndofpkjmaaZCClockq49
import Derived.Test.YtchikndofpkjmaaZFBaseq71
import Derived.Test.YtchikndofpkjmaaZKMemq97
namespace Go.Proofs.Ytchikndofpkjmaa
open Go.RowKit
set_option linter.unusedVariables false

theorem adv_no {now td : Int} (ht : tickB now = true) (h : td < now ∨ 16777216 < td) : (if tickB now = true then (if td < now ∨ 16777216 < td then ((0 : Int), (3 : Int)) else (td, 0)) else (0, 1)) = (0, 3) := by rw [if_pos ht, if_pos h]
end Go.Proofs.Ytchikndofpkjmaa
