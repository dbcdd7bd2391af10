/- What Advance of package count and of its reference returns. -/
import Derived.Test.YtafkoddgefcpnaaRows
import Derived.Test.YtafkoddgefcpnaaZCClockq81
import Derived.Test.YtafkoddgefcpnaaZIBaseq115
namespace Go.Proofs.Ytafkoddgefcpnaa
open Go.RowKit
set_option linter.unusedVariables false

theorem adv_no {now td : Int} (ht : tickB now = true) (h : td < now ∨ 16777216 < td) : (if tickB now = true then (if td < now ∨ 16777216 < td then ((0 : Int), (3 : Int)) else (td, 0)) else (0, 1)) = (0, 3) := by rw [if_pos ht, if_pos h]
end Go.Proofs.Ytafkoddgefcpnaa
