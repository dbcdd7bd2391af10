/- Monotonic deques: what the functions return, as plain results, and their steps over items. No program is named here. -/
import Derived.Test.YtfcknhpllhkpeaaRows
import Derived.Test.YtfcknhpllhkpeaaZESqq27
import Derived.Test.YtfcknhpllhkpeaaZFBaseq41
namespace Go.Proofs.Ytfcknhpllhkpeaa
open Go.RowKit
set_option linter.unusedVariables false

def mgX (mx : Bool) (v c now : Int) (K : List It) (mx' : Bool) (v' c' now' : Int) (K' : List It) : QX :=
  if stX mx v c now K = true then (if stX mx' v' c' now' K' = true then (if mx = mx' ∧ v = v' ∧ now = now' then (if ((kpX mx (K ++ K')).length : Int) ≤ max c c' then (mx, v, max c c', now, kpX mx (K ++ K'), 0) else noX 5) else noX 1) else noX 2) else noX 2
end Go.Proofs.Ytfcknhpllhkpeaa
