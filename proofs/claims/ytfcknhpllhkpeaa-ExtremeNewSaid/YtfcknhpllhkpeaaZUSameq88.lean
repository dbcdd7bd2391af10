/- Same of the reference of layer 17; few and awake of the laws. -/
import Derived.Test.YtfcknhpllhkpeaaRows
import Derived.Test.YtfcknhpllhkpeaaZUBaseq66
import Derived.Test.YtfcknhpllhkpeaaZUSameq85
namespace Go.Proofs.Ytfcknhpllhkpeaa
open Go.RowKit
set_option linter.unusedVariables false

theorem nwX_len (mx : Bool) (v c now : Int) : (nwX mx v c now).2.2.2.2.1.length ≤ 0 := by
  unfold nwX; split <;> exact Nat.le_refl _
end Go.Proofs.Ytfcknhpllhkpeaa
