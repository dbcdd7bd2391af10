/- Same of the reference of layer 17; few and awake of the laws. -/
import Derived.Test.YtfcknhpllhkpeaaRows
import Derived.Test.YtfcknhpllhkpeaaZURefq83
import Derived.Test.YtfcknhpllhkpeaaZUSameq86
namespace Go.Proofs.Ytfcknhpllhkpeaa
open Go.RowKit
set_option linter.unusedVariables false

theorem avX_len (mx : Bool) (v c now : Int) (K : List It) (t : Int) : (avX mx v c now K t).2.2.2.2.1.length ≤ K.length := by
  unfold avX
  split
  · split
    · exact Nat.zero_le _
    · exact livL_len K t v
  · exact Nat.zero_le _
theorem anX_len (mx : Bool) (v c now : Int) (K : List It) (x : Int) : (anX mx v c now K x).2.2.2.2.1.length ≤ K.length + 1 := by
  unfold anX
  split
  · split
    · split
      · exact adE_len mx now x K
      · exact Nat.zero_le _
    · exact Nat.zero_le _
  · exact Nat.zero_le _
end Go.Proofs.Ytfcknhpllhkpeaa
