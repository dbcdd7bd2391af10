/- Clone, plus and older of package halve. -/
import Derived.Test.YtegaeaonoggmkaaRows
import Derived.Test.YtegaeaonoggmkaaZGCallq87
import Derived.Test.YtegaeaonoggmkaaZORowq95
import Derived.Test.YtegaeaonoggmkaaZOStq46
namespace Go.Proofs.Ytegaeaonoggmkaa
open Go.RowKit
set_option linter.unusedVariables false

theorem plH_mg {S T : List Int} (h : S.length = T.length) : plH S T = mgH S T := by
  unfold plH mgH
  exact byL_ext (fun e he => by rw [if_pos (by omega)])
end Go.Proofs.Ytegaeaonoggmkaa
