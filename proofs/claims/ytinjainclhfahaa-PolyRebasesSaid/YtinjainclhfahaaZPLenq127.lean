/- How long the results of package poly are. -/
import Derived.Test.YtinjainclhfahaaRows
import Derived.Test.YtinjainclhfahaaZPAddq112
import Derived.Test.YtinjainclhfahaaZPAskq117
import Derived.Test.YtinjainclhfahaaZPRValq114
import Derived.Test.YtinjainclhfahaaZPStq85
namespace Go.Proofs.Ytinjainclhfahaa
open Go.RowKit
set_option linter.unusedVariables false

theorem rebQ_len (p l c : Int) (X : List Int) (t : Int) : (rebQ p l c X t).2.2.2.1.length ≤ X.length := by
  unfold rebQ; repeat' split
  all_goals simp [noQ, reP, byL_len]
end Go.Proofs.Ytinjainclhfahaa
