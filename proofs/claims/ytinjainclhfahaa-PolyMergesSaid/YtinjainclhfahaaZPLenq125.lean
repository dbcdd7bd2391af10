/- How long the results of package poly are. -/
import Derived.Test.YtinjainclhfahaaRows
import Derived.Test.YtinjainclhfahaaZPAskq117
import Derived.Test.YtinjainclhfahaaZPBaseq99
import Derived.Test.YtinjainclhfahaaZPRValq114
import Derived.Test.YtinjainclhfahaaZPRebq110
import Derived.Test.YtinjainclhfahaaZPRowq106
namespace Go.Proofs.Ytinjainclhfahaa
open Go.RowKit
set_option linter.unusedVariables false

theorem mrgQ_len (p l c : Int) (X : List Int) (p' l' c' : Int) (Y : List Int) : (mrgQ p l c X p' l' c' Y).2.2.2.1.length ≤ X.length := by
  unfold mrgQ; repeat' split
  all_goals simp [noQ, plP, reP, byL_len]
end Go.Proofs.Ytinjainclhfahaa
