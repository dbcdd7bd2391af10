/- Decay by halving: what the functions return, as plain results, and their steps over items. No program is named here. -/
import Derived.Test.YtegaeaonoggmkaaRows
import Derived.Test.YtegaeaonoggmkaaZGLawq36
import Derived.Test.YtegaeaonoggmkaaZOStq46
import Derived.Test.YtegaeaonoggmkaaZPStq21
namespace Go.Proofs.Ytegaeaonoggmkaa
open Go.RowKit
set_option linter.unusedVariables false

theorem mgR_len (now : Int) (S : List Int) (now' : Int) (T : List Int) : (mgR now S now' T).2.1.length ≤ S.length := by
  unfold mgR; repeat' split
  all_goals simp [noH, mgH_len]
end Go.Proofs.Ytegaeaonoggmkaa
