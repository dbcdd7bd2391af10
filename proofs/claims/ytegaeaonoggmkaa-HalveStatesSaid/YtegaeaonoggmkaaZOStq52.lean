/- Decay by halving: what the functions return, as plain results, and their steps over items. No program is named here. -/
import Derived.Test.YtegaeaonoggmkaaRows
import Derived.Test.YtegaeaonoggmkaaZCClockq43
import Derived.Test.YtegaeaonoggmkaaZETotalq39
import Derived.Test.YtegaeaonoggmkaaZOMathq28
namespace Go.Proofs.Ytegaeaonoggmkaa
open Go.RowKit
set_option linter.unusedVariables false

theorem avR_len (now : Int) (S : List Int) (t : Int) : (avR now S t).2.1.length ≤ S.length := by
  unfold avR; repeat' split
  all_goals simp [noH, avH_len]
theorem anR_len (now : Int) (S : List Int) (v : Int) : (anR now S v).2.1.length ≤ S.length := by
  unfold anR; repeat' split
  all_goals simp [noH, anH_len]
end Go.Proofs.Ytegaeaonoggmkaa
