/- How long the results of package poly are. -/
import Derived.Test.YtinjainclhfahaaRows
import Derived.Test.YtinjainclhfahaaZPAskq118
namespace Go.Proofs.Ytinjainclhfahaa
open Go.RowKit
set_option linter.unusedVariables false

theorem advQ_len (p l c : Int) (X : List Int) (t : Int) : (advQ p l c X t).2.2.2.1.length ≤ X.length := by
  unfold advQ; repeat' split
  all_goals simp [noQ]
theorem addQ_len (p l c : Int) (X : List Int) (t : Int) : (addQ p l c X t).2.2.2.1.length ≤ X.length := by
  unfold addQ; repeat' split
  all_goals simp [noQ, adP, byL_len]
theorem akP_agg (p l c : Int) (X : List Int) : ∃ a b d e r, akP p l c X = .tuple #[.agg #[.int .u64 a, .int .u64 b, .int .u64 d, .int .u64 e], .int .i64 r] := by
  unfold akP; split
  · exact ⟨_, _, _, _, _, rfl⟩
  · exact ⟨_, _, _, _, _, rfl⟩
end Go.Proofs.Ytinjainclhfahaa
