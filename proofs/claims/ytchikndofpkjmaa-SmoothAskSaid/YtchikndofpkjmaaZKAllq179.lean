/- Advance and Add of package smooth and of its reference: one contract for all cases. New: both. -/
import Derived.Test.YtchikndofpkjmaaRows
import Derived.Test.YtchikndofpkjmaaZKAllq176
import Derived.Test.YtchikndofpkjmaaZKAskq159
namespace Go.Proofs.Ytchikndofpkjmaa
open Go.RowKit
set_option linter.unusedVariables false

theorem akM_agg (b : Bool) (p : Int × Int) : ∃ x0 x1 x2 x3 x4 x5 e0, akM b p = .tuple #[.agg #[.int .i64 x0, .int .i64 x1, .int .i64 x2, .int .i64 x3, .int .i64 x4, .int .i64 x5], .int .i64 e0] := by
  unfold akM
  cases b
  · exact ⟨_, _, _, _, _, _, _, rfl⟩
  · exact ⟨_, _, _, _, _, _, _, rfl⟩
end Go.Proofs.Ytchikndofpkjmaa
