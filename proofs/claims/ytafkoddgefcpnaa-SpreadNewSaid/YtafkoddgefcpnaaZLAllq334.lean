/- What the laws of package spread use of both sides. -/
import Derived.Test.YtafkoddgefcpnaaRows
import Derived.Test.YtafkoddgefcpnaaZLValq327
namespace Go.Proofs.Ytafkoddgefcpnaa
open Go.RowKit
set_option linter.unusedVariables false

theorem new14_both (v q c now : Int) : ∃ a0 a1 a2 a3 a4 e0 : Int,
    (∀ W, Calls Try.prog 39 #[.int .i64 v, .int .i64 q, .int .i64 c, .int .i64 now] W fun e w' => e = .returned (.tuple #[.agg #[.int .i64 a0, .int .i64 a1, .int .i64 a2, .int .i64 a3, .int .i64 a4, .slice none 0 0], .int .i64 e0]) ∧ Up W w') ∧
    (∀ W, Calls Try.prog 40 #[.int .i64 v, .int .i64 q, .int .i64 c, .int .i64 now] W fun e w' => e = .returned (.tuple #[.agg #[.int .i64 a0, .int .i64 a1, .int .i64 a2, .int .i64 a3, .int .i64 a4, .slice none 0 0], .int .i64 e0]) ∧ Up W w') := by
  cases h : mayC v q c now with
  | false => exact ⟨0, 0, 0, 0, 0, 1, fun W => new14_no v q c now h W, fun W => rnew14_no v q c now h W⟩
  | true => exact ⟨v, q, c, now, 0, 0, fun W => new14_yes v q c now h W, fun W => rnew14_yes v q c now h W⟩
end Go.Proofs.Ytafkoddgefcpnaa
