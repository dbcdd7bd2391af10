/- Plain facts on integers that Go's int64 numbers and their checked results come to. No program is named here. -/
import Derived.Test.YtfcknhpllhkpeaaZWMathq0
namespace Go.Proofs.Ytfcknhpllhkpeaa

/-! ### Quotients -/
/-! ### The quotients rounded down and up, and the remainder -/
def rest (a b : Int) : Int := if a.tmod b ≠ 0 ∧ ¬ (a < 0 ↔ b < 0) then a.tmod b + b else a.tmod b
/-! ### Products -/
/-! ### The greatest common divisor -/
/-! ### Powers -/
/-! ### Square roots -/
/-! ### Binary digits -/
end Go.Proofs.Ytfcknhpllhkpeaa
