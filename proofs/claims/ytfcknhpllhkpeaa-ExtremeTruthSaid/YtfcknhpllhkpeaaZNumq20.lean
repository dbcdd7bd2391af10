/- What each function of package num, and each of its reference, returns: the contracts that the laws of layer 1 are proved from. -/
import Derived.Test.YtfcknhpllhkpeaaRows
import Derived.Test.YtfcknhpllhkpeaaZMathq9
import Derived.Test.YtfcknhpllhkpeaaZNumq19
namespace Go.Proofs.Ytfcknhpllhkpeaa
open Go.RowKit

/-- A checked result: the number and true, or 0 and false. -/
abbrev got (x : Int) (ok : Bool) : Ending := .returned (.tuple #[.int .i64 x, .bool ok])

/-! ### The reference's sums -/
end Go.Proofs.Ytfcknhpllhkpeaa
