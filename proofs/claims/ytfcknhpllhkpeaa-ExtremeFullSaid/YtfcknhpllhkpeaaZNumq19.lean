/- What each function of package num, and each of its reference, returns: the contracts that the laws of layer 1 are proved from. -/
import Derived.Test.YtfcknhpllhkpeaaRows
import Derived.Test.YtfcknhpllhkpeaaZWMathq0
namespace Go.Proofs.Ytfcknhpllhkpeaa
open Go.RowKit

/-- What the form says of an int64 argument. -/
theorem in_of_wf {x : Int} (h : (Lit.int .i64 x).wf = true) : In x := by
  simp [Lit.wf, IntKind.min, IntKind.max, IntKind.signed, IntKind.bits] at h
  exact ⟨by omega, by omega⟩

/-! ### The reference's sums -/
end Go.Proofs.Ytfcknhpllhkpeaa
