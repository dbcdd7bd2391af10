/- What each function of package num, and each of its reference, returns: the contracts that the laws of layer 1 are proved from. -/
import Derived.Test.YtnhekeohbnmodaaRows
import Derived.Test.YtnhekeohbnmodaaMath
import Derived.WalkKit
import Derived.WalkSpells
import Derived.Lib.Hide
import Derived.Lib.Mul64
import Derived.RowKit3
namespace Go.Proofs.Ytnhekeohbnmodaa
open Go.RowKit

/-- A checked result: the number and true, or 0 and false. -/
abbrev got (x : Int) (ok : Bool) : Ending := .returned (.tuple #[.int .i64 x, .bool ok])

/-- What the form says of an int64 argument. -/
theorem in_of_wf {x : Int} (h : (Lit.int .i64 x).wf = true) : In x := by
  simp [Lit.wf, IntKind.min, IntKind.max, IntKind.signed, IntKind.bits] at h
  exact ⟨by omega, by omega⟩

/-! ### The reference's sums -/
end Go.Proofs.Ytnhekeohbnmodaa
