/- How an argument that is a buffer, an item or a list of items is opened, and read again behind a call. -/
import Derived.Test.YtfcknhpllhkpeaaRows
import Derived.Test.YtfcknhpllhkpeaaZGFrameq5
namespace Go.Proofs.Ytfcknhpllhkpeaa
open Go.ChangeShapes Go.WideShapes Go.ChangeAt Go.RowKit Go.Joins Go.Deep

theorem item_cells : Try.prog.cellsOf 41 = 2 := by kernel_rfl
theorem int64_cells : Try.prog.cellsOf 2 = 1 := by kernel_rfl
section
variable {H : Type} {enc : TypeId × Value → H} {w : World} {base : Nat} {spare : Nat → Bool} {held : Bool}
end
end Go.Proofs.Ytfcknhpllhkpeaa
