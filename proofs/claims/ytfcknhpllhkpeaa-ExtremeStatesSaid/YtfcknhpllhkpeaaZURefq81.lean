/- Advance, Add, Ask and Merge of the reference of layer 17. -/
import Derived.Test.YtfcknhpllhkpeaaRows
import Derived.Test.YtfcknhpllhkpeaaZUAddq77
import Derived.Test.YtfcknhpllhkpeaaZUKeptq80
namespace Go.Proofs.Ytfcknhpllhkpeaa
open Go.RowKit
set_option linter.unusedVariables false

theorem KB2.old17 {b0 b1 : Nat} {w W w2 : World} (h : Up w W) (u : Up w w2) (hb : b0 < w.heap.size) (hc : b1 < w.heap.size) : KB2 b0 b1 w W w2 :=
  ⟨u, ⟨Nat.lt_of_lt_of_le hb u.size, Nat.lt_of_lt_of_le hc u.size⟩, fun o => (u.cells.1 _ o hb).trans (h.cells.1 _ o hb).symm, fun o => (u.cells.1 _ o hc).trans (h.cells.1 _ o hc).symm⟩
end Go.Proofs.Ytfcknhpllhkpeaa
