/- What squares and Squares of package exact return, and awake of the laws of layer 8. -/
import Derived.Test.YtfcknhpllhkpeaaRows
import Derived.Test.YtfcknhpllhkpeaaZESqq25
namespace Go.Proofs.Ytfcknhpllhkpeaa
open Go.RowKit

theorem take_next {L : List It} {i : Nat} (hi : i < L.length) : L.take (i + 1) = L.take i ++ [L.getD i (0, 0)] := by rw [List.take_add_one]; simp [List.getD, hi]
end Go.Proofs.Ytfcknhpllhkpeaa
