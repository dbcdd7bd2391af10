/- What Gap, Value, Items and Live of the verifier's package made return. -/
import Derived.Test.YtfcknhpllhkpeaaRows
import Derived.Test.YtfcknhpllhkpeaaZESqq26
import Derived.Test.YtfcknhpllhkpeaaZFMadeq98
import Derived.Test.YtfcknhpllhkpeaaZUMathq14
namespace Go.Proofs.Ytfcknhpllhkpeaa
open Go.RowKit

/-- The items in the window, by the verifier's own function. -/
def mlL (L : List It) (now v : Int) : List It := L.filter (fun x => decide (now - v < x.1) && decide (x.1 ≤ now))
theorem mlL_take {L : List It} {i : Nat} (hi : i < L.length) (now v : Int) : mlL (L.take (i + 1)) now v = mlL (L.take i) now v ++ (if (decide (now - v < (L.getD i (0, 0)).1) && decide ((L.getD i (0, 0)).1 ≤ now)) = true then [L.getD i (0, 0)] else []) := by
  unfold mlL; rw [take_next hi, List.filter_append]
  by_cases h : (decide (now - v < (L.getD i (0, 0)).1) && decide ((L.getD i (0, 0)).1 ≤ now)) = true
  · rw [if_pos h, List.filter_cons, if_pos h]; rfl
  · rw [if_neg h, List.filter_cons, if_neg h]; rfl

end Go.Proofs.Ytfcknhpllhkpeaa
