/- Monotonic deques: what the functions return, as plain results, and their steps over items. No program is named here. -/
import Derived.Test.YtfcknhpllhkpeaaRows
import Derived.Test.YtfcknhpllhkpeaaZFBaseq41
namespace Go.Proofs.Ytfcknhpllhkpeaa
open Go.RowKit
set_option linter.unusedVariables false

theorem pw_chain {R : It → It → Prop} {K : List It} (h : K.Pairwise R) {i : Nat} (hi : i + 1 < K.length) : R (K.getD i (0, 0)) (K.getD (i + 1) (0, 0)) := by
  have e : ∀ q (hq : q < K.length), K.getD q (0, 0) = K[q] := fun q hq => by simp [List.getD, hq]
  rw [e _ (by omega), e _ hi]
  exact List.pairwise_iff_getElem.1 h i (i + 1) (by omega) hi (by omega)
def avX (mx : Bool) (v c now : Int) (K : List It) (t : Int) : QX := if stX mx v c now K = true then (if t < now ∨ 16777216 < t then noX 3 else (mx, v, c, t, livL K t v, 0)) else noX 2
end Go.Proofs.Ytfcknhpllhkpeaa
