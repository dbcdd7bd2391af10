/- Rows of int64 with stores; what functions with a state of a tick and sums return. No function of a program is named here. -/
import Derived.Test.YtegaeaonoggmkaaRows
import Derived.Test.YtegaeaonoggmkaaZIMathq72
namespace Go.Proofs.Ytegaeaonoggmkaa
open Go.RowKit
set_option linter.unusedVariables false

theorem RsH.t {q : QH} {w w' : World} {e : Ending} (h : RsH q w e w') : RsHO q w e w' := by obtain ⟨A, k, h1, _, h2, h3⟩ := h; exact ⟨A, k, h1, h2, h3⟩
end Go.Proofs.Ytegaeaonoggmkaa
