/- Results of package extreme with a row of items; rows that are cut; an empty row with room; a copy of a row. -/
import Derived.Test.YtfcknhpllhkpeaaRows
import Derived.Test.YtfcknhpllhkpeaaZFBaseq42
import Derived.Test.YtfcknhpllhkpeaaZUMemq57
namespace Go.Proofs.Ytfcknhpllhkpeaa
open Go.RowKit
set_option linter.unusedVariables false

theorem RsX.t {q : QX} {w w' : World} {e : Ending} (h : RsX q w e w') : RsXO q w e w' := by obtain ⟨A, k, h1, _, h2, h3⟩ := h; exact ⟨A, k, h1, h2, h3⟩
end Go.Proofs.Ytfcknhpllhkpeaa
