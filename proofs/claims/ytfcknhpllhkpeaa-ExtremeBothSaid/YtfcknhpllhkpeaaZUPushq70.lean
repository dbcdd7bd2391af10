/- Texts of these claims, one after the other. -/
import Derived.Test.YtfcknhpllhkpeaaRows
import Derived.Test.YtfcknhpllhkpeaaZUBaseq65
import Derived.Test.YtfcknhpllhkpeaaZUPushq69
namespace Go.Proofs.Ytfcknhpllhkpeaa
open Go.RowKit
set_option linter.unusedVariables false

theorem sliceTailI_run (A : Option Addr) (n k : Nat) (h : 1 ≤ n) (w : World) : (Instr.slice 22 (.slice A n k) (some (.int .i64 1)) none none).run Try.prog w = .ok (.slice (if k = 1 then A else A.map (·.add 2)) (n - 1) (k - 1)) w := by
  have qs := Try.sizeOf41
  have ht := Try.underlying22
  have h1 : (1 : Int) ≤ n := by omega
  simp [Instr.slice, run_underlying ht, Instr.sliceBounds, run_sliceBound, qs, h1]
end Go.Proofs.Ytfcknhpllhkpeaa

namespace Go.Proofs.Ytfcknhpllhkpeaa
open Go.RowKit
set_option linter.unusedVariables false

theorem adE_len (mx : Bool) (t v : Int) (K : List It) : (adE mx t v K).length ≤ K.length + 1 := by
  unfold adE
  have : (poE mx v K).length ≤ K.length := List.length_filter_le _ _
  split
  · omega
  · rw [List.length_append]; simp only [List.length_cons, List.length_nil]; omega
end Go.Proofs.Ytfcknhpllhkpeaa

namespace Go.Proofs.Ytfcknhpllhkpeaa
open Go.RowKit
set_option linter.unusedVariables false

/-- How long a slice is. -/
def lnV : Value → Nat
  | .slice _ n _ => n
  | _ => 0
end Go.Proofs.Ytfcknhpllhkpeaa
