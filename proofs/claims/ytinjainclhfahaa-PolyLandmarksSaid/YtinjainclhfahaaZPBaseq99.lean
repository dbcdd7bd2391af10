/- Texts of these claims, one after the other. -/
import Derived.Test.YtinjainclhfahaaRows
import Derived.Test.YtinjainclhfahaaZPAppq77
import Derived.Test.YtinjainclhfahaaZPBaseq96
import Derived.Test.YtinjainclhfahaaZPFrameq74
import Derived.Test.YtinjainclhfahaaZPStq85
namespace Go.Proofs.Ytinjainclhfahaa
open Go.RowKit
set_option linter.unusedVariables false

def mrgQ (p l c : Int) (X : List Int) (p' l' c' : Int) (Y : List Int) : Q5 := if stP p l c X = true then (if stP p' l' c' Y = true then (if p = p' ∧ c = c' then (if (fitL (reP (l - min l l') X) && fitL (reP (l' - min l l') Y) && fitL (plP (reP (l - min l l') X) (reP (l' - min l l') Y))) = true then (p, min l l', c, plP (reP (l - min l l') X) (reP (l' - min l l') Y), 0) else noQ 6) else noQ 1) else noQ 2) else noQ 2
end Go.Proofs.Ytinjainclhfahaa

namespace Go.Proofs.Ytinjainclhfahaa
open Go.RowKit
set_option linter.unusedVariables false

theorem Rs.of_no {e : Int} {w w' : World} {v : Ending} (h : Rs (noQ e) w v w') : ∃ (A : Option Addr) (k : Nat), v = .returned (.tuple #[.agg #[.int .i64 0, .int .i64 0, .int .i64 0, .slice A 0 k], .int .i64 e]) ∧ Up w w' := by
  obtain ⟨A, k, h1, _, _, h4⟩ := h; exact ⟨A, k, h1, h4⟩
end Go.Proofs.Ytinjainclhfahaa
