/- Monotonic deques: what the functions return, as plain results, and their steps over items. No program is named here. -/
import Derived.Test.YtfcknhpllhkpeaaRows
import Derived.Test.YtfcknhpllhkpeaaZELive2q36
import Derived.Test.YtfcknhpllhkpeaaZUStq46
namespace Go.Proofs.Ytfcknhpllhkpeaa
open Go.RowKit
set_option linter.unusedVariables false

/-- What a valid state has is what no other one rules out. -/
theorem stX_kd {mx : Bool} {v c now : Int} {K : List It} (h : stX mx v c now K = true) : KdE mx K K := KdE.self (stX_is h).2.2.2
theorem add_kp {mx : Bool} {v c now x : Int} {K : List It} (h : stX mx v c now K = true) : kpX mx (K ++ [(now, x)]) = adE mx now x K := by
  obtain ⟨h1, h2, h3, h4⟩ := stX_is h
  obtain ⟨ht, hv, _⟩ := mayB_true h1
  exact kpX_eq (KdE.add (stX_kd h) (fun y hy => ((liveB_iff ht hv).1 (h3 y hy).1).2.2))
end Go.Proofs.Ytfcknhpllhkpeaa
