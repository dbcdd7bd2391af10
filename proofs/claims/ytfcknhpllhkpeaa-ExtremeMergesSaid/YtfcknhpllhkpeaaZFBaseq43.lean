/- The numbers of package recent: which parameters, values and states are valid; what the functions on numbers return. -/
import Derived.Test.YtfcknhpllhkpeaaRows
import Derived.Test.YtfcknhpllhkpeaaZCClockq31
import Derived.Test.YtfcknhpllhkpeaaZFBaseq42
namespace Go.Proofs.Ytfcknhpllhkpeaa
open Go.RowKit

theorem rvalue_any (v : Int) (w : World) : Calls Try.prog 41 #[.int .i64 v] w fun e w' => e = .returned (.bool (valueB v)) ∧ w = w' := by
  by_cases h1 : -4096 ≤ v
  · by_cases h2 : v ≤ 4096
    · rw [show valueB v = true from decide_eq_true ⟨h1, h2⟩]
      go_enter Try.func41, Try.ntmps41
      go_wp2
      go_ret
      exact ⟨rfl, rfl⟩
    · rw [show valueB v = false from decide_eq_false (fun h => h2 h.2)]
      go_enter Try.func41, Try.ntmps41
      go_wp2
      go_ret
      exact ⟨rfl, rfl⟩
  · rw [show valueB v = false from decide_eq_false (fun h => h1 h.1)]
    go_enter Try.func41, Try.ntmps41
    go_wp2
    go_ret
    exact ⟨rfl, rfl⟩

end Go.Proofs.Ytfcknhpllhkpeaa
