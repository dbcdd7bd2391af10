/- The functions of package clock that take no list, and those of its reference: what each returns, as one plain function. -/
import Derived.Test.YtfcknhpllhkpeaaRows
import Derived.Test.YtfcknhpllhkpeaaZCClockq28
namespace Go.Proofs.Ytfcknhpllhkpeaa
open Go.RowKit

theorem winB_low {t : Int} (h : t < 1) : winB t = false := decide_eq_false (by omega)
theorem winB_high {t : Int} (h : 1048576 < t) : winB t = false := decide_eq_false (by omega)
theorem rtick_any (t : Int) (w : World) :
    Calls Try.prog 51 #[.int .i64 t] w fun e w' => e = .returned (.bool (tickB t)) ∧ w = w' := by
  by_cases h : 0 ≤ t
  · by_cases k : t ≤ 16777216
    · rw [tickB_yes h k]
      go_enter Try.func51, Try.ntmps51
      go_wp2
      go_ret
      exact ⟨rfl, rfl⟩
    · rw [tickB_high (by omega)]
      go_enter Try.func51, Try.ntmps51
      go_wp2
      go_ret
      exact ⟨rfl, rfl⟩
  · rw [tickB_low (by omega)]
    go_enter Try.func51, Try.ntmps51
    go_wp2
    go_ret
    exact ⟨rfl, rfl⟩
theorem rwin_any (t : Int) (w : World) :
    Calls Try.prog 50 #[.int .i64 t] w fun e w' => e = .returned (.bool (winB t)) ∧ w = w' := by
  by_cases h : 1 ≤ t
  · by_cases k : t ≤ 1048576
    · rw [winB_yes h k]
      go_enter Try.func50, Try.ntmps50
      go_wp2
      go_ret
      exact ⟨rfl, rfl⟩
    · rw [winB_high (by omega)]
      go_enter Try.func50, Try.ntmps50
      go_wp2
      go_ret
      exact ⟨rfl, rfl⟩
  · rw [winB_low (by omega)]
    go_enter Try.func50, Try.ntmps50
    go_wp2
    go_ret
    exact ⟨rfl, rfl⟩
end Go.Proofs.Ytfcknhpllhkpeaa
