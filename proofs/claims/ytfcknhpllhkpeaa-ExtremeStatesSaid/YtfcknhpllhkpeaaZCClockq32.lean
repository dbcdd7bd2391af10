/- The functions of package clock that take no list, and those of its reference: what each returns, as one plain function. -/
import Derived.Test.YtfcknhpllhkpeaaRows
import Derived.Test.YtfcknhpllhkpeaaZCClockq29
import Derived.Test.YtfcknhpllhkpeaaZCClockq31
namespace Go.Proofs.Ytfcknhpllhkpeaa
open Go.RowKit

/-- What Back returns, and what Advance does. -/
def backE (now td : Int) : Int := if td < now ∨ 16777216 < td then 3 else 0
theorem rback_any (now td : Int) (w : World) :
    Calls Try.prog 35 #[.int .i64 now, .int .i64 td] w fun e w' => e = .returned (.int .i64 (backE now td)) ∧ w = w' := by
  by_cases h : td < now
  · have e1 : backE now td = 3 := if_pos (Or.inl h)
    rw [e1]; clear e1
    go_enter Try.func35, Try.ntmps35
    go_wp2
    go_ret
    exact ⟨rfl, rfl⟩
  · by_cases k : 16777216 < td
    · have e1 : backE now td = 3 := if_pos (Or.inr k)
      rw [e1]; clear e1
      go_enter Try.func35, Try.ntmps35
      go_wp2
      go_ret
      exact ⟨rfl, rfl⟩
    · have e1 : backE now td = 0 := if_neg (by omega)
      rw [e1]; clear e1
      go_enter Try.func35, Try.ntmps35
      go_wp2
      go_ret
      exact ⟨rfl, rfl⟩

end Go.Proofs.Ytfcknhpllhkpeaa
