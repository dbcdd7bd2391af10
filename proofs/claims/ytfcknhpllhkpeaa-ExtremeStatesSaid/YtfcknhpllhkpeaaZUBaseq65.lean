/- Package extreme: functions without a loop; New of both. -/
import Derived.Test.YtfcknhpllhkpeaaRows
import Derived.Test.YtfcknhpllhkpeaaZUBaseq64
import Derived.Test.YtfcknhpllhkpeaaZUMemq58
namespace Go.Proofs.Ytfcknhpllhkpeaa
open Go.RowKit
set_option linter.unusedVariables false

theorem sg_yes' (a b : Int) : decide (sgE true a < sgE true b) = decide (a < b) := rfl
theorem sg_no' (a b : Int) : decide (sgE false a < sgE false b) = decide (b < a) := decide_eq_decide.2 (show -a < -b ↔ b < a by omega)
theorem better17_any (mx : Bool) (a b : Int) (w : World) :
    Calls Try.prog 45 #[.bool mx, .int .i64 a, .int .i64 b] w fun e w' => e = .returned (.bool (decide (sgE mx b < sgE mx a))) ∧ w = w' := by
  cases mx
  · rw [sg_no']
    by_cases h : a < b
    · rw [decide_eq_true h]
      have f : decide (a < b) = true := decide_eq_true h
      go_enter Try.func45, Try.ntmps45
      go_wp2_with fail
      go_ret
      exact ⟨rfl, rfl⟩
    · rw [decide_eq_false h]
      have f : decide (a < b) = false := decide_eq_false h
      go_enter Try.func45, Try.ntmps45
      go_wp2_with fail
      go_ret
      exact ⟨rfl, rfl⟩
  · rw [sg_yes']
    by_cases h : b < a
    · rw [decide_eq_true h]
      have f : decide (b < a) = true := decide_eq_true h
      go_enter Try.func45, Try.ntmps45
      go_wp2_with fail
      go_ret
      exact ⟨rfl, rfl⟩
    · rw [decide_eq_false h]
      have f : decide (b < a) = false := decide_eq_false h
      go_enter Try.func45, Try.ntmps45
      go_wp2_with fail
      go_ret
      exact ⟨rfl, rfl⟩
end Go.Proofs.Ytfcknhpllhkpeaa
