/- Same of the reference of layer 17; few and awake of the laws. -/
import Derived.Test.YtfcknhpllhkpeaaRows
import Derived.Test.YtfcknhpllhkpeaaZURefq81
import Derived.Test.YtfcknhpllhkpeaaZUSameq85
import Derived.Test.YtfcknhpllhkpeaaZUValq68
namespace Go.Proofs.Ytfcknhpllhkpeaa
open Go.RowKit
set_option linter.unusedVariables false

theorem few17_up (mx : Bool) (v c now : Int) (n k : Nat) (A : Option Addr) (w : World) :
    Calls Try.prog 13 #[.agg #[.bool mx, .int .i64 v, .int .i64 c, .int .i64 now, .slice A n k]] w fun e w' => e = .returned (.bool (decide ((n : Int) ≤ 200))) ∧ Up w w' := by
  by_cases h : (n : Int) ≤ 200
  · rw [decide_eq_true h]
    have h2 : n ≤ 200 := by omega
    go_enter Try.func13, Try.ntmps13
    go_wp2_with fail
    go_ret
    exact ⟨rfl, (Up.refl w).alloc _ _⟩
  · rw [decide_eq_false h]
    have f1 : decide ((n : Int) ≤ 200) = false := decide_eq_false h
    have f2 : decide (n ≤ 200) = false := decide_eq_false (by omega)
    go_enter Try.func13, Try.ntmps13
    go_wp2_with fail
    go_ret
    exact ⟨rfl, (Up.refl w).alloc _ _⟩
end Go.Proofs.Ytfcknhpllhkpeaa
