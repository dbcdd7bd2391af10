/- Same of the reference of layer 15; few and awake of the laws. -/
import Derived.Test.YtinjainclhfahaaRows
import Derived.Test.YtinjainclhfahaaZPRValq114
import Derived.Test.YtinjainclhfahaaZPSameq123
namespace Go.Proofs.Ytinjainclhfahaa
open Go.RowKit
set_option linter.unusedVariables false

theorem few15_up (p l c : Int) (n k : Nat) (A : Option Addr) (w : World) :
    Calls Try.prog 13 #[.agg #[.int .i64 p, .int .i64 l, .int .i64 c, .slice A n k]] w fun e w' => e = .returned (.bool (decide ((n : Int) ≤ 50))) ∧ Up w w' := by
  by_cases h : (n : Int) ≤ 50
  · rw [decide_eq_true h]
    have h2 : n ≤ 50 := by omega
    go_enter Try.func13, Try.ntmps13
    go_wp2_with fail
    go_ret
    exact ⟨rfl, (Up.refl w).alloc _ _⟩
  · rw [decide_eq_false h]
    have f1 : decide ((n : Int) ≤ 50) = false := decide_eq_false h
    have f2 : decide (n ≤ 50) = false := decide_eq_false (by omega)
    go_enter Try.func13, Try.ntmps13
    go_wp2_with fail
    go_ret
    exact ⟨rfl, (Up.refl w).alloc _ _⟩
end Go.Proofs.Ytinjainclhfahaa
