/- Package extreme: deques of items, and variables with such a state. -/
import Derived.Test.YtfcknhpllhkpeaaRows
import Derived.Test.YtfcknhpllhkpeaaZUAddq79
import Derived.Test.YtfcknhpllhkpeaaZUPlayq115
namespace Go.Proofs.Ytfcknhpllhkpeaa
open Go.RowKit
set_option linter.unusedVariables false

theorem dq_mrg {mx : Bool} {v now : Int} {A B : List It} (hv : 1 ≤ v ∧ v ≤ 25) (hn : 0 ≤ now ∧ now ≤ 16777216) (hA : okQ now A) (hB : okQ now B) : mgX mx v 200 now (dqX mx v now A) mx v 200 now (dqX mx v now B) = (mx, v, 200, now, dqX mx v now (A ++ B), 0) := by
  unfold mgX
  have := dq_len17 (mx := mx) (M := A ++ B) hv hn
  rw [if_pos (dq_st17 hv hn hA), if_pos (dq_st17 hv hn hB), if_pos ⟨rfl, rfl, rfl⟩, dqX_mrg, if_pos (by omega)]
  rfl
theorem dqM_up (mx : Bool) (v now : Int) (M N : List It) (hv : 1 ≤ v ∧ v ≤ 25) (hn : 0 ≤ now ∧ now ≤ 16777216) (ho : okQ now M) (hq : okQ now N) (W : World) (A : Option Addr) (k : Nat) (B : Option Addr) (j : Nat) (hk : (dqX mx v now M).length ≤ k) (hj : (dqX mx v now N).length ≤ j) (hS : Sl W A (dqX mx v now M).length (dqX mx v now M)) (hT : Sl W B (dqX mx v now N).length (dqX mx v now N)) :
    Calls Try.prog 22 #[.agg #[.bool mx, .int .i64 v, .int .i64 200, .int .i64 now, .slice A (dqX mx v now M).length k], .agg #[.bool mx, .int .i64 v, .int .i64 200, .int .i64 now, .slice B (dqX mx v now N).length j]] W fun e W' => DqR mx v now (dqX mx v now (M ++ N)) W e W' :=
  (merge17_up mx v 200 now _ k A _ mx v 200 now _ j B _ (by have := dq_len17 (mx := mx) (M := M) hv hn; omega) (by have := dq_len17 (mx := mx) (M := N) hv hn; omega) hk hj W hS hT).mono (fun e w' h => by rw [dq_mrg hv hn ho hq] at h; exact h)
section
variable {w W W' : World} {p q : Nat} {mx mx' : Bool} {v c now v' c' now' : Int} {X Y : List It} {A B : Option Addr} {k j n m : Nat}
end
end Go.Proofs.Ytfcknhpllhkpeaa
