/- What Poly of package exact and of its reference return. -/
import Derived.Test.YtafkoddgefcpnabRows
import Derived.Test.YtafkoddgefcpnabZHRowq32
import Derived.Test.YtafkoddgefcpnabZWMul2q60
namespace Go.Proofs.Ytafkoddgefcpnab
open Go.RowKit

theorem fit2_in2 (v : Int) : In2 (fit2 v) := by
  unfold fit2
  by_cases h : fits2 v = true
  · rw [if_pos h]; exact (of_decide_eq_true h : 0 ≤ v ∧ v < 340282366920938463463374607431768211456)
  · rw [if_neg h]; exact ⟨by decide, by decide⟩
end Go.Proofs.Ytafkoddgefcpnab
