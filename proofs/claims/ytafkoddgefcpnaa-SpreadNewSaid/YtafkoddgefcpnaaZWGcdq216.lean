/- What the greatest common divisors of package wide, and of its reference, return. -/
import Derived.Test.YtafkoddgefcpnaaRows
import Derived.Test.YtafkoddgefcpnaaZWGcdq215
import Derived.Test.YtafkoddgefcpnaaZWMathq1
namespace Go.Proofs.Ytafkoddgefcpnaa
open Go.RowKit

theorem tests_v {y : Int} (h0 : y ≠ 0) : (hiZ y == 0) = false ∨ ((hiZ y == 0) = true ∧ (loZ y == 0) = false) := by
  by_cases z1 : hiZ y = 0
  · exact Or.inr ⟨beq_iff_eq.2 z1, beq_eq_false_iff_ne.2 (fun h => h0 (by unfold hiZ loZ at *; omega))⟩
  · exact Or.inl (beq_eq_false_iff_ne.2 z1)
end Go.Proofs.Ytafkoddgefcpnaa
