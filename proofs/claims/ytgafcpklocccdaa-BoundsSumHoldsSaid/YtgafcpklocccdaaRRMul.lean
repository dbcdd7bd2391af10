/- What Mul and Div of the reference of package ratio return. -/
import Derived.Test.YtgafcpklocccdaaRKeep
namespace Go.Proofs.Ytgafcpklocccdaa
open Go.RowKit

theorem xzero {x : Int} (h : x = 0) : (hiZ x == 0) = true ∧ (loZ x == 0) = true := by subst h; decide
/-- The ways to the sign of a quotient. -/
theorem sign_ways (n m x : Int) (E : Bool → Prop) (h : E (decide (n < 0) != decide (m < 0))) (hz : x = 0 → E false) :
    (decide (n < 0) = false ∧ decide (m < 0) = false ∧ E false) ∨ (decide (n < 0) = true ∧ decide (m < 0) = true ∧ E false) ∨
    (decide (n < 0) = true ∧ decide (m < 0) = false ∧ (hiZ x == 0) = true ∧ (loZ x == 0) = true ∧ E false) ∨ (decide (n < 0) = false ∧ decide (m < 0) = true ∧ (hiZ x == 0) = true ∧ (loZ x == 0) = true ∧ E false) ∨
    (decide (n < 0) = true ∧ decide (m < 0) = false ∧ (hiZ x == 0) = false ∧ E true) ∨ (decide (n < 0) = false ∧ decide (m < 0) = true ∧ (hiZ x == 0) = false ∧ E true) ∨
    (decide (n < 0) = true ∧ decide (m < 0) = false ∧ (hiZ x == 0) = true ∧ (loZ x == 0) = false ∧ E true) ∨ (decide (n < 0) = false ∧ decide (m < 0) = true ∧ (hiZ x == 0) = true ∧ (loZ x == 0) = false ∧ E true) := by
  generalize decide (n < 0) = a at *
  generalize decide (m < 0) = b at *
  by_cases hx : x = 0
  · obtain ⟨x1, x2⟩ := xzero hx
    rw [x1, x2]
    have := hz hx
    cases a <;> cases b <;> simp_all
  · rcases tests_v hx with x1 | ⟨x1, x2⟩
    · rw [x1]; cases a <;> cases b <;> simp_all
    · rw [x1, x2]; cases a <;> cases b <;> simp_all
theorem sz_scale (s : Bool) (x y : Int) : sz s (x * y) = sz s x * y := by
  cases s
  · rfl
  · show -(x * y) = -x * y; rw [Int.neg_mul]
theorem sz_swap (n m : Int) : sz (decide (n < 0) != decide (m < 0)) (n.natAbs : Int) * m = n * (m.natAbs : Int) := by
  by_cases h1 : n < 0 <;> by_cases h2 : m < 0
  · rw [decide_eq_true h1, decide_eq_true h2]; show (n.natAbs : Int) * m = _
    rw [show (n.natAbs : Int) = -n by omega, show (m.natAbs : Int) = -m by omega, Int.neg_mul, Int.mul_neg]
  · rw [decide_eq_true h1, decide_eq_false h2]; show -(n.natAbs : Int) * m = _
    rw [show -(n.natAbs : Int) = n by omega, show (m.natAbs : Int) = m by omega]
  · rw [decide_eq_false h1, decide_eq_true h2]; show -(n.natAbs : Int) * m = _
    rw [show (n.natAbs : Int) = n by omega, show (m.natAbs : Int) = -m by omega, Int.neg_mul, Int.mul_neg]
  · rw [decide_eq_false h1, decide_eq_false h2]; show (n.natAbs : Int) * m = _
    rw [show (n.natAbs : Int) = n by omega, show (m.natAbs : Int) = m by omega]

end Go.Proofs.Ytgafcpklocccdaa
