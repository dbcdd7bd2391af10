/- Plain facts on integers that Go's int64 numbers and their checked results come to. No program is named here. -/
import Derived.Test.YtchikndofpkjmaaZWMathq0
namespace Go.Proofs.Ytchikndofpkjmaa

/-! ### Quotients -/
theorem tdiv_bound (a b : Int) : -(a.natAbs : Int) ≤ a.tdiv b ∧ a.tdiv b ≤ a.natAbs := by
  have h := Int.natAbs_tdiv_le_natAbs a b
  omega
/-- A quotient of two int64 numbers is one, but for the one case. -/
theorem tdiv_in (a b : Int) (ha : In a) (hb : b ≠ 0) (hc : ¬ (a = -9223372036854775808 ∧ b = -1)) : In (a.tdiv b) := by
  obtain ⟨h1, h2⟩ := ha
  have h := tdiv_bound a b
  by_cases he : b = -1
  · subst he
    have : a.tdiv (-1) = -a := by rw [Int.tdiv_neg, Int.tdiv_one]
    rw [this]; exact ⟨by omega, by omega⟩
  · by_cases hm : a = -9223372036854775808
    · -- the quotient 2^63 would need the divisor -1
      refine ⟨by omega, ?_⟩
      by_cases hb0 : 0 < b
      · have h0 : 0 ≤ (-a).tdiv b := Int.tdiv_nonneg (by omega) (by omega)
        rw [Int.neg_tdiv] at h0
        omega
      · have hb2 : b ≤ -2 := by omega
        have hle : (a.tdiv b).natAbs ≤ 4611686018427387904 := by
          rw [Int.natAbs_tdiv]
          have : a.natAbs = 9223372036854775808 := by subst hm; rfl
          rw [this]
          have : 2 ≤ b.natAbs := by omega
          have h3 : 9223372036854775808 / b.natAbs ≤ 9223372036854775808 / 2 := Nat.div_le_div_left this (by decide)
          omega
        omega
    · exact ⟨by omega, by omega⟩

/-! ### The quotients rounded down and up, and the remainder -/
/-- There is a quotient, and it is an int64 number. -/
def hasq (a b : Int) : Bool := decide (b ≠ 0 ∧ ¬ (a = -9223372036854775808 ∧ b = -1))
def flos (a b : Int) : Int := if hasq a b = true then flo a b else 0
theorem hasq_yes {a b : Int} (h : b ≠ 0 ∧ ¬ (a = -9223372036854775808 ∧ b = -1)) : hasq a b = true := by unfold hasq; exact decide_eq_true h
theorem hasq_of {a b : Int} (h : hasq a b = true) : b ≠ 0 ∧ ¬ (a = -9223372036854775808 ∧ b = -1) := by unfold hasq at h; exact of_decide_eq_true h
theorem flos_no {a b : Int} (h : hasq a b = false) : flos a b = 0 := by unfold flos; rw [h]; rfl
theorem flos_yes {a b : Int} (h : hasq a b = true) : flos a b = flo a b := by unfold flos; rw [if_pos h]
/-- A quotient that is rounded is no smaller than the least int64 number, because it has a rest. -/
theorem tdiv_room (a b : Int) (ha : In a) (hb : In b) (h0 : b ≠ 0) (hr : a.tmod b ≠ 0) : -9223372036854775808 < a.tdiv b ∧ a.tdiv b < 9223372036854775807 := by
  obtain ⟨a1, a2⟩ := ha; obtain ⟨b1, b2⟩ := hb
  have h1 : b ≠ 1 := fun h => hr (by rw [h]; exact Int.tmod_one a)
  have h2 : b ≠ -1 := fun h => hr (by rw [h, Int.tmod_neg]; exact Int.tmod_one a)
  have h3 : 2 ≤ b.natAbs := by omega
  have h4 : (a.tdiv b).natAbs ≤ 4611686018427387904 := by
    rw [Int.natAbs_tdiv]
    show a.natAbs / b.natAbs ≤ _
    have h5 : a.natAbs ≤ 9223372036854775808 := by omega
    have h6 : a.natAbs / b.natAbs ≤ a.natAbs / 2 := Nat.div_le_div_left h3 (by decide)
    omega
  omega

/-! ### Products -/
/-! ### The greatest common divisor -/
/-! ### Powers -/
/-! ### Square roots -/
/-! ### Binary digits -/
end Go.Proofs.Ytchikndofpkjmaa
