/- Texts of these claims, one after the other. -/
import Derived.Test.YtafkoddgefcpnaaRows
import Derived.Test.YtafkoddgefcpnaaZWMathq1
namespace Go.Proofs.Ytafkoddgefcpnaa

/-! ### Quotients -/
theorem tdiv_bound (a b : Int) : -(a.natAbs : Int) ≤ a.tdiv b ∧ a.tdiv b ≤ a.natAbs := by
  have h := Int.natAbs_tdiv_le_natAbs a b
  omega
/-- A quotient of two int64 numbers is one, but for the one case. -/
theorem tdiv_in (a b : Int) (ha : In a) (hb : b ≠ 0) (hc : ¬ (a = -9223372036854775808 ∧ b = -1)) : In (a.tdiv b) := by
  obtain ⟨h1, h2⟩ := ha
  have h := tdiv_bound a b
  by_cases he : b = -1
  · subst he
    have : a.tdiv (-1) = -a := by rw [Int.tdiv_neg, Int.tdiv_one]
    rw [this]; exact ⟨by omega, by omega⟩
  · by_cases hm : a = -9223372036854775808
    · -- the quotient 2^63 would need the divisor -1
      refine ⟨by omega, ?_⟩
      by_cases hb0 : 0 < b
      · have h0 : 0 ≤ (-a).tdiv b := Int.tdiv_nonneg (by omega) (by omega)
        rw [Int.neg_tdiv] at h0
        omega
      · have hb2 : b ≤ -2 := by omega
        have hle : (a.tdiv b).natAbs ≤ 4611686018427387904 := by
          rw [Int.natAbs_tdiv]
          have : a.natAbs = 9223372036854775808 := by subst hm; rfl
          rw [this]
          have : 2 ≤ b.natAbs := by omega
          have h3 : 9223372036854775808 / b.natAbs ≤ 9223372036854775808 / 2 := Nat.div_le_div_left this (by decide)
          omega
        omega
    · exact ⟨by omega, by omega⟩

/-! ### The quotients rounded down and up, and the remainder -/
/-- There is a quotient, and it is an int64 number. -/
def hasq (a b : Int) : Bool := decide (b ≠ 0 ∧ ¬ (a = -9223372036854775808 ∧ b = -1))
def flos (a b : Int) : Int := if hasq a b = true then flo a b else 0
theorem hasq_yes {a b : Int} (h : b ≠ 0 ∧ ¬ (a = -9223372036854775808 ∧ b = -1)) : hasq a b = true := by unfold hasq; exact decide_eq_true h
theorem hasq_of {a b : Int} (h : hasq a b = true) : b ≠ 0 ∧ ¬ (a = -9223372036854775808 ∧ b = -1) := by unfold hasq at h; exact of_decide_eq_true h
theorem flos_no {a b : Int} (h : hasq a b = false) : flos a b = 0 := by unfold flos; rw [h]; rfl
theorem flos_yes {a b : Int} (h : hasq a b = true) : flos a b = flo a b := by unfold flos; rw [if_pos h]
/-- A quotient that is rounded is no smaller than the least int64 number, because it has a rest. -/
theorem tdiv_room (a b : Int) (ha : In a) (hb : In b) (h0 : b ≠ 0) (hr : a.tmod b ≠ 0) : -9223372036854775808 < a.tdiv b ∧ a.tdiv b < 9223372036854775807 := by
  obtain ⟨a1, a2⟩ := ha; obtain ⟨b1, b2⟩ := hb
  have h1 : b ≠ 1 := fun h => hr (by rw [h]; exact Int.tmod_one a)
  have h2 : b ≠ -1 := fun h => hr (by rw [h, Int.tmod_neg]; exact Int.tmod_one a)
  have h3 : 2 ≤ b.natAbs := by omega
  have h4 : (a.tdiv b).natAbs ≤ 4611686018427387904 := by
    rw [Int.natAbs_tdiv]
    show a.natAbs / b.natAbs ≤ _
    have h5 : a.natAbs ≤ 9223372036854775808 := by omega
    have h6 : a.natAbs / b.natAbs ≤ a.natAbs / 2 := Nat.div_le_div_left h3 (by decide)
    omega
  omega

/-! ### Products -/
/-! ### The greatest common divisor -/
/-! ### Powers -/
/-! ### Square roots -/
/-! ### Binary digits -/
end Go.Proofs.Ytafkoddgefcpnaa

namespace Go.Proofs.Ytafkoddgefcpnaa
open Go.RowKit

theorem rflo_any (a b : Int) (ha : In a) (hb : In b) (w : World) :
    Calls Try.prog 142 #[.int .i64 a, .int .i64 b] w fun e w' => e = got (flos a b) (hasq a b) ∧ w = w' := by
  by_cases hq : hasq a b = true
  case neg =>
    have hq' : hasq a b = false := by simpa using hq
    have H1 := Lib.hid (flos_no hq')
    have H2 := Lib.hid hq'
    have hc : b = 0 ∨ (a = -9223372036854775808 ∧ b = -1) := by
      have := mt hasq_yes hq; omega
    clear hq hq'
    rcases hc with hc | ⟨hc, hd⟩
    · subst hc
      go_enter Try.func142, Try.ntmps142
      go_wp2
      go_ret2
      exact ⟨by rw [H1.out, H2.out]; rfl, rfl⟩
    · subst hc; subst hd
      go_enter Try.func142, Try.ntmps142
      go_wp2
      go_ret2
      exact ⟨by rw [H1.out, H2.out]; rfl, rfl⟩
  have H1 := Lib.hid (flos_yes hq)
  have H2 := Lib.hid hq
  obtain ⟨h0, hm⟩ := hasq_of hq
  obtain ⟨q1, q2⟩ := tdiv_in a b ha h0 hm
  have t0 : (b == 0) = false := beq_eq_false_iff_ne.2 h0
  by_cases hm1 : a = -9223372036854775808
  · have t5 : (a == -9223372036854775808) = true := beq_iff_eq.2 hm1
    have t6 : (b == -1) = false := beq_eq_false_iff_ne.2 (by omega)
    clear hq hm hm1
    by_cases hr : a.tmod b = 0
    · have t1 : (a.tmod b != 0) = false := bne_eq_false_iff_eq.2 hr
      have K := Lib.hid hr
      clear hr
      go_enter Try.func142, Try.ntmps142
      go_wp2
      go_ret2
      exact ⟨by rw [H1.out, H2.out]; unfold flo; rw [if_neg (by have := K.out; omega)]; rfl, rfl⟩
    · have t1 : (a.tmod b != 0) = true := bne_iff_ne.2 hr
      have K := Lib.hid hr
      obtain ⟨m1, m2⟩ := tdiv_room a b ha hb h0 hr
      clear hr
      by_cases sa : a < 0
      · have ta : decide (a < 0) = true := decide_eq_true sa
        have KA := Lib.hid sa
        clear sa
        by_cases sb : b < 0
        · have tb : decide (b < 0) = true := decide_eq_true sb
          have KB := Lib.hid sb
          clear sb
          go_enter Try.func142, Try.ntmps142
          go_wp2
          go_ret2
          exact ⟨by rw [H1.out, H2.out]; unfold flo; rw [if_neg (by have := K.out; have := KA.out; have := KB.out; omega)]; rfl, rfl⟩
        · have tb : decide (b < 0) = false := decide_eq_false sb
          have KB := Lib.hid sb
          clear sb
          go_enter Try.func142, Try.ntmps142
          go_wp2
          go_ret2
          exact ⟨by rw [H1.out, H2.out]; unfold flo; rw [if_pos (by have := K.out; have := KA.out; have := KB.out; omega)]; rfl, rfl⟩
      · have ta : decide (a < 0) = false := decide_eq_false sa
        have KA := Lib.hid sa
        clear sa
        by_cases sb : b < 0
        · have tb : decide (b < 0) = true := decide_eq_true sb
          have KB := Lib.hid sb
          clear sb
          go_enter Try.func142, Try.ntmps142
          go_wp2
          go_ret2
          exact ⟨by rw [H1.out, H2.out]; unfold flo; rw [if_pos (by have := K.out; have := KA.out; have := KB.out; omega)]; rfl, rfl⟩
        · have tb : decide (b < 0) = false := decide_eq_false sb
          have KB := Lib.hid sb
          clear sb
          go_enter Try.func142, Try.ntmps142
          go_wp2
          go_ret2
          exact ⟨by rw [H1.out, H2.out]; unfold flo; rw [if_neg (by have := K.out; have := KA.out; have := KB.out; omega)]; rfl, rfl⟩
  · have t5 : (a == -9223372036854775808) = false := beq_eq_false_iff_ne.2 hm1
    clear hq hm hm1
    by_cases hr : a.tmod b = 0
    · have t1 : (a.tmod b != 0) = false := bne_eq_false_iff_eq.2 hr
      have K := Lib.hid hr
      clear hr
      go_enter Try.func142, Try.ntmps142
      go_wp2
      go_ret2
      exact ⟨by rw [H1.out, H2.out]; unfold flo; rw [if_neg (by have := K.out; omega)]; rfl, rfl⟩
    · have t1 : (a.tmod b != 0) = true := bne_iff_ne.2 hr
      have K := Lib.hid hr
      obtain ⟨m1, m2⟩ := tdiv_room a b ha hb h0 hr
      clear hr
      by_cases sa : a < 0
      · have ta : decide (a < 0) = true := decide_eq_true sa
        have KA := Lib.hid sa
        clear sa
        by_cases sb : b < 0
        · have tb : decide (b < 0) = true := decide_eq_true sb
          have KB := Lib.hid sb
          clear sb
          go_enter Try.func142, Try.ntmps142
          go_wp2
          go_ret2
          exact ⟨by rw [H1.out, H2.out]; unfold flo; rw [if_neg (by have := K.out; have := KA.out; have := KB.out; omega)]; rfl, rfl⟩
        · have tb : decide (b < 0) = false := decide_eq_false sb
          have KB := Lib.hid sb
          clear sb
          go_enter Try.func142, Try.ntmps142
          go_wp2
          go_ret2
          exact ⟨by rw [H1.out, H2.out]; unfold flo; rw [if_pos (by have := K.out; have := KA.out; have := KB.out; omega)]; rfl, rfl⟩
      · have ta : decide (a < 0) = false := decide_eq_false sa
        have KA := Lib.hid sa
        clear sa
        by_cases sb : b < 0
        · have tb : decide (b < 0) = true := decide_eq_true sb
          have KB := Lib.hid sb
          clear sb
          go_enter Try.func142, Try.ntmps142
          go_wp2
          go_ret2
          exact ⟨by rw [H1.out, H2.out]; unfold flo; rw [if_pos (by have := K.out; have := KA.out; have := KB.out; omega)]; rfl, rfl⟩
        · have tb : decide (b < 0) = false := decide_eq_false sb
          have KB := Lib.hid sb
          clear sb
          go_enter Try.func142, Try.ntmps142
          go_wp2
          go_ret2
          exact ⟨by rw [H1.out, H2.out]; unfold flo; rw [if_neg (by have := K.out; have := KA.out; have := KB.out; omega)]; rfl, rfl⟩

end Go.Proofs.Ytafkoddgefcpnaa
