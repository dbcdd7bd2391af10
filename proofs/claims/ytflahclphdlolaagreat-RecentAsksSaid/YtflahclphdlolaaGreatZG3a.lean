/- What wide.Pow returns. -/
import Derived.Test.YtflahclphdlolaaGreatZG0a
import Derived.Test.YtflahclphdlolaaGreatZG2a
import Derived.Test.YtflahclphdlolaaGreatZWMul2
namespace Go.Proofs.YtflahclphdlolaaGreat
open Go.RowKit

/-- What Pow returns: the power and true if n is not negative and it is a number of two words, else 0 and false. -/
def powV (a n : Int) : Int := if n < 0 then 0 else fit2 (a ^ n.toNat)
def powB (a n : Int) : Bool := if n < 0 then false else fits2 (a ^ n.toNat)
theorem powV_neg {a n : Int} (h : n < 0) : powV a n = 0 ∧ powB a n = false := by
  unfold powV powB; rw [if_pos h, if_pos h]; exact ⟨rfl, rfl⟩
theorem powV_nat (a : Int) (n : Nat) : powV a (n : Int) = fit2 (a ^ n) ∧ powB a (n : Int) = fits2 (a ^ n) := by
  unfold powV powB
  rw [if_neg (by omega), if_neg (by omega), Int.toNat_natCast]; exact ⟨rfl, rfl⟩
theorem pow_le1 (a : Int) (h0 : 0 ≤ a) (h1 : a ≤ 1) (n : Nat) (hn : n ≠ 0) : a ^ n = a := by
  induction n with
  | zero => exact absurd rfl hn
  | succ n ih =>
    rw [Int.pow_succ]
    by_cases h : n = 0
    · subst h; rw [Int.pow_zero, Int.one_mul]
    · rw [ih h]; rcases (by omega : a = 0 ∨ a = 1) with e | e <;> subst e <;> decide
theorem far_mul2 {x a : Int} (ha : 1 < a) (hx0 : 0 ≤ x) (hx : ¬ In2 x) : ¬ In2 (x * a) := by
  have : x * 1 ≤ x * a := Int.mul_le_mul_of_nonneg_left (by omega) hx0
  unfold In2 at *; omega
theorem pow_far2 {a : Int} (ha : 1 < a) {k n : Nat} (hkn : k ≤ n) (hk : ¬ In2 (a ^ k)) : ¬ In2 (a ^ n) := by
  induction n with
  | zero => rw [show (0 : Nat) = k by omega]; exact hk
  | succ n ih =>
    by_cases h : k = n + 1
    · rw [← h]; exact hk
    · rw [Int.pow_succ]; exact far_mul2 ha (Int.pow_nonneg (by omega)) (ih (by omega))
theorem mul_of (P a : Int) (hP : In2 P) (ha : Word a) (w : World) :
    Calls Tryz.prog 103 #[.agg #[.int .u64 (hiZ P), .int .u64 (loZ P)], .agg #[.int .u64 0, .int .u64 a]] w fun e w' =>
      e = got2 (fit2 (P * a)) (fits2 (P * a)) ∧ Up w w' := by
  have h := mul_up (hiZ P) (loZ P) 0 a (hiZ_word hP) (loZ_word P) word_0 ha w
  rw [val_hilo, show val 0 a = a by unfold val; omega] at h
  exact h

end Go.Proofs.YtflahclphdlolaaGreat
