/- What validCap, place and Validate of package ring return, and the reference's Validate. -/
import Derived.Test.YtflahclphdlolaaGKeep
namespace Go.Proofs.Ytflahclphdlolaa
open Go.RowKit

theorem eqItem (a0 a1 b0 b1 : Int) (w : World) : (Op.equalIn 10000 39 (.agg #[.int .i64 a0, .int .i64 a1]) (.agg #[.int .i64 b0, .int .i64 b1])).run Try.prog w =
    .ok (a0 == b0 && a1 == b1) w := by
  have qu := Try.underlying2
  have qa := Try.isAgg2
  have qz := Try.sizeOf2
  rw [show (10000 : Nat) = 9999 + 1 from rfl, Op.equalIn]
  simp only [Sem.run_bind, run_underlying Try.underlying39, Result.andThen_ok]
  go_simp
  by_cases h0 : a0 = b0 <;> by_cases h1 : a1 = b1 <;> simp [h0, h1]

theorem eqItem_no {a b c d : Int} (h : ¬ (a = c ∧ b = d)) : (a == c && b == d) = false := by
  rw [Bool.eq_false_iff]; intro e; simp only [Bool.and_eq_true, beq_iff_eq] at e; exact h e

def capB (n : Int) : Bool := decide (1 ≤ n ∧ n ≤ 65536)
/-- No element lies in the cells from place i on. -/
def zf (c h : Nat) (L : List It) (i : Nat) : Bool := decide (∀ k, k < c → i ≤ k → L.getD ((h + k) % c) (0, 0) = (0, 0))
theorem zf_end (c h : Nat) (L : List It) : zf c h L c = true := decide_eq_true fun k h1 h2 => absurd h1 (by omega)
theorem zf_step {c h : Nat} {L : List It} {i : Nat} (hz : L.getD ((h + i) % c) (0, 0) = (0, 0)) : zf c h L i = zf c h L (i + 1) := by
  unfold zf
  rw [decide_eq_decide]
  constructor
  · intro g k h1 h2; exact g k h1 (by omega)
  · intro g k h1 h2
    rcases Nat.eq_or_lt_of_le h2 with rfl | h3
    · exact hz
    · exact g k h1 h3
theorem zf_no {c h : Nat} {L : List It} {i : Nat} (hi : i < c) (hz : L.getD ((h + i) % c) (0, 0) ≠ (0, 0)) : zf c h L i = false := by
  unfold zf
  rw [decide_eq_false_iff_not]
  intro g
  exact hz (g i hi (Nat.le_refl _))
def vE (b : Bool) : Int := if b = true then 0 else 2
theorem vE_true : vE true = 0 := rfl
theorem vE_false : vE false = 2 := rfl


def shB (c h l : Int) (n : Nat) : Bool := decide (1 ≤ c ∧ c ≤ 65536 ∧ (n : Int) = c ∧ 0 ≤ h ∧ h < c ∧ 0 ≤ l ∧ l ≤ c)
end Go.Proofs.Ytflahclphdlolaa
