/- The bounds of a valid list are valid, and narrow. -/
import Derived.Test.YtnhekeohbnmodaaZBMath
import Derived.Test.YtnhekeohbnmodaaZBWhole
import Derived.Test.YtnhekeohbnmodaaZBWidth
import Derived.Test.YtnhekeohbnmodaaZBWithin
import Derived.Test.YtnhekeohbnmodaaZGBase
import Derived.Test.YtnhekeohbnmodaaZHLaws
import Derived.Test.YtnhekeohbnmodaaZHMath
import Derived.Test.YtnhekeohbnmodaaZJHNum
import Derived.Test.YtnhekeohbnmodaaZMath
namespace Go.Proofs.Ytnhekeohbnmodaa
open Go.RowKit

theorem Va.query {X : List It} {k : Int} (h : Va X k) (hT : totB X ≤ 1073741824) : ∃ a m b, quV X = .agg #[.int .i64 a, .int .i64 1, .int .i64 m, .int .i64 1, .int .i64 b, .int .i64 1] ∧ In a ∧ In m ∧ In b ∧ bvB a 1 m 1 b 1 = true ∧ wiB a 1 m 1 b 1 k a 1 = true := by
  have fin : ∀ a b : Int, 0 ≤ a → a ≤ b → b ≤ 1073741824 → k * (b - a) ≤ a → In a ∧ In (mid a b) ∧ In b ∧ bvB a 1 (mid a b) 1 b 1 = true ∧ wiB a 1 (mid a b) 1 b 1 k a 1 = true := by
    intro a b h0 h1 h2 h3
    have hm : a ≤ mid a b ∧ mid a b ≤ b := by unfold mid; omega
    have hv : bvB a 1 (mid a b) 1 b 1 = true := bvB_mk (valid_one _) (valid_one _) (valid_one _) ((le_of_cmpR (valid_one _) (valid_one _)).2 (by omega)) ((le_of_cmpR (valid_one _) (valid_one _)).2 (by omega))
    refine ⟨⟨by omega, by omega⟩, ⟨by omega, by omega⟩, ⟨by omega, by omega⟩, hv, ?_⟩
    rw [wiB_main hv h.k1 (valid_one _) h0]
    refine decide_eq_true ?_
    unfold wdZ
    rw [Int.mul_one, Int.mul_one, Int.mul_one, Int.mul_one, Int.one_mul, Int.mul_comm]
    exact h3
  by_cases hX : X = []
  · subst hX
    refine ⟨0, 0, 0, rfl, ?_⟩
    have := fin 0 0 (by omega) (by omega) (by omega) (by simp)
    exact this
  · obtain ⟨h1, h2, h3⟩ := h.narrow hX
    refine ⟨qlo X, mid (qlo X) (totB X), totB X, by unfold quV; rw [if_neg hX], fin _ _ ?_ ?_ hT ?_⟩
    · unfold qlo; omega
    · unfold qlo; omega
    · unfold qlo
      rw [show totB X - (totB X - szB (X.getD 0 (0, 0)).2 + 1) = szB (X.getD 0 (0, 0)).2 - 1 by omega]
      omega
end Go.Proofs.Ytnhekeohbnmodaa
