/- What wide.divShort returns. -/
import Derived.Test.YtnhekeohbnmodaaWDiv64
namespace Go.Proofs.Ytnhekeohbnmodaa
open Go.RowKit

theorem short_eq (ah al b : Int) (h1 : Word ah) (h2 : Word al) (hb : 0 < b) :
    hiZ (val ah al / b) = ah / b ∧ loZ (val ah al / b) = val (ah % b) al / b ∧ val ah al % b = val (ah % b) al % b := by
  obtain ⟨a1, a2⟩ := h1; obtain ⟨b1, b2⟩ := h2
  have e := Int.mul_ediv_add_emod ah b
  have m1 := Int.emod_nonneg ah (show b ≠ 0 by omega)
  have m2 := Int.emod_lt_of_pos ah hb
  have ev : val ah al = val (ah % b) al + b * (ah / b * 18446744073709551616) := by
    unfold val
    rw [← Int.mul_assoc]
    generalize b * (ah / b) = t at *
    omega
  have hq : val ah al / b = val (ah % b) al / b + ah / b * 18446744073709551616 := by
    rw [ev, Int.add_mul_ediv_left _ _ (by omega)]
  have hl : 0 ≤ val (ah % b) al / b := Int.ediv_nonneg (by unfold val; omega) (by omega)
  have hu : val (ah % b) al / b < 18446744073709551616 := Int.ediv_lt_of_lt_mul hb (by unfold val; omega)
  refine ⟨?_, ?_, ?_⟩
  · rw [hq]; unfold hiZ; generalize ah / b = t at *; omega
  · rw [hq]; unfold loZ; generalize ah / b = t at *; omega
  · rw [ev, Int.add_mul_emod_self_left]

end Go.Proofs.Ytnhekeohbnmodaa
