/- Texts of these claims, one after the other. -/
import Derived.Test.YtchikndofpkjmaaRows
import Derived.Test.YtchikndofpkjmaaZWMathq0
namespace Go.Proofs.Ytchikndofpkjmaa

theorem hiZ_0 : hiZ 0 = 0 := by decide
theorem loZ_0 : loZ 0 = 0 := by decide
theorem val_in {h l : Int} (hh : Word h) (hl : Word l) : In2 (val h l) := by
  obtain ⟨h1, h2⟩ := hh; obtain ⟨h3, h4⟩ := hl; unfold val; exact ⟨by omega, by omega⟩
theorem hiZ_val {h l : Int} (hl : Word l) : hiZ (val h l) = h := by obtain ⟨h3, h4⟩ := hl; unfold hiZ val; omega
theorem loZ_val {h l : Int} (hl : Word l) : loZ (val h l) = l := by obtain ⟨h3, h4⟩ := hl; unfold loZ val; omega
/-! ### The next half of a quotient -/
end Go.Proofs.Ytchikndofpkjmaa

namespace Go.Proofs.Ytchikndofpkjmaa
open Go.RowKit

/-! ### Comparisons -/
theorem cmpZ_neg (x y : Int) : (cmpZ x y < 0) ↔ x < y := by unfold cmpZ; repeat (split <;> try omega)

end Go.Proofs.Ytchikndofpkjmaa
