/- What Poly of package exact and of its reference return. -/
import Derived.Deep.DeepCutAuto
import Derived.Deep.RegionHeld3
import Derived.IntWalk
import Derived.Shelf.Abstract
import Derived.Test.YtflahclphdlolaaGreatZCClock
import Derived.Test.YtflahclphdlolaaGreatZELive
import Derived.Test.YtflahclphdlolaaGreatZESum
import Derived.Test.YtflahclphdlolaaGreatZG0a
import Derived.Test.YtflahclphdlolaaGreatZG2a
import Derived.Test.YtflahclphdlolaaGreatZG3a
import Derived.Test.YtflahclphdlolaaGreatZWMul2
namespace Go.Proofs.YtflahclphdlolaaGreat
open Go.RowKit

/-- The term of an item: its weight times its value, and whether there is one. -/
def tmP (land _p : Int) (x : It) : Bool := decide (land ≤ x.1 ∧ x.1 ≤ 16777216 ∧ 0 ≤ x.2)
def tmB (land p : Int) (x : It) : Bool := tmP land p x && fits2 (powV (x.1 - land + 1) p * x.2)
def tmF (land p : Int) (x : It) : Int := if tmB land p x = true then powV (x.1 - land + 1) p * x.2 else 0
theorem fit2_in2 (v : Int) : In2 (fit2 v) := by
  unfold fit2
  by_cases h : fits2 v = true
  · rw [if_pos h]; exact (of_decide_eq_true h : 0 ≤ v ∧ v < 340282366920938463463374607431768211456)
  · rw [if_neg h]; exact ⟨by decide, by decide⟩
theorem powV_in2 (a n : Int) : In2 (powV a n) := by
  unfold powV
  split
  · exact ⟨by decide, by decide⟩
  · exact fit2_in2 _
theorem tmF_in2 (land p : Int) (x : It) : In2 (tmF land p x) := by
  unfold tmF
  by_cases h : tmB land p x = true
  · rw [if_pos h]
    unfold tmB at h
    rw [Bool.and_eq_true] at h
    exact (of_decide_eq_true h.2 : _ ∧ _)
  · rw [if_neg h]; exact ⟨by decide, by decide⟩
theorem tm_no {land p : Int} {x : It} (h : tmP land p x = false) : tmB land p x = false ∧ tmF land p x = 0 := by
  have e : tmB land p x = false := by unfold tmB; rw [h]; rfl
  exact ⟨e, by unfold tmF; rw [e]; rfl⟩
theorem tm_yes {land p : Int} {x : It} (h : tmP land p x = true) : tmB land p x = fits2 (powV (x.1 - land + 1) p * x.2) ∧ tmF land p x = fit2 (powV (x.1 - land + 1) p * x.2) := by
  have e : tmB land p x = fits2 (powV (x.1 - land + 1) p * x.2) := by unfold tmB; rw [h]; rfl
  refine ⟨e, ?_⟩
  unfold tmF fit2
  rw [e]
/-- What Poly returns. -/
def plO (L : List It) (land p : Int) : Option Int := if (tickB land && decide (0 ≤ p ∧ p ≤ 4)) = true then accO (tmF land p) (tmB land p) 0 L else none

end Go.Proofs.YtflahclphdlolaaGreat
