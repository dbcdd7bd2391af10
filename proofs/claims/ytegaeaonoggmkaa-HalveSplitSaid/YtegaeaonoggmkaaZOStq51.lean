/- Decay by halving: what the functions return, as plain results, and their steps over items. No program is named here. -/
import Derived.Test.YtegaeaonoggmkaaRows
import Derived.Test.YtegaeaonoggmkaaZETotalq39
import Derived.Test.YtegaeaonoggmkaaZOMathq27
namespace Go.Proofs.Ytegaeaonoggmkaa
open Go.RowKit
set_option linter.unusedVariables false

/-- Several steps of the clock are one. -/
theorem hv_split {now : Int} {S : List Int} {d e : Nat} (h : stH now S = true) (ht : now + d + e ≤ 16777216) :
    avR now S (now + d) = (now + d, avH d S, 0) ∧ avR (now + d) (avH d S) (now + d + e) = (now + d + e, avH (d + e) S, 0) ∧ avR now S (now + d + e) = (now + d + e, avH (d + e) S, 0) := by
  have hs := stH_av (now' := now + d) h (by omega) (by omega)
  rw [show (now + (d : Int) - now).toNat = d by omega] at hs
  unfold avR
  refine ⟨?_, ?_, ?_⟩
  · rw [if_pos h, if_neg (by omega), show (now + (d : Int) - now).toNat = d by omega]
  · rw [if_pos hs, if_neg (by omega), show (now + (d : Int) + e - (now + d)).toNat = e by omega, avH_avH]
  · rw [if_pos h, if_neg (by omega), show (now + (d : Int) + e - now).toNat = d + e by omega]
end Go.Proofs.Ytegaeaonoggmkaa
