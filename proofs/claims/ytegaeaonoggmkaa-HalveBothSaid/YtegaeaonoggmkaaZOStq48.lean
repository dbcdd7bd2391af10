/- Decay by halving: what the functions return, as plain results, and their steps over items. No program is named here. -/
import Derived.Test.YtegaeaonoggmkaaRows
import Derived.Test.YtegaeaonoggmkaaZESumq41
import Derived.Test.YtegaeaonoggmkaaZOStq46
import Derived.Test.YtegaeaonoggmkaaZPStq20
namespace Go.Proofs.Ytegaeaonoggmkaa
open Go.RowKit
set_option linter.unusedVariables false

theorem hv_mrg {a : Nat} {now : Int} {A B : List It} (ha : 1 ≤ a ∧ a ≤ 64) (hn : 0 ≤ now ∧ now ≤ 16777216) (h1 : okH now A) (h2 : okH now B) (l1 : A.length ≤ 500) (l2 : B.length ≤ 500) : mgR now (hvS now a A) now (hvS now a B) = (now, hvS now a (A ++ B), 0) := by
  have hm : mgHB (hvS now a A) (hvS now a B) = true := mgHB_iff.2 (fun e he => by
    rw [hvS_len] at he
    have e1 : (hvS now a A).getD e 0 = buH now e A := by unfold hvS; rw [byL_at he]
    have e2 : (hvS now a B).getD e 0 = buH now e B := by unfold hvS; rw [byL_at he]
    have b1 := (buH_bd e h1).2
    have b2 := (buH_bd e h2).2
    rw [e1, e2]; omega)
  unfold mgR
  rw [if_pos (hvS_st h1 ha hn (by omega)), if_pos (hvS_st h2 ha hn (by omega)), if_pos ⟨rfl, by rw [hvS_len, hvS_len]⟩, if_pos hm, hvS_mg]
end Go.Proofs.Ytegaeaonoggmkaa
