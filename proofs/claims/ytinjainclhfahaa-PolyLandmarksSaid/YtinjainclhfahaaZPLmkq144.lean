/- Math of the law PolyLandmarks. -/
import Derived.Test.YtinjainclhfahaaRows
import Derived.Test.YtinjainclhfahaaZGAppendq55
import Derived.Test.YtinjainclhfahaaZPAddq112
import Derived.Test.YtinjainclhfahaaZPMrgq113
import Derived.Test.YtinjainclhfahaaZPRunq140
namespace Go.Proofs.Ytinjainclhfahaa
open Go.RowKit
set_option linter.unusedVariables false

theorem lm_re {m : Nat} {a land : Int} {M : List It} (hm : m ≤ 4) : reP (a - land) (moL a (m + 1) M) = moL land (m + 1) M := by
  rw [moL_re a (a - land) (by omega), show a - (a - land) = land by omega]
theorem lm_reb {m : Nat} {a t land : Int} {M : List It} (hm : m ≤ 4) (hl0 : 0 ≤ land) (hla : land ≤ a) (hat : a ≤ t) (ht : t ≤ 1000000) (ho : okM a t M) (hl : M.length ≤ 900) : rebQ m a t (moL a (m + 1) M) land = ((m : Int), land, t, moL land (m + 1) M, 0) := by
  unfold rebQ
  rw [if_pos (moL_st hm (by omega) hat (by omega) ho), if_neg (by omega), lm_re hm, if_pos (moL_in (ho.early hla) (by omega) (by omega) (by omega) (by omega))]
theorem lm_mrg {m : Nat} {a b t land : Int} {M N : List It} (hm : m ≤ 4) (hl0 : 0 ≤ land) (hlm : land = min a b) (hat : a ≤ t) (hbt : b ≤ t) (ht : t ≤ 1000000) (ho : okM a t M) (hp : okM b t N) (hl : M.length + N.length ≤ 900) : mrgQ m a t (moL a (m + 1) M) m b t (moL b (m + 1) N) = ((m : Int), land, t, moL land (m + 1) (M ++ N), 0) := by
  unfold mrgQ
  have h1 := moL_in (ho.early (show land ≤ a by omega)) (show land ≤ t by omega) (by omega) (by omega) (show m + 1 ≤ 5 by omega)
  have h2 := moL_in (hp.early (show land ≤ b by omega)) (show land ≤ t by omega) (by omega) (by omega) (show m + 1 ≤ 5 by omega)
  have h3 := moL_in ((ho.early (show land ≤ a by omega)).app (hp.early (show land ≤ b by omega))) (show land ≤ t by omega) (by rw [List.length_append]; omega) (by omega) (show m + 1 ≤ 5 by omega)
  rw [if_pos (moL_st hm (by omega) hat (by omega) ho), if_pos (moL_st hm (by omega) hbt (by omega) hp), if_pos ⟨rfl, rfl⟩, ← hlm, lm_re hm, lm_re hm, moL_plus, h1, h2, h3, if_pos (show (true && true && true) = true from rfl)]
theorem moL_get {land : Int} {m j : Nat} (h : j < m + 1) (M : List It) : (moL land (m + 1) M).getD j 0 = momZ land j M := by unfold moL; rw [byL_at h]
end Go.Proofs.Ytinjainclhfahaa
