/- Math of the laws PolyTruth and PolyLandmarks. -/
import Derived.Test.YtinjainclhfahaaRows
import Derived.Test.YtinjainclhfahaaZGAppendq56
import Derived.Test.YtinjainclhfahaaZPRunq140
namespace Go.Proofs.Ytinjainclhfahaa
open Go.RowKit
set_option linter.unusedVariables false

theorem truth_ask {p : Nat} {land t : Int} {M : List It} (hp : p ≤ 4) (hl0 : 0 ≤ land) (hlt : land ≤ t) (ht : t ≤ 16777216) (ho : okM land t M) : akP p land t (moL land (p + 1) M) = .tuple #[.agg #[.int .u64 (hiZ (momZ land p M)), .int .u64 (loZ (momZ land p M)), .int .u64 (hiZ ((t - land + 1) ^ p)), .int .u64 (loZ ((t - land + 1) ^ p))], .int .i64 0] := by
  have e : (moL land (p + 1) M).getD p 0 = momZ land p M := by unfold moL; rw [byL_at (by omega)]
  unfold akP
  rw [if_pos (moL_st hp hl0 hlt ht ho), Int.toNat_natCast, e]
theorem truth_one {p : Nat} {land t : Int} (hp : p ≤ 4) (hl0 : 0 ≤ land) (hlt : land ≤ t) (ht : t ≤ 16777216) (ha : t - land + 1 ≤ 2097152) : plO [(t, 1)] land p = some ((t - land + 1) ^ p) := by
  rw [plO_mom hp (now := t) (fun x hx => by simp only [List.mem_singleton] at hx; subst hx; exact ⟨hlt, Int.le_refl _, (by decide : (0 : Int) ≤ 1), (by decide : (1 : Int) ≤ 4096)⟩) hl0 hlt ht ha (by simp)]
  congr 1
  show 1 * (t - land + 1) ^ p + 0 = _
  omega
end Go.Proofs.Ytinjainclhfahaa
