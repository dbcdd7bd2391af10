/- Halving counters: the states, what Advance, Add and Merge make of the sums, the weighted sum, and the sums of items. No program is named here. -/
import Derived.Test.YtegaeaonoggmkaaRows
import Derived.Test.YtegaeaonoggmkaaZWFormatq9
namespace Go.Proofs.Ytegaeaonoggmkaa

theorem avH_avH (a b : Nat) (S : List Int) : avH b (avH a S) = avH (a + b) S := by
  unfold avH
  rw [byL_len]
  refine byL_ext (fun e he => ?_)
  by_cases h : b ≤ e
  · rw [if_pos h, byL_at (by omega)]
    by_cases g : a ≤ e - b
    · rw [if_pos g, if_pos (by omega), show e - b - a = e - (a + b) by omega]
    · rw [if_neg g, if_neg (by omega)]
  · rw [if_neg h, if_neg (by omega)]
theorem stH_av {now now' : Int} {S : List Int} (h : stH now S = true) (h1 : now ≤ now') (h2 : now' ≤ 16777216) : stH now' (avH (now' - now).toNat S) = true := by
  obtain ⟨a1, a2, a3⟩ := stH_iff.1 h
  rw [stH_iff, avH_len]
  refine ⟨a1, ⟨by omega, h2⟩, fun e he => ?_⟩
  unfold avH
  rw [byL_at he]
  by_cases g : (now' - now).toNat ≤ e
  · rw [if_pos g]
    obtain ⟨b1, b2, b3⟩ := a3 (e - (now' - now).toNat) (by omega)
    exact ⟨b1, b2, fun q => b3 (by omega)⟩
  · rw [if_neg g]; exact ⟨by decide, by decide, fun _ => rfl⟩
end Go.Proofs.Ytegaeaonoggmkaa
