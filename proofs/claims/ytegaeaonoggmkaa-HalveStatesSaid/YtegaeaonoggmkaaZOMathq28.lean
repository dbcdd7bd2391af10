/- Halving counters: the states, what Advance, Add and Merge make of the sums, the weighted sum, and the sums of items. No program is named here. -/
import Derived.Test.YtegaeaonoggmkaaRows
import Derived.Test.YtegaeaonoggmkaaZWCmpq8
namespace Go.Proofs.Ytegaeaonoggmkaa

/-- Every part of the weighted sum of a valid state fits. -/
theorem asF_bd {a : Nat} {f : Nat → Int} (ha : a ≤ 64) {n : Nat} (h : ∀ e, e < n → 0 ≤ f e ∧ f e ≤ 1099511627776) : 0 ≤ asF a f n ∧ asF a f n ≤ (n : Int) * 10141204801825835211973625643008 := by
  induction n with
  | zero => exact ⟨Int.le_refl 0, by simp [asF]⟩
  | succ n ih =>
    obtain ⟨i1, i2⟩ := ih (fun e he => h e (by omega))
    obtain ⟨h1, h2⟩ := h n (by omega)
    obtain ⟨t1, t2⟩ := term_bd (e := n) ha h1 h2
    show 0 ≤ asF a f n + f n * 2 ^ (a - 1 - n) ∧ asF a f n + f n * 2 ^ (a - 1 - n) ≤ _
    rw [show ((n + 1 : Nat) : Int) = (n : Int) + 1 by omega, Int.add_mul, Int.one_mul]
    exact ⟨by omega, by omega⟩
end Go.Proofs.Ytegaeaonoggmkaa
