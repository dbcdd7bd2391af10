/- Texts of these claims, one after the other. -/
import Derived.Test.YtchikndofpkjmaaRows
import Derived.Test.YtchikndofpkjmaaZKBaseq115
import Derived.Test.YtchikndofpkjmaaZKMarkq95
namespace Go.Proofs.Ytchikndofpkjmaa
open Go.RowKit
set_option linter.unusedVariables false

def mostZ (g k c : Int) : Int := if agB g = true ∧ (1 ≤ k ∧ k ≤ 64) ∧ (1 ≤ c ∧ c ≤ 65536) then 2 * k * bitsZ (topG g c) + 2 else 0
end Go.Proofs.Ytchikndofpkjmaa

namespace Go.Proofs.Ytchikndofpkjmaa

theorem asc_len {n : Nat} : ∀ {P : List Nat} (lo : Nat), P.Pairwise (fun a b => a < b) → (∀ p ∈ P, lo ≤ p ∧ p < n) → lo + P.length ≤ n ∨ P = [] := by
  intro P
  induction P with
  | nil => intro lo _ _; exact Or.inr rfl
  | cons a R ih =>
    intro lo h1 h2
    have ha := h2 a List.mem_cons_self
    rw [List.pairwise_cons] at h1
    refine Or.inl ?_
    rcases ih (a + 1) h1.2 (fun p hp => ⟨h1.1 p hp, (h2 p (List.mem_cons_of_mem _ hp)).2⟩) with h | h
    · rw [List.length_cons]; omega
    · subst h; simp only [List.length_cons, List.length_nil]; omega
theorem SnM.len {nr : List It → Nat → Nat → Prop} {cl : List It → Nat → Nat → Bool} {g w c now : Int} {P : List Nat} {I : List It} (h : SnM nr cl g w c now P I) : P.length ≤ I.length := by
  rcases asc_len 0 h.up (fun p hp => ⟨Nat.zero_le _, h.lt p hp⟩) with e | e
  · omega
  · subst e; exact Nat.zero_le _
end Go.Proofs.Ytchikndofpkjmaa
