/- Polynomial decay: the states, what Add, Rebase and Merge make of the moments, and the moments of items. No program is named here. -/
import Derived.Test.YtinjainclhfahaaRows
import Derived.Test.YtinjainclhfahaaZGBaseq14
import Derived.Test.YtinjainclhfahaaZHSmallq34
namespace Go.Proofs.Ytinjainclhfahaa

theorem stP_yes {p land now : Int} {X : List Int} (h1 : (0 ≤ p ∧ p ≤ 4) ∧ (0 ≤ now ∧ now ≤ 16777216) ∧ (0 ≤ land ∧ land ≤ now)) (h2 : (X.length : Int) = p + 1) (h3 : ngB (now - land + 1) X = true) : stP p land now X = true := by
  unfold stP okP
  rw [decide_eq_true h1, decide_eq_true h2, h3]; rfl
/-- The moments of items. -/
def moL (land : Int) (n : Nat) (M : List It) : List Int := byL n (fun j => momZ land j M)
theorem moL_len (land : Int) (n : Nat) (M : List It) : (moL land n M).length = n := byL_len _ _
theorem moL_nil (land : Int) (n : Nat) : moL land n [] = byL n (fun _ => 0) := rfl
theorem moL_add (land now v : Int) (n : Nat) (M : List It) : adP (now - land + 1) v (moL land n M) = moL land n (M ++ [(now, v)]) := by
  unfold adP
  rw [moL_len]
  refine byL_ext (fun j hj => ?_)
  show (moL land n M).getD j 0 + _ = _
  unfold moL
  rw [byL_at hj, mom_push]
theorem moL_ng {land now : Int} (n : Nat) {M : List It} (h : okM land now M) : ngB (now - land + 1) (moL land n M) = true := by
  rw [ngB_iff]
  intro j hj
  rw [moL_len] at hj
  unfold moL
  rw [byL_at (by omega), byL_at hj]
  exact mom_up j h
theorem okM.later {land now now' : Int} {M : List It} (h : okM land now M) (hn : now ≤ now') : okM land now' M := fun x hx => by have := h x hx; omega
theorem okM.push {land now v : Int} {A : List It} (h : okM land now A) (hl : land ≤ now) (hv : 0 ≤ v ∧ v ≤ 4096) : okM land now (A ++ [(now, v)]) := by
  intro x hx
  rcases List.mem_append.1 hx with hx | hx
  · exact h x hx
  · simp only [List.mem_singleton] at hx; subst hx; exact ⟨hl, Int.le_refl _, hv.1, hv.2⟩
end Go.Proofs.Ytinjainclhfahaa
