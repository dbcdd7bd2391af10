/- Texts of these claims, one after the other. -/
import Derived.Test.YtinjainclhfahaaRows
import Derived.Test.YtinjainclhfahaaZESumq65
import Derived.Test.YtinjainclhfahaaZPStq84
namespace Go.Proofs.Ytinjainclhfahaa
open Go.RowKit

/-- The term of an item: its weight times its value, and whether there is one. -/
def tmP (land _p : Int) (x : It) : Bool := decide (land ≤ x.1 ∧ x.1 ≤ 16777216 ∧ 0 ≤ x.2)
def tmB (land p : Int) (x : It) : Bool := tmP land p x && fits2 (powV (x.1 - land + 1) p * x.2)
def tmF (land p : Int) (x : It) : Int := if tmB land p x = true then powV (x.1 - land + 1) p * x.2 else 0
theorem powV_in2 (a n : Int) : In2 (powV a n) := by
  unfold powV
  split
  · exact ⟨by decide, by decide⟩
  · exact fit2_in2 _
theorem tm_no {land p : Int} {x : It} (h : tmP land p x = false) : tmB land p x = false ∧ tmF land p x = 0 := by
  have e : tmB land p x = false := by unfold tmB; rw [h]; rfl
  exact ⟨e, by unfold tmF; rw [e]; rfl⟩
theorem tm_yes {land p : Int} {x : It} (h : tmP land p x = true) : tmB land p x = fits2 (powV (x.1 - land + 1) p * x.2) ∧ tmF land p x = fit2 (powV (x.1 - land + 1) p * x.2) := by
  have e : tmB land p x = fits2 (powV (x.1 - land + 1) p * x.2) := by unfold tmB; rw [h]; rfl
  refine ⟨e, ?_⟩
  unfold tmF fit2
  rw [e]
/-- What Poly returns. -/
def plO (L : List It) (land p : Int) : Option Int := if (tickB land && decide (0 ≤ p ∧ p ≤ 4)) = true then accO (tmF land p) (tmB land p) 0 L else none

end Go.Proofs.Ytinjainclhfahaa

namespace Go.Proofs.Ytinjainclhfahaa
open Go.RowKit

theorem byL_zero (n : Nat) : byL n (fun _ => 0) = List.replicate n 0 := by
  apply List.ext_getElem
  · rw [byL_len, List.length_replicate]
  · intro i h1 h2
    rw [List.getElem_replicate]
    exact (List.getElem_map ..)
/-- Few items that are not too old: all moments fit. -/
theorem mom_in {land now : Int} {M : List It} (h : okM land now M) (hn : land ≤ now) (hl : M.length ≤ 1000) (ha : now - land + 1 ≤ 2097152) {j : Nat} (hj : j ≤ 4) : In2 (momZ land j M) := by
  have h0 := mom_nn j h
  have h1 := mom_le j h hn
  have h2 := pow_le_p (show 0 ≤ now - land + 1 by omega) ha j
  have h3 : (2097152 : Int) ^ j ≤ 19342813113834066795298816 := by
    rcases (show j = 0 ∨ j = 1 ∨ j = 2 ∨ j = 3 ∨ j = 4 by omega) with h | h | h | h | h <;> subst h <;> decide
  have h4 : (0 : Int) ≤ (now - land + 1) ^ j := Int.pow_nonneg (by omega)
  have h5 := Int.mul_le_mul (show (M.length : Int) ≤ 1000 by omega) (show 4096 * (now - land + 1) ^ j ≤ 4096 * 19342813113834066795298816 by omega) (by omega) (by omega)
  exact ⟨h0, by omega⟩
theorem moL_in {land now : Int} {M : List It} (h : okM land now M) (hn : land ≤ now) (hl : M.length ≤ 1000) (ha : now - land + 1 ≤ 2097152) {n : Nat} (hj : n ≤ 5) : fitL (moL land n M) = true := by
  unfold moL
  rw [fitL_by]
  exact fun j h1 => mom_in h hn hl ha (by omega)
/-- The reference's weighted sum. -/
theorem acc_mom {land now : Int} {j : Nat} (hj : j ≤ 4) (hl0 : 0 ≤ land) (hn : land ≤ now) (hn1 : now ≤ 16777216) (ha : now - land + 1 ≤ 2097152) : ∀ (B A : List It), okM land now (A ++ B) → (A ++ B).length ≤ 1000 → accO (tmF land j) (tmB land j) (momZ land j A) B = some (momZ land j (A ++ B)) := by
  intro B
  induction B with
  | nil => intro A _ _; rw [List.append_nil]; rfl
  | cons x B ih =>
    intro A h hl
    have hx := h x (by simp)
    have e : A ++ x :: B = (A ++ [x]) ++ B := by simp
    rw [e] at h hl ⊢
    obtain ⟨e1, _⟩ := age_powV (show 0 ≤ x.1 - land + 1 by omega) (show x.1 - land + 1 ≤ 16777217 by omega) hj
    have hi := (term_in (show 0 ≤ x.1 - land + 1 by omega) (show x.1 - land + 1 ≤ 16777217 by omega) hx.2.2.1 hx.2.2.2 hj).2
    have tp : tmP land j x = true := decide_eq_true ⟨by omega, by omega, by omega⟩
    obtain ⟨y1, y2⟩ := tm_yes (p := (j : Int)) tp
    rw [e1] at y1 y2
    rw [fits2_yes hi] at y1
    rw [fit2_yes hi] at y2
    have em : momZ land j A + tmF land j x = momZ land j (A ++ [x]) := by
      rw [y2, mom_app]
      show _ = _ + (x.2 * (x.1 - land + 1) ^ j + 0)
      rw [Int.mul_comm x.2]; omega
    have hin : In2 (momZ land j (A ++ [x])) := mom_in (fun y hy => h y (List.mem_append_left _ hy)) hn (by rw [List.length_append] at hl; omega) ha hj
    show (if (tmB land j x && fits2 (momZ land j A + tmF land j x)) = true then accO (tmF land j) (tmB land j) (momZ land j A + tmF land j x) B else none) = _
    rw [y1, em, fits2_yes hin, if_pos (show (true && true) = true from rfl)]
    exact ih _ h hl
theorem plO_mom {land now : Int} {j : Nat} {M : List It} (hj : j ≤ 4) (h : okM land now M) (hl0 : 0 ≤ land) (hn : land ≤ now) (hn1 : now ≤ 16777216) (ha : now - land + 1 ≤ 2097152) (hl : M.length ≤ 1000) : plO M land j = some (momZ land j M) := by
  unfold plO
  rw [show tickB land = true from decide_eq_true ⟨hl0, by omega⟩, decide_eq_true (show (0 : Int) ≤ (j : Int) ∧ (j : Int) ≤ 4 by omega), if_pos (show (true && true) = true from rfl)]
  exact acc_mom hj hl0 hn hn1 ha M [] h hl
end Go.Proofs.Ytinjainclhfahaa
