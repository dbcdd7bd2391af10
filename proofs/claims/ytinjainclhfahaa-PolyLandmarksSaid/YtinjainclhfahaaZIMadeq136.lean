/- Texts of these claims, one after the other. -/
import Derived.Test.YtinjainclhfahaaRows
import Derived.Test.YtinjainclhfahaaZELive2q46
import Derived.Test.YtinjainclhfahaaZHTallyq37
import Derived.Test.YtinjainclhfahaaZIMathq52
namespace Go.Proofs.Ytinjainclhfahaa
open Go.RowKit
set_option linter.unusedVariables false

/-- Items whose ticks ascend from 0 on up to z, with values. -/
def mdQ (M : List It) (z : Int) : Prop :=
  0 ≤ z ∧ z ≤ 51 * M.length ∧ ∀ j, j < M.length → 0 ≤ (M.getD j (0, 0)).1 ∧ (M.getD j (0, 0)).1 ≤ z ∧ (0 < j → (M.getD (j - 1) (0, 0)).1 ≤ (M.getD j (0, 0)).1) ∧ valueB (M.getD j (0, 0)).2 = true
end Go.Proofs.Ytinjainclhfahaa

namespace Go.Proofs.Ytinjainclhfahaa
open Go.RowKit
set_option linter.unusedVariables false

theorem Own.nw {w0 w : World} {A : Option Addr} {n c : Nat} {L : List It} (h : Own w0 w (.slice A n c) n L) : Nw w0 A := by
  intro b o e
  rcases h.2 with ⟨h1, _⟩ | ⟨g, cap, cur, h1, h2, _⟩
  · injection h1 with h1; rw [h1] at e; cases e
  · injection h1 with h1
    rw [h1] at e
    injection e with e
    injection e with e1 e2
    omega
/-- Items whose ticks ascend from 0 on up to z. -/
def mdT (M : List It) (z : Int) : Prop :=
  0 ≤ z ∧ z ≤ 51 * M.length ∧ ∀ j, j < M.length → 0 ≤ (M.getD j (0, 0)).1 ∧ (M.getD j (0, 0)).1 ≤ z ∧ (0 < j → (M.getD (j - 1) (0, 0)).1 ≤ (M.getD j (0, 0)).1)
theorem mdQ.t {M : List It} {z : Int} (h : mdQ M z) : mdT M z :=
  ⟨h.1, h.2.1, fun j hj => ⟨(h.2.2 j hj).1, (h.2.2 j hj).2.1, (h.2.2 j hj).2.2.1⟩⟩
theorem getD_set (M : List It) (i j : Nat) (x : It) (hi : i < M.length) : (M.set i x).getD j (0, 0) = if i = j then x else M.getD j (0, 0) := by
  simp only [List.getD, List.getElem?_set]
  by_cases e : i = j
  · subst e; simp [hi]
  · simp [e]
theorem set_tick (M : List It) (i j : Nat) (y : Int) (hi : i < M.length) : ((M.set i ((M.getD i (0, 0)).1, y)).getD j (0, 0)).1 = (M.getD j (0, 0)).1 := by
  rw [getD_set M i j _ hi]
  by_cases e : i = j
  · subst e; rw [if_pos rfl]
  · rw [if_neg e]
theorem mdT.set_ {M : List It} {z : Int} (h : mdT M z) {i : Nat} (hi : i < M.length) (y : Int) : mdT (M.set i ((M.getD i (0, 0)).1, y)) z := by
  obtain ⟨a, b, c⟩ := h
  refine ⟨a, by rw [List.length_set]; exact b, fun j hj => ?_⟩
  rw [List.length_set] at hj
  rw [set_tick M i j y hi, set_tick M i (j - 1) y hi]
  exact c j hj
theorem Sl.setV {w : World} {b o n i : Nat} {L : List It} {y : Int} (h : Sl w (some ⟨b, o, none⟩) n L) (hi : i < n) :
    Sl (w.setCell ⟨b, o + i * 2 + 1, none⟩ (.int .i64 y)) (some ⟨b, o, none⟩) n (L.set i ((L.getD i (0, 0)).1, y)) := by
  have hl : i < L.length := by rw [h.1]; exact hi
  refine ⟨by rw [List.length_set]; exact h.1, fun h0 => ⟨b, o, rfl, fun j u hj => ?_⟩⟩
  obtain ⟨b', o', e, hc⟩ := h.2 h0
  injection e with e
  injection e with e1 e2
  subst e1 e2
  rw [← fl_set, List.getElem?_set] at hj
  by_cases e : i * 2 + 1 = j
  · subst e
    have h1 := hc _ _ (fl_get1 L i hl)
    rw [if_pos rfl] at hj
    split at hj
    · injection hj with hj
      subst hj
      rw [← Nat.add_assoc] at h1 ⊢
      exact World.cell?_setCell_same _ _ _ h1
    · cases hj
  · rw [if_neg e, List.getElem?_set] at hj
    have hx : (fl L)[j]? = some u := by
      by_cases e2 : i * 2 = j
      · subst e2
        rw [if_pos rfl] at hj
        rw [fl_get0 L i hl]
        split at hj
        · rw [← hj]; simp [List.getD, hl]
        · cases hj
      · rw [if_neg e2] at hj; exact hj
    rw [World.cell?_setCell_other _ _ _ _ (by intro e3; injection e3 with e4 e5; omega)]
    exact hc j u hx

end Go.Proofs.Ytinjainclhfahaa
