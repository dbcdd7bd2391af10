/- Texts of these claims, one after the other. -/
import Derived.Test.YtinjainclhfahaaRows
import Derived.Test.YtinjainclhfahaaZGBaseq14
import Derived.Test.YtinjainclhfahaaZHOrdq35
namespace Go.Proofs.Ytinjainclhfahaa
open Go.RowKit

theorem tyL_len (f : Nat → Int) : (tyL f).length = 31 := by simp [tyL]
theorem tyL_set (f : Nat → Int) (m : Nat) (x : Int) : (tyL f).set m (.int .i64 x) = tyL (fun j => if j = m then x else f j) := by
  apply List.ext_getElem?
  intro j
  rw [List.getElem?_set]
  by_cases hj : j < 31
  · rw [tyL_at _ hj, tyL_at _ hj]
    by_cases e : m = j
    · subst e; simp [tyL_len, hj]
    · rw [if_neg e, if_neg (fun h => e h.symm)]
  · rw [List.getElem?_eq_none (by rw [tyL_len]; omega), List.getElem?_eq_none (by rw [tyL_len]; omega)]
    by_cases e : m = j
    · rw [if_pos e, if_neg (by rw [tyL_len]; omega)]
    · rw [if_neg e]
end Go.Proofs.Ytinjainclhfahaa

namespace Go.Proofs.Ytinjainclhfahaa
open Go.RowKit

theorem Mk.set_ {w : World} {g : Nat} {f : Nat → Int} (h : Mk w g f) (m : Nat) (x : Int) : Mk (w.setCell ⟨g, m, none⟩ (.int .i64 x)) g (fun j => if j = m then x else f j) := by
  have h1 := Blk.set_ h m (.int .i64 x)
  unfold Mk
  rw [← tyL_set]
  simpa using h1
end Go.Proofs.Ytinjainclhfahaa

namespace Go.Proofs.Ytinjainclhfahaa
open Go.RowKit

theorem il_len (L : List Int) : (il L).length = L.length := by simp [il]
theorem il_at {L : List Int} {j : Nat} (h : j < L.length) : (il L)[j]? = some (.int .i64 (L.getD j 0)) := by simp [il, List.getD, h]
theorem OwI.sl {w0 w : World} {v : Value} {n : Nat} {L : List Int} (h : OwI w0 w v n L) : ∃ A c, v = .slice A n c ∧ n ≤ c ∧ Sn w A n L := by
  have hn : L.length = n := by have := h.1; rw [il_len] at this; omega
  rcases h.2 with ⟨rfl, rfl⟩ | ⟨g, cap, cur, rfl, _, hh, hc, _, hs, ht⟩
  · exact ⟨none, 0, rfl, Nat.le_refl _, hn, fun hx => absurd hx (by omega)⟩
  · refine ⟨some ⟨g, 0, none⟩, cap, rfl, hc, hn, fun _ => ⟨g, 0, rfl, fun j hj => ?_⟩⟩
    rw [Nat.zero_add, cell_of_row w g j cur _ (0, 0) hh]
    have e := il_at (L := L) (j := j) (by omega)
    rw [← ht, List.getElem?_take] at e
    split at e
    · simpa using e
    · cases e
end Go.Proofs.Ytinjainclhfahaa
