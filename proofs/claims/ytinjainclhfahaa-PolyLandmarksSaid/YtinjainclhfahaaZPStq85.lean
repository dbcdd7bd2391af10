/- Texts of these claims, one after the other. -/
import Derived.Test.YtinjainclhfahaaRows
import Derived.Test.YtinjainclhfahaaZHSmallq34
namespace Go.Proofs.Ytinjainclhfahaa

theorem chZ_self (n : Nat) : chZ n n = 1 ∧ ∀ k, n < k → chZ n k = 0 := by
  induction n with
  | zero => exact ⟨rfl, fun k h => by cases k with
    | zero => omega
    | succ k => rfl⟩
  | succ n ih =>
    refine ⟨?_, fun k h => ?_⟩
    · show chZ n n + chZ n (n + 1) = 1
      rw [ih.1, ih.2 (n + 1) (by omega)]; rfl
    · cases k with
      | zero => omega
      | succ k =>
        show chZ n k + chZ n (k + 1) = 0
        rw [ih.2 k (by omega), ih.2 (k + 1) (by omega)]; rfl
end Go.Proofs.Ytinjainclhfahaa

namespace Go.Proofs.Ytinjainclhfahaa
open Go.RowKit

theorem call3 {W w2 : World} (w : World) (u : Up W w2) (hW : Up w W := by (repeat (first | (with_reducible exact Up.refl _) | (with_reducible assumption) | (with_reducible exact Hid.out (by assumption)) | (with_reducible refine Up.alloc ?_ _ _) | (with_reducible refine Up.setCell ?_ ?_ _) | (with_reducible refine Up.drewN ?_ _) | (with_reducible refine Up.drew ?_))); all_goals (first | (simp; done) | (simp; omega) | omega))
    (hs : w.heap.size + 3 ≤ W.heap.size := by first | (simp [go_sem]; done) | (simp [go_sem]; omega) | omega) :
    Hid (Up w w2) ∧ ((∀ o, w2.cell? ⟨w.heap.size, o, none⟩ = W.cell? ⟨w.heap.size, o, none⟩) ∧ (∀ o, w2.cell? ⟨w.heap.size + 1, o, none⟩ = W.cell? ⟨w.heap.size + 1, o, none⟩) ∧ (∀ o, w2.cell? ⟨w.heap.size + 2, o, none⟩ = W.cell? ⟨w.heap.size + 2, o, none⟩)) ∧ (w.heap.size < w2.heap.size ∧ w.heap.size + 1 < w2.heap.size ∧ w.heap.size + 2 < w2.heap.size) ∧ (∀ o, w2.frozen? ⟨w.heap.size, o, none⟩ = false) ∧ (∀ o, w2.frozen? ⟨w.heap.size + 1, o, none⟩ = false) ∧ (∀ o, w2.frozen? ⟨w.heap.size + 2, o, none⟩ = false) :=
  have z := u.size
  have U2 := hW.trans u
  ⟨Lib.hid U2, ⟨fun o => u.cells.1 _ o (by omega), fun o => u.cells.1 _ o (by omega), fun o => u.cells.1 _ o (by omega)⟩, ⟨by omega, by omega, by omega⟩, ⟨fun o => U2.ownGe (by omega) o, fun o => U2.ownGe (by omega) o, fun o => U2.ownGe (by omega) o⟩⟩
end Go.Proofs.Ytinjainclhfahaa
