/- What a call leaves of a function's own variables, as rules. -/
import Derived.Test.YtegaeaonoggmkaaRows
import Derived.Test.YtegaeaonoggmkaaZGLawq34
namespace Go.Proofs.Ytegaeaonoggmkaa
open Go.RowKit

theorem call3 {W w2 : World} (w : World) (u : Up W w2) (hW : Up w W := by (repeat (first | (with_reducible exact Up.refl _) | (with_reducible assumption) | (with_reducible exact Hid.out (by assumption)) | (with_reducible refine Up.alloc ?_ _ _) | (with_reducible refine Up.setCell ?_ ?_ _) | (with_reducible refine Up.drewN ?_ _) | (with_reducible refine Up.drew ?_))); all_goals (first | (simp; done) | (simp; omega) | omega))
    (hs : w.heap.size + 3 ≤ W.heap.size := by first | (simp [go_sem]; done) | (simp [go_sem]; omega) | omega) :
    Hid (Up w w2) ∧ ((∀ o, w2.cell? ⟨w.heap.size, o, none⟩ = W.cell? ⟨w.heap.size, o, none⟩) ∧ (∀ o, w2.cell? ⟨w.heap.size + 1, o, none⟩ = W.cell? ⟨w.heap.size + 1, o, none⟩) ∧ (∀ o, w2.cell? ⟨w.heap.size + 2, o, none⟩ = W.cell? ⟨w.heap.size + 2, o, none⟩)) ∧ (w.heap.size < w2.heap.size ∧ w.heap.size + 1 < w2.heap.size ∧ w.heap.size + 2 < w2.heap.size) ∧ (∀ o, w2.frozen? ⟨w.heap.size, o, none⟩ = false) ∧ (∀ o, w2.frozen? ⟨w.heap.size + 1, o, none⟩ = false) ∧ (∀ o, w2.frozen? ⟨w.heap.size + 2, o, none⟩ = false) :=
  have z := u.size
  have U2 := hW.trans u
  ⟨Lib.hid U2, ⟨fun o => u.cells.1 _ o (by omega), fun o => u.cells.1 _ o (by omega), fun o => u.cells.1 _ o (by omega)⟩, ⟨by omega, by omega, by omega⟩, ⟨fun o => U2.ownGe (by omega) o, fun o => U2.ownGe (by omega) o, fun o => U2.ownGe (by omega) o⟩⟩
end Go.Proofs.Ytegaeaonoggmkaa
