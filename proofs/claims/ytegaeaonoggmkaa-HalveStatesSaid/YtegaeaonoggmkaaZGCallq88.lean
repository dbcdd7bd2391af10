/- What a call leaves of a function's own variables, as rules. -/
import Derived.Test.YtegaeaonoggmkaaRows
import Derived.Test.YtegaeaonoggmkaaZGLawq34
namespace Go.Proofs.Ytegaeaonoggmkaa
open Go.RowKit

theorem hold5 {W w2 : World} (w : World) (b0 b1 b2 b3 b4 : Nat) (u : Up W w2) (hW : Up w W := by (repeat (first | (with_reducible exact Up.refl _) | (with_reducible assumption) | (with_reducible exact Hid.out (by assumption)) | (with_reducible refine Up.alloc ?_ _ _) | (with_reducible refine Up.setCell ?_ ?_ _) | (with_reducible refine Up.drewN ?_ _) | (with_reducible refine Up.drew ?_))); all_goals (first | (simp; done) | (simp; omega) | omega)) (h0 : b0 < W.heap.size := by first | assumption | omega | (simp [go_sem]; done) | (simp [go_sem]; omega)) (h1 : b1 < W.heap.size := by first | assumption | omega | (simp [go_sem]; done) | (simp [go_sem]; omega)) (h2 : b2 < W.heap.size := by first | assumption | omega | (simp [go_sem]; done) | (simp [go_sem]; omega)) (h3 : b3 < W.heap.size := by first | assumption | omega | (simp [go_sem]; done) | (simp [go_sem]; omega)) (h4 : b4 < W.heap.size := by first | assumption | omega | (simp [go_sem]; done) | (simp [go_sem]; omega)) :
    Hid (Up w w2) ∧ ((∀ o, w2.cell? ⟨b0, o, none⟩ = W.cell? ⟨b0, o, none⟩) ∧ (∀ o, w2.cell? ⟨b1, o, none⟩ = W.cell? ⟨b1, o, none⟩) ∧ (∀ o, w2.cell? ⟨b2, o, none⟩ = W.cell? ⟨b2, o, none⟩) ∧ (∀ o, w2.cell? ⟨b3, o, none⟩ = W.cell? ⟨b3, o, none⟩) ∧ (∀ o, w2.cell? ⟨b4, o, none⟩ = W.cell? ⟨b4, o, none⟩)) ∧ b0 < w2.heap.size ∧ b1 < w2.heap.size ∧ b2 < w2.heap.size ∧ b3 < w2.heap.size ∧ b4 < w2.heap.size :=
  have z := u.size
  ⟨Lib.hid (hW.trans u), ⟨fun o => u.cells.1 _ o h0, fun o => u.cells.1 _ o h1, fun o => u.cells.1 _ o h2, fun o => u.cells.1 _ o h3, fun o => u.cells.1 _ o h4⟩, ⟨(by omega), (by omega), (by omega), (by omega), (by omega)⟩⟩
end Go.Proofs.Ytegaeaonoggmkaa
