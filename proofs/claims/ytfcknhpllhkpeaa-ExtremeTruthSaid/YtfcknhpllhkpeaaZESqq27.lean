/- What squares and Squares of package exact return, and awake of the laws of layer 8. -/
import Derived.Test.YtfcknhpllhkpeaaRows
import Derived.Test.YtfcknhpllhkpeaaZESqq25
import Derived.Test.YtfcknhpllhkpeaaZUMathq14
namespace Go.Proofs.Ytfcknhpllhkpeaa
open Go.RowKit

theorem Sq.set {w w1 : World} {v u : Int} (h : Sq w w1 v) : Sq w (((w1.setCell ⟨w.heap.size + 1, 0, none⟩ (.int .u64 (dg3 u 0))).setCell ⟨w.heap.size + 1, 1, none⟩ (.int .u64 (dg3 u 1))).setCell ⟨w.heap.size + 1, 2, none⟩ (.int .u64 (dg3 u 2))) u := by
  have far : ∀ (W : World) (i : Nat) (x : Value) (q : Nat) (y : Value), W.cell? ⟨w.heap.size, q, none⟩ = some y → (W.setCell ⟨w.heap.size + 1, i, none⟩ x).cell? ⟨w.heap.size, q, none⟩ = some y := fun W i x q y hy => (cell_far (by show w.heap.size + 1 ≠ w.heap.size; omega)).trans hy
  refine ⟨((h.up.setCell (by show w.heap.size ≤ w.heap.size + 1; omega) _).setCell (by show w.heap.size ≤ w.heap.size + 1; omega) _).setCell (by show w.heap.size ≤ w.heap.size + 1; omega) _, far _ _ _ _ _ (far _ _ _ _ _ (far _ _ _ _ _ h.r0)), far _ _ _ _ _ (far _ _ _ _ _ (far _ _ _ _ _ h.r1)), far _ _ _ _ _ (far _ _ _ _ _ (far _ _ _ _ _ h.r2)), ?_, ?_, ?_⟩
  · rw [cell_set (cell_set (cell_set h.s0))]; rfl
  · rw [cell_set (cell_set (cell_set h.s1))]; rfl
  · rw [cell_set (cell_set (cell_set h.s2))]; rfl

end Go.Proofs.Ytfcknhpllhkpeaa
