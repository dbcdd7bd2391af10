/- Texts of these claims, one after the other. -/
import Derived.Test.YtinjainclhfahaaRows
import Derived.Test.YtinjainclhfahaaZEPlusq23
import Derived.Test.YtinjainclhfahaaZHSmallq34
namespace Go.Proofs.Ytinjainclhfahaa
open Go.RowKit

/-- Items whose ticks and values are int64. -/
def InI (L : List It) : Prop := ∀ x ∈ L, In x.1 ∧ In x.2
theorem InI.at_ {L : List It} (h : InI L) {i : Nat} (hi : i < L.length) : In (L.getD i (0, 0)).1 ∧ In (L.getD i (0, 0)).2 := h _ (by simp [List.getD, hi])
/-- What the walk of squares holds. -/
structure Sq (w wr : World) (v : Int) : Prop where
  up : Up w wr
  r0 : wr.cell? ⟨w.heap.size, 0, none⟩ = some (.int .u64 0)
  r1 : wr.cell? ⟨w.heap.size, 1, none⟩ = some (.int .u64 0)
  r2 : wr.cell? ⟨w.heap.size, 2, none⟩ = some (.int .u64 0)
  s0 : wr.cell? ⟨w.heap.size + 1, 0, none⟩ = some (.int .u64 (dg3 v 0))
  s1 : wr.cell? ⟨w.heap.size + 1, 1, none⟩ = some (.int .u64 (dg3 v 1))
  s2 : wr.cell? ⟨w.heap.size + 1, 2, none⟩ = some (.int .u64 (dg3 v 2))
theorem Sq.keep {w w1 w2 : World} {v : Int} (h : Sq w w1 v) (hu : Up w1 w2) : Sq w w2 v :=
  ⟨h.up.trans hu, hu.keep _ _ _ h.r0, hu.keep _ _ _ h.r1, hu.keep _ _ _ h.r2, hu.keep _ _ _ h.s0, hu.keep _ _ _ h.s1, hu.keep _ _ _ h.s2⟩
theorem Sq.set {w w1 : World} {v u : Int} (h : Sq w w1 v) : Sq w (((w1.setCell ⟨w.heap.size + 1, 0, none⟩ (.int .u64 (dg3 u 0))).setCell ⟨w.heap.size + 1, 1, none⟩ (.int .u64 (dg3 u 1))).setCell ⟨w.heap.size + 1, 2, none⟩ (.int .u64 (dg3 u 2))) u := by
  have far : ∀ (W : World) (i : Nat) (x : Value) (q : Nat) (y : Value), W.cell? ⟨w.heap.size, q, none⟩ = some y → (W.setCell ⟨w.heap.size + 1, i, none⟩ x).cell? ⟨w.heap.size, q, none⟩ = some y := fun W i x q y hy => (cell_far (by show w.heap.size + 1 ≠ w.heap.size; omega)).trans hy
  refine ⟨((h.up.setCell (by show w.heap.size ≤ w.heap.size + 1; omega) _).setCell (by show w.heap.size ≤ w.heap.size + 1; omega) _).setCell (by show w.heap.size ≤ w.heap.size + 1; omega) _, far _ _ _ _ _ (far _ _ _ _ _ (far _ _ _ _ _ h.r0)), far _ _ _ _ _ (far _ _ _ _ _ (far _ _ _ _ _ h.r1)), far _ _ _ _ _ (far _ _ _ _ _ (far _ _ _ _ _ h.r2)), ?_, ?_, ?_⟩
  · rw [cell_set (cell_set (cell_set h.s0))]; rfl
  · rw [cell_set (cell_set (cell_set h.s1))]; rfl
  · rw [cell_set (cell_set (cell_set h.s2))]; rfl

end Go.Proofs.Ytinjainclhfahaa

namespace Go.Proofs.Ytinjainclhfahaa
open Go.RowKit

def mayB (v c now : Int) : Bool := (tickB now && winB v) && decide (1 ≤ c ∧ c ≤ 65536)
theorem mayB_true {v c now : Int} (h : mayB v c now = true) : tickB now = true ∧ winB v = true ∧ 1 ≤ c ∧ c ≤ 65536 := by
  unfold mayB at h
  simp only [Bool.and_eq_true, decide_eq_true_eq] at h
  exact ⟨h.1.1, h.1.2, h.2⟩
end Go.Proofs.Ytinjainclhfahaa

namespace Go.Proofs.Ytinjainclhfahaa
open Go.RowKit

def valueB (v : Int) : Bool := decide (-4096 ≤ v ∧ v ≤ 4096)
end Go.Proofs.Ytinjainclhfahaa

namespace Go.Proofs.Ytinjainclhfahaa
open Go.RowKit

/-- What the walk of total holds. -/
structure Tt (w wr : World) (p q : Int) : Prop where
  up : Up w wr
  r0 : wr.cell? ⟨w.heap.size, 0, none⟩ = some (.int .u64 0)
  r1 : wr.cell? ⟨w.heap.size, 1, none⟩ = some (.int .u64 0)
  a0 : wr.cell? ⟨w.heap.size + 1, 0, none⟩ = some (.int .u64 (hiZ p))
  a1 : wr.cell? ⟨w.heap.size + 1, 1, none⟩ = some (.int .u64 (loZ p))
  b0 : wr.cell? ⟨w.heap.size + 1 + 1, 0, none⟩ = some (.int .u64 (hiZ q))
  b1 : wr.cell? ⟨w.heap.size + 1 + 1, 1, none⟩ = some (.int .u64 (loZ q))
theorem Tt.keep {w w1 w2 : World} {p q : Int} (h : Tt w w1 p q) (hu : Up w1 w2) : Tt w w2 p q :=
  ⟨h.up.trans hu, hu.keep _ _ _ h.r0, hu.keep _ _ _ h.r1, hu.keep _ _ _ h.a0, hu.keep _ _ _ h.a1, hu.keep _ _ _ h.b0, hu.keep _ _ _ h.b1⟩
end Go.Proofs.Ytinjainclhfahaa

namespace Go.Proofs.Ytinjainclhfahaa
open Go.RowKit

theorem InI.take {L : List It} (h : InI L) (i : Nat) : InI (L.take i) := fun x hx => h x (List.mem_of_mem_take hx)
end Go.Proofs.Ytinjainclhfahaa
