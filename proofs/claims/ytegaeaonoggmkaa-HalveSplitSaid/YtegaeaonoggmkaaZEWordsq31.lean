/- Texts of these claims, one after the other. -/
import Derived.Test.YtegaeaonoggmkaaRows
import Derived.Test.YtegaeaonoggmkaaZMathq15
import Derived.Test.YtegaeaonoggmkaaZWFormatq9
namespace Go.Proofs.Ytegaeaonoggmkaa
open Go.RowKit

/-- A number of three words as a value. -/
def w3 (v : Int) : Value := .agg #[.int .u64 (dg3 v 0), .int .u64 (dg3 v 1), .int .u64 (dg3 v 2)]

end Go.Proofs.Ytegaeaonoggmkaa

namespace Go.Proofs.Ytegaeaonoggmkaa
open Go.RowKit

/-- The cells that the walks of plus, minus and times hold. -/
structure Wp (w wr : World) (xs ys z : Nat → Int) : Prop where
  up : Up w wr
  x : ∀ i, i < 3 → wr.cell? ⟨w.heap.size, i, none⟩ = some (.int .u64 (xs i))
  y : ∀ i, i < 3 → wr.cell? ⟨w.heap.size + 1, i, none⟩ = some (.int .u64 (ys i))
  r : ∀ i, i < 3 → wr.cell? ⟨w.heap.size + 1 + 1, i, none⟩ = some (.int .u64 0)
  z : ∀ i, i < 3 → wr.cell? ⟨w.heap.size + 1 + 1 + 1, i, none⟩ = some (.int .u64 (z i))
theorem Wp.keep {w w1 w2 : World} {xs ys z : Nat → Int} (h : Wp w w1 xs ys z) (hu : Up w1 w2) : Wp w w2 xs ys z :=
  ⟨h.up.trans hu, fun i hi => hu.keep _ _ _ (h.x i hi), fun i hi => hu.keep _ _ _ (h.y i hi), fun i hi => hu.keep _ _ _ (h.r i hi), fun i hi => hu.keep _ _ _ (h.z i hi)⟩
theorem Wp.far {w w1 : World} {g q : Nat} {v : Value} {xs ys z : Nat → Int} (h : Wp w w1 xs ys z) (hg : w.heap.size + 1 + 1 + 1 < g) : Wp w (w1.setCell ⟨g, q, none⟩ v) xs ys z :=
  ⟨h.up.setCell (by show w.heap.size ≤ g; omega) _, fun i hi => (cell_far (by show g ≠ _; omega)).trans (h.x i hi), fun i hi => (cell_far (by show g ≠ _; omega)).trans (h.y i hi), fun i hi => (cell_far (by show g ≠ _; omega)).trans (h.r i hi), fun i hi => (cell_far (by show g ≠ _; omega)).trans (h.z i hi)⟩
theorem Wp.set {w w1 : World} {m : Nat} {t : Int} {xs ys z : Nat → Int} (h : Wp w w1 xs ys z) : Wp w (w1.setCell ⟨w.heap.size + 1 + 1 + 1, m, none⟩ (.int .u64 t)) xs ys (updz z m t) :=
  ⟨h.up.setCell (by show w.heap.size ≤ w.heap.size + 1 + 1 + 1; omega) _, fun i hi => (cell_far (by show w.heap.size + 1 + 1 + 1 ≠ _; omega)).trans (h.x i hi), fun i hi => (cell_far (by show w.heap.size + 1 + 1 + 1 ≠ _; omega)).trans (h.y i hi),
   fun i hi => (cell_far (by show w.heap.size + 1 + 1 + 1 ≠ _; omega)).trans (h.r i hi), fun i hi => by rw [cell_set (h.z i hi)]; unfold updz; by_cases e : m = i <;> simp [e, eq_comm]⟩
theorem Wp.start {w wr : World} {xs ys : Nat → Int} (hu : Up w wr) (x0 : wr.cell? ⟨w.heap.size, 0, none⟩ = some (.int .u64 (xs 0))) (x1 : wr.cell? ⟨w.heap.size, 1, none⟩ = some (.int .u64 (xs 1))) (x2 : wr.cell? ⟨w.heap.size, 2, none⟩ = some (.int .u64 (xs 2)))
    (y0 : wr.cell? ⟨w.heap.size + 1, 0, none⟩ = some (.int .u64 (ys 0))) (y1 : wr.cell? ⟨w.heap.size + 1, 1, none⟩ = some (.int .u64 (ys 1))) (y2 : wr.cell? ⟨w.heap.size + 1, 2, none⟩ = some (.int .u64 (ys 2)))
    (r0 : wr.cell? ⟨w.heap.size + 1 + 1, 0, none⟩ = some (.int .u64 0)) (r1 : wr.cell? ⟨w.heap.size + 1 + 1, 1, none⟩ = some (.int .u64 0)) (r2 : wr.cell? ⟨w.heap.size + 1 + 1, 2, none⟩ = some (.int .u64 0))
    (z0 : wr.cell? ⟨w.heap.size + 1 + 1 + 1, 0, none⟩ = some (.int .u64 0)) (z1 : wr.cell? ⟨w.heap.size + 1 + 1 + 1, 1, none⟩ = some (.int .u64 0)) (z2 : wr.cell? ⟨w.heap.size + 1 + 1 + 1, 2, none⟩ = some (.int .u64 0)) : Wp w wr xs ys (fun _ => 0) := by
  refine ⟨hu, fun i hi => ?_, fun i hi => ?_, fun i hi => ?_, fun i hi => ?_⟩ <;> (rcases (by omega : i = 0 ∨ i = 1 ∨ i = 2) with rfl | rfl | rfl) <;> assumption
end Go.Proofs.Ytegaeaonoggmkaa

namespace Go.Proofs.Ytegaeaonoggmkaa
open Go.RowKit

/-- No element lies in the cells from place i on. -/
def zf (c h : Nat) (L : List It) (i : Nat) : Bool := decide (∀ k, k < c → i ≤ k → L.getD ((h + k) % c) (0, 0) = (0, 0))
end Go.Proofs.Ytegaeaonoggmkaa
