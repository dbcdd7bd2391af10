/- Texts of these claims, one after the other. -/
import Derived.Test.YtafkoddgefcpnaaRows
import Derived.Test.YtafkoddgefcpnaaZWMathq0
namespace Go.Proofs.Ytafkoddgefcpnaa
open Go.RowKit

/-- Cells that stay as they were, all of them in the first blocks. -/
structure Bd (w : World) (m : Nat) (L : List (Nat × Nat × Value)) (wr : World) : Prop where
  up : Up w wr
  kp : ∀ x ∈ L, wr.cell? ⟨x.1, x.2.1, none⟩ = some x.2.2
  lt : ∀ x ∈ L, x.1 ≤ w.heap.size + m
theorem Bd.keep {w w1 w2 : World} {m : Nat} {L : List (Nat × Nat × Value)} (h : Bd w m L w1) (hu : Up w1 w2) : Bd w m L w2 :=
  ⟨h.up.trans hu, fun x hx => hu.keep _ _ _ (h.kp x hx), h.lt⟩
end Go.Proofs.Ytafkoddgefcpnaa

namespace Go.Proofs.Ytafkoddgefcpnaa
open Go.RowKit

/-- The cells that the walk of atMost holds. -/
structure Am (w wr : World) (a0 a1 a2 a3 b0 b1 b2 b3 : Int) : Prop where
  up : Up w wr
  x0 : wr.cell? ⟨w.heap.size, 0, none⟩ = some (.int .u64 a0)
  x1 : wr.cell? ⟨w.heap.size, 1, none⟩ = some (.int .u64 a1)
  x2 : wr.cell? ⟨w.heap.size, 2, none⟩ = some (.int .u64 a2)
  x3 : wr.cell? ⟨w.heap.size, 3, none⟩ = some (.int .u64 a3)
  y0 : wr.cell? ⟨w.heap.size + 1, 0, none⟩ = some (.int .u64 b0)
  y1 : wr.cell? ⟨w.heap.size + 1, 1, none⟩ = some (.int .u64 b1)
  y2 : wr.cell? ⟨w.heap.size + 1, 2, none⟩ = some (.int .u64 b2)
  y3 : wr.cell? ⟨w.heap.size + 1, 3, none⟩ = some (.int .u64 b3)
theorem Am.keep {w w1 w2 : World} {a0 a1 a2 a3 b0 b1 b2 b3 : Int} (h : Am w w1 a0 a1 a2 a3 b0 b1 b2 b3) (hu : Up w1 w2) : Am w w2 a0 a1 a2 a3 b0 b1 b2 b3 :=
  ⟨h.up.trans hu, hu.keep _ _ _ h.x0, hu.keep _ _ _ h.x1, hu.keep _ _ _ h.x2, hu.keep _ _ _ h.x3, hu.keep _ _ _ h.y0, hu.keep _ _ _ h.y1, hu.keep _ _ _ h.y2, hu.keep _ _ _ h.y3⟩

end Go.Proofs.Ytafkoddgefcpnaa

namespace Go.Proofs.Ytafkoddgefcpnaa
open Go.RowKit

/-- The cells that the walk of product holds. -/
structure Pr (w wr : World) (p0 p1 p2 p3 bh bl : Int) : Prop where
  up : Up w wr
  b0 : wr.cell? ⟨w.heap.size + 1, 0, none⟩ = some (.int .u64 bh)
  b1 : wr.cell? ⟨w.heap.size + 1, 1, none⟩ = some (.int .u64 bl)
  r0 : wr.cell? ⟨w.heap.size + 1 + 1, 0, none⟩ = some (.int .u64 0)
  r1 : wr.cell? ⟨w.heap.size + 1 + 1, 1, none⟩ = some (.int .u64 0)
  r2 : wr.cell? ⟨w.heap.size + 1 + 1, 2, none⟩ = some (.int .u64 0)
  r3 : wr.cell? ⟨w.heap.size + 1 + 1, 3, none⟩ = some (.int .u64 0)
  c0 : wr.cell? ⟨w.heap.size + 1 + 1 + 1, 0, none⟩ = some (.int .u64 p0)
  c1 : wr.cell? ⟨w.heap.size + 1 + 1 + 1, 1, none⟩ = some (.int .u64 p1)
  c2 : wr.cell? ⟨w.heap.size + 1 + 1 + 1, 2, none⟩ = some (.int .u64 p2)
  c3 : wr.cell? ⟨w.heap.size + 1 + 1 + 1, 3, none⟩ = some (.int .u64 p3)
theorem Pr.keep {w w1 w2 : World} {p0 p1 p2 p3 bh bl : Int} (h : Pr w w1 p0 p1 p2 p3 bh bl) (hu : Up w1 w2) : Pr w w2 p0 p1 p2 p3 bh bl :=
  ⟨h.up.trans hu, hu.keep _ _ _ h.b0, hu.keep _ _ _ h.b1, hu.keep _ _ _ h.r0, hu.keep _ _ _ h.r1, hu.keep _ _ _ h.r2, hu.keep _ _ _ h.r3, hu.keep _ _ _ h.c0, hu.keep _ _ _ h.c1, hu.keep _ _ _ h.c2, hu.keep _ _ _ h.c3⟩
end Go.Proofs.Ytafkoddgefcpnaa
