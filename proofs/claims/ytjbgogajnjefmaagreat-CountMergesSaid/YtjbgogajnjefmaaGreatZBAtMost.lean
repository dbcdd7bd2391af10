/- What atMost of package bounds, and of its reference, returns. -/
import Derived.Test.YtjbgogajnjefmaaGreatZWKeepm7
import Derived.Test.YtjbgogajnjefmaaGreatZWMathm8
import Derived.Test.YtjbgogajnjefmaaGreatZWShortm3
namespace Go.Proofs.YtjbgogajnjefmaaGreat
open Go.RowKit

/-- The cells that the walk of atMost holds. -/
structure Am (w wr : World) (a0 a1 a2 a3 b0 b1 b2 b3 : Int) : Prop where
  up : Up w wr
  x0 : wr.cell? ⟨w.heap.size, 0, none⟩ = some (.int .u64 a0)
  x1 : wr.cell? ⟨w.heap.size, 1, none⟩ = some (.int .u64 a1)
  x2 : wr.cell? ⟨w.heap.size, 2, none⟩ = some (.int .u64 a2)
  x3 : wr.cell? ⟨w.heap.size, 3, none⟩ = some (.int .u64 a3)
  y0 : wr.cell? ⟨w.heap.size + 1, 0, none⟩ = some (.int .u64 b0)
  y1 : wr.cell? ⟨w.heap.size + 1, 1, none⟩ = some (.int .u64 b1)
  y2 : wr.cell? ⟨w.heap.size + 1, 2, none⟩ = some (.int .u64 b2)
  y3 : wr.cell? ⟨w.heap.size + 1, 3, none⟩ = some (.int .u64 b3)
theorem Am.keep {w w1 w2 : World} {a0 a1 a2 a3 b0 b1 b2 b3 : Int} (h : Am w w1 a0 a1 a2 a3 b0 b1 b2 b3) (hu : Up w1 w2) : Am w w2 a0 a1 a2 a3 b0 b1 b2 b3 :=
  ⟨h.up.trans hu, hu.keep _ _ _ h.x0, hu.keep _ _ _ h.x1, hu.keep _ _ _ h.x2, hu.keep _ _ _ h.x3, hu.keep _ _ _ h.y0, hu.keep _ _ _ h.y1, hu.keep _ _ _ h.y2, hu.keep _ _ _ h.y3⟩

end Go.Proofs.YtjbgogajnjefmaaGreat
