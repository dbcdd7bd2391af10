/- Texts of these claims, one after the other. -/
import Derived.Test.YtchikndofpkjmaaRows
import Derived.Test.YtchikndofpkjmaaZWMathq0
namespace Go.Proofs.Ytchikndofpkjmaa
open Go.RowKit

/-- The cells of the six numbers that the walk of the reference's Div holds. -/
structure Dv (w wr : World) (ah al bh bl q r : Int) : Prop where
  up : Up w wr
  a0 : wr.cell? ⟨w.heap.size, 0, none⟩ = some (.int .u64 ah)
  a1 : wr.cell? ⟨w.heap.size, 1, none⟩ = some (.int .u64 al)
  b0 : wr.cell? ⟨w.heap.size + 1, 0, none⟩ = some (.int .u64 bh)
  b1 : wr.cell? ⟨w.heap.size + 1, 1, none⟩ = some (.int .u64 bl)
  s0 : wr.cell? ⟨w.heap.size + 1 + 1, 0, none⟩ = some (.int .u64 0)
  s1 : wr.cell? ⟨w.heap.size + 1 + 1, 1, none⟩ = some (.int .u64 0)
  t0 : wr.cell? ⟨w.heap.size + 1 + 1 + 1, 0, none⟩ = some (.int .u64 0)
  t1 : wr.cell? ⟨w.heap.size + 1 + 1 + 1, 1, none⟩ = some (.int .u64 0)
  q0 : wr.cell? ⟨w.heap.size + 1 + 1 + 1 + 1, 0, none⟩ = some (.int .u64 (hiZ q))
  q1 : wr.cell? ⟨w.heap.size + 1 + 1 + 1 + 1, 1, none⟩ = some (.int .u64 (loZ q))
  r0 : wr.cell? ⟨w.heap.size + 1 + 1 + 1 + 1 + 1, 0, none⟩ = some (.int .u64 (hiZ r))
  r1 : wr.cell? ⟨w.heap.size + 1 + 1 + 1 + 1 + 1, 1, none⟩ = some (.int .u64 (loZ r))
theorem Dv.keep {w w1 w2 : World} {ah al bh bl q r : Int} (h : Dv w w1 ah al bh bl q r) (hu : Up w1 w2) : Dv w w2 ah al bh bl q r :=
  ⟨h.up.trans hu, hu.keep _ _ _ h.a0, hu.keep _ _ _ h.a1, hu.keep _ _ _ h.b0, hu.keep _ _ _ h.b1, hu.keep _ _ _ h.s0, hu.keep _ _ _ h.s1, hu.keep _ _ _ h.t0, hu.keep _ _ _ h.t1, hu.keep _ _ _ h.q0, hu.keep _ _ _ h.q1, hu.keep _ _ _ h.r0, hu.keep _ _ _ h.r1⟩
end Go.Proofs.Ytchikndofpkjmaa

namespace Go.Proofs.Ytchikndofpkjmaa
open Go.RowKit

theorem Dv.drew {w w1 : World} {ah al bh bl q r : Int} (h : Dv w w1 ah al bh bl q r) : Dv w w1.drew ah al bh bl q r := h.keep (Up.refl _).drew

end Go.Proofs.Ytchikndofpkjmaa
