/- Texts of these claims, one after the other. -/
import Derived.Test.YtafkoddgefcpnaaRows
import Derived.Test.YtafkoddgefcpnaaZWMathq0
namespace Go.Proofs.Ytafkoddgefcpnaa
open Go.RowKit

/-- The cells that the walk of Gcd holds. -/
structure Gc (w wr : World) (x y : Int) : Prop where
  up : Up w wr
  a0 : wr.cell? ⟨w.heap.size, 0, none⟩ = some (.int .u64 (hiZ x))
  a1 : wr.cell? ⟨w.heap.size, 1, none⟩ = some (.int .u64 (loZ x))
  b0 : wr.cell? ⟨w.heap.size + 1, 0, none⟩ = some (.int .u64 (hiZ y))
  b1 : wr.cell? ⟨w.heap.size + 1, 1, none⟩ = some (.int .u64 (loZ y))
  s0 : wr.cell? ⟨w.heap.size + 1 + 1, 0, none⟩ = some (.int .u64 0)
  s1 : wr.cell? ⟨w.heap.size + 1 + 1, 1, none⟩ = some (.int .u64 0)
theorem Gc.keep {w w1 w2 : World} {x y : Int} (h : Gc w w1 x y) (hu : Up w1 w2) : Gc w w2 x y :=
  ⟨h.up.trans hu, hu.keep _ _ _ h.a0, hu.keep _ _ _ h.a1, hu.keep _ _ _ h.b0, hu.keep _ _ _ h.b1, hu.keep _ _ _ h.s0, hu.keep _ _ _ h.s1⟩

end Go.Proofs.Ytafkoddgefcpnaa

namespace Go.Proofs.Ytafkoddgefcpnaa
open Go.RowKit

/-- The two cells of a result hold numbers. -/
def Res2 (w' : World) (b : Nat) : Prop := ∃ v0 v1 : Int, w'.cell? ⟨b, 0, none⟩ = some (.int .i64 v0) ∧ w'.cell? ⟨b, 1, none⟩ = some (.int .i64 v1)
theorem Res2.keep {w1 w2 : World} {b : Nat} (hu : Up w1 w2) (h : Res2 w1 b) : Res2 w2 b := by
  obtain ⟨v0, v1, h0, h1⟩ := h
  exact ⟨v0, v1, hu.keep _ _ _ h0, hu.keep _ _ _ h1⟩
end Go.Proofs.Ytafkoddgefcpnaa
