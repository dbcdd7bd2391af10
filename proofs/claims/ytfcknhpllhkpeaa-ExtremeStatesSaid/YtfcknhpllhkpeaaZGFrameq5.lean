/- Texts of these claims, one after the other. -/
import Derived.Test.YtfcknhpllhkpeaaRows
import Derived.Test.YtfcknhpllhkpeaaZGBaseq3
namespace Go.Proofs.Ytfcknhpllhkpeaa
open Go.ChangeShapes Go.WideShapes Go.ChangeAt Go.RowKit Go.Joins Go.Deep

theorem laid_out : laidOutB Try.prog = true := by kernel_rfl
section
variable {H : Type} {enc : TypeId × Value → H} {w : World} {base : Nat} {spare : Nat → Bool} {held : Bool}
theorem stay {t : TypeId} (hr : Try.prog.readableRec t = true) (hrow : t < Try.prog.types.size) {W W' : World} {v : Value} {d : DataW H} {ps before : List MemPlace} {sp : Nat → Bool}
    (h : DataW.Trod enc Try.prog W 0 (fun _ => true) true t v d ps) (hu : Up W W') (hlt : ∀ x ∈ before, x.block < W.heap.size) (hsub : ∀ x ∈ ps, x ∈ before) (hsp : ∀ x ∈ before, sp x.block = true) :
    DataW.Trod enc Try.prog W' 0 sp true t v d ps :=
  WideElems.Trod_stays laid_out hr hrow h (fun x hx => hu.below.same (hlt x (hsub x hx))) (fun x hx => hsp x (hsub x hx))
end
end Go.Proofs.Ytfcknhpllhkpeaa

namespace Go.Proofs.Ytfcknhpllhkpeaa
open Go.RowKit

/-- A number of three words as a value. -/
def w3 (v : Int) : Value := .agg #[.int .u64 (dg3 v 0), .int .u64 (dg3 v 1), .int .u64 (dg3 v 2)]

end Go.Proofs.Ytfcknhpllhkpeaa

namespace Go.Proofs.Ytfcknhpllhkpeaa
open Go.RowKit

/-- The cells that the walks of plus, minus and times hold. -/
structure Wp (w wr : World) (xs ys z : Nat → Int) : Prop where
  up : Up w wr
  x : ∀ i, i < 3 → wr.cell? ⟨w.heap.size, i, none⟩ = some (.int .u64 (xs i))
  y : ∀ i, i < 3 → wr.cell? ⟨w.heap.size + 1, i, none⟩ = some (.int .u64 (ys i))
  r : ∀ i, i < 3 → wr.cell? ⟨w.heap.size + 1 + 1, i, none⟩ = some (.int .u64 0)
  z : ∀ i, i < 3 → wr.cell? ⟨w.heap.size + 1 + 1 + 1, i, none⟩ = some (.int .u64 (z i))
theorem Wp.keep {w w1 w2 : World} {xs ys z : Nat → Int} (h : Wp w w1 xs ys z) (hu : Up w1 w2) : Wp w w2 xs ys z :=
  ⟨h.up.trans hu, fun i hi => hu.keep _ _ _ (h.x i hi), fun i hi => hu.keep _ _ _ (h.y i hi), fun i hi => hu.keep _ _ _ (h.r i hi), fun i hi => hu.keep _ _ _ (h.z i hi)⟩
theorem Wp.start {w wr : World} {xs ys : Nat → Int} (hu : Up w wr) (x0 : wr.cell? ⟨w.heap.size, 0, none⟩ = some (.int .u64 (xs 0))) (x1 : wr.cell? ⟨w.heap.size, 1, none⟩ = some (.int .u64 (xs 1))) (x2 : wr.cell? ⟨w.heap.size, 2, none⟩ = some (.int .u64 (xs 2)))
    (y0 : wr.cell? ⟨w.heap.size + 1, 0, none⟩ = some (.int .u64 (ys 0))) (y1 : wr.cell? ⟨w.heap.size + 1, 1, none⟩ = some (.int .u64 (ys 1))) (y2 : wr.cell? ⟨w.heap.size + 1, 2, none⟩ = some (.int .u64 (ys 2)))
    (r0 : wr.cell? ⟨w.heap.size + 1 + 1, 0, none⟩ = some (.int .u64 0)) (r1 : wr.cell? ⟨w.heap.size + 1 + 1, 1, none⟩ = some (.int .u64 0)) (r2 : wr.cell? ⟨w.heap.size + 1 + 1, 2, none⟩ = some (.int .u64 0))
    (z0 : wr.cell? ⟨w.heap.size + 1 + 1 + 1, 0, none⟩ = some (.int .u64 0)) (z1 : wr.cell? ⟨w.heap.size + 1 + 1 + 1, 1, none⟩ = some (.int .u64 0)) (z2 : wr.cell? ⟨w.heap.size + 1 + 1 + 1, 2, none⟩ = some (.int .u64 0)) : Wp w wr xs ys (fun _ => 0) := by
  refine ⟨hu, fun i hi => ?_, fun i hi => ?_, fun i hi => ?_, fun i hi => ?_⟩ <;> (rcases (by omega : i = 0 ∨ i = 1 ∨ i = 2) with rfl | rfl | rfl) <;> assumption
end Go.Proofs.Ytfcknhpllhkpeaa
