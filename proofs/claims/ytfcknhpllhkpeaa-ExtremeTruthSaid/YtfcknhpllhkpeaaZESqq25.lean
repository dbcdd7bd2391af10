/- Texts of these claims, one after the other. -/
import Derived.Test.YtfcknhpllhkpeaaRows
import Derived.Test.YtfcknhpllhkpeaaZCClockq29
import Derived.Test.YtfcknhpllhkpeaaZGFrameq5
import Derived.Test.YtfcknhpllhkpeaaZGLawq24
namespace Go.Proofs.Ytfcknhpllhkpeaa
open Go.RowKit

/-- Items whose ticks and values are int64. -/
def InI (L : List It) : Prop := ∀ x ∈ L, In x.1 ∧ In x.2
theorem InI.at_ {L : List It} (h : InI L) {i : Nat} (hi : i < L.length) : In (L.getD i (0, 0)).1 ∧ In (L.getD i (0, 0)).2 := h _ (by simp [List.getD, hi])
/-- What the walk of squares holds. -/
structure Sq (w wr : World) (v : Int) : Prop where
  up : Up w wr
  r0 : wr.cell? ⟨w.heap.size, 0, none⟩ = some (.int .u64 0)
  r1 : wr.cell? ⟨w.heap.size, 1, none⟩ = some (.int .u64 0)
  r2 : wr.cell? ⟨w.heap.size, 2, none⟩ = some (.int .u64 0)
  s0 : wr.cell? ⟨w.heap.size + 1, 0, none⟩ = some (.int .u64 (dg3 v 0))
  s1 : wr.cell? ⟨w.heap.size + 1, 1, none⟩ = some (.int .u64 (dg3 v 1))
  s2 : wr.cell? ⟨w.heap.size + 1, 2, none⟩ = some (.int .u64 (dg3 v 2))
theorem Sq.keep {w w1 w2 : World} {v : Int} (h : Sq w w1 v) (hu : Up w1 w2) : Sq w w2 v :=
  ⟨h.up.trans hu, hu.keep _ _ _ h.r0, hu.keep _ _ _ h.r1, hu.keep _ _ _ h.r2, hu.keep _ _ _ h.s0, hu.keep _ _ _ h.s1, hu.keep _ _ _ h.s2⟩
end Go.Proofs.Ytfcknhpllhkpeaa

namespace Go.Proofs.Ytfcknhpllhkpeaa
open Go.RowKit

/-- append of one item, in the world that stands behind its own row of one item. -/
theorem append1I_run (ty : TypeId) (w0 w : World) (A : Option Addr) (n k : Nat) (L : List It) (p0 p1 : Int) (hO : Own w0 w (.slice A n k) n L) (hu : Up w0 w) (hlen : n + 1 ≤ 1000000) :
    ∃ A' k' w', (Builtin.append_ #[22, 22] ty #[.slice A n k, .slice (some ⟨w.heap.size, 0, none⟩) 1 1]).run Try.prog (w.alloc (.cells #[.int .i64 p0, .int .i64 p1] 41)) = .ok (.slice A' (n + 1) k') w' ∧ Own w0 w' (.slice A' (n + 1) k') (n + 1) (L ++ [(p0, p1)]) ∧ Up w0 w' := by
  obtain ⟨v', w', hr, h1, h2⟩ := append_run ty w0 (w.alloc (.cells #[.int .i64 p0, .int .i64 p1] 41)) (.slice A n k) n L (hO.of_up ((Up.refl _).alloc _ _)) (hu.alloc _ _) (some ⟨w.heap.size, 0, none⟩) 1 1 [(p0, p1)] (one_new w p0 p1) hlen
  obtain ⟨A', k', rfl, _, _⟩ := h1.sl
  exact ⟨A', k', w', hr, h1, h2⟩

end Go.Proofs.Ytfcknhpllhkpeaa

namespace Go.Proofs.Ytfcknhpllhkpeaa
open Go.RowKit

/-- The items in the window. -/
def livL (L : List It) (now v : Int) : List It := L.filter (fun x => liveB now v x.1)
end Go.Proofs.Ytfcknhpllhkpeaa
