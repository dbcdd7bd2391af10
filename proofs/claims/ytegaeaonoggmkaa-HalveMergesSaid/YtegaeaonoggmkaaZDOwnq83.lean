/- append of int64 numbers onto a row of the call's own. -/
import Derived.Test.YtegaeaonoggmkaaRows
import Derived.Test.YtegaeaonoggmkaaZESqq37
import Derived.Test.YtegaeaonoggmkaaZGLawq36
namespace Go.Proofs.Ytegaeaonoggmkaa
open Go.RowKit

theorem OwnN.of_up {w0 w w' : World} {v : Value} {n : Nat} {L : List Int} (h : OwnN w0 w v n L) (hu : Up w w') : OwnN w0 w' v n L := by
  refine ⟨h.1, ?_⟩
  rcases h.2 with h0 | ⟨g, cap, cur, h1, h2, h3, h4⟩
  · exact Or.inl h0
  · exact Or.inr ⟨g, cap, cur, h1, h2, Blk.up (t := 2) h3 hu, h4⟩
/-- append of one number, in the world that stands behind its own row of one cell. -/
theorem append1_run (ty : TypeId) (w0 w : World) (A : Option Addr) (n k : Nat) (L : List Int) (x : Int) (hO : OwnN w0 w (.slice A n k) n L) (hu : Up w0 w) (hlen : n + 1 ≤ 1000000) :
    ∃ A' k' w', (Builtin.append_ #[22, 22] ty #[.slice A n k, .slice (some ⟨w.heap.size, 0, none⟩) 1 1]).run Try.prog (w.alloc (.cells #[.int .i64 x] 2)) = .ok (.slice A' (n + 1) k') w' ∧ OwnN w0 w' (.slice A' (n + 1) k') (n + 1) (L ++ [x]) ∧ Up w0 w' := by
  have hB : Bn (w.alloc (.cells #[.int .i64 x] 2)) w.heap.size [x] := Blk.new w _ _
  obtain ⟨v', w', hr, h1, h2⟩ := appendN_run ty w0 (w.alloc (.cells #[.int .i64 x] 2)) (.slice A n k) n L (hO.of_up ((Up.refl _).alloc _ _)) (hu.alloc _ _) (some ⟨w.heap.size, 0, none⟩) 1 1 [x] (hB.sn rfl) (by omega) hlen
  obtain ⟨A', k', rfl, _, _⟩ := h1.sn
  exact ⟨A', k', w', hr, h1, h2⟩
end Go.Proofs.Ytegaeaonoggmkaa
