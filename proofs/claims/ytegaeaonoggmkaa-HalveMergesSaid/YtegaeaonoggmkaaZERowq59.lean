/- Rows of the call's own, of any element type: append, and what it leaves alone. -/
import Derived.Test.YtegaeaonoggmkaaRows
import Derived.Test.YtegaeaonoggmkaaZESqq37
import Derived.Test.YtegaeaonoggmkaaZGLawq36
namespace Go.Proofs.Ytegaeaonoggmkaa
open Go.RowKit

theorem Rw.of_up {w0 w w' : World} {e : TypeId} {sz n : Nat} {v : Value} {cs : List Value} (h : Rw w0 w e sz v n cs) (hu : Up w w') : Rw w0 w' e sz v n cs := by
  refine ⟨h.1, ?_⟩
  rcases h.2 with h0 | ⟨g, cap, cur, h1, h2, h3, h4⟩
  · exact Or.inl h0
  · exact Or.inr ⟨g, cap, cur, h1, h2, Blk.up (t := e) h3 hu, h4⟩
end Go.Proofs.Ytegaeaonoggmkaa
