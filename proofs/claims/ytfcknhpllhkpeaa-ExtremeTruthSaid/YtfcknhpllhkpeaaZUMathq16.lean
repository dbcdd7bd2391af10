/- Monotonic deques: the items that no other one rules out, as a list that is ascending in ticks; what Add, Advance and Merge make of it. No program is named here. -/
import Derived.Test.YtfcknhpllhkpeaaRows
import Derived.Test.YtfcknhpllhkpeaaZUMathq15
namespace Go.Proofs.Ytfcknhpllhkpeaa

/-- The first item is the best. -/
theorem KdE.head {mx : Bool} {x : It} {K L : List It} (h : KdE mx (x :: K) L) : x ∈ L ∧ ∀ y ∈ L, sgE mx y.2 ≤ sgE mx x.2 := by
  refine ⟨((h.2 x).1 List.mem_cons_self).1, fun y hy => ?_⟩
  obtain ⟨z, hz, hr⟩ := mxE_dom mx hy
  have hz := (h.2 z).2 hz
  have hd := List.pairwise_cons.1 h.desc
  rcases List.mem_cons.1 hz with e | e
  · subst e; exact hr.2
  · have := (hd.1 z e).2; have := hr.2; omega
end Go.Proofs.Ytfcknhpllhkpeaa
