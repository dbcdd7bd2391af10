/- Results of package extreme with a row of items; rows that are cut; an empty row with room; a copy of a row. -/
import Derived.Test.YtfcknhpllhkpeaaRows
import Derived.Test.YtfcknhpllhkpeaaZGAppendq54
import Derived.Test.YtfcknhpllhkpeaaZUMemq57
namespace Go.Proofs.Ytfcknhpllhkpeaa
open Go.RowKit
set_option linter.unusedVariables false

/-- A row of items that is returned. -/
def RwX (Z : List It) (w : World) (e : Ending) (w' : World) : Prop := ∃ (A' : Option Addr) (n k : Nat), e = .returned (.slice A' n k) ∧ Own w w' (.slice A' n k) n Z ∧ Up w w'
theorem Own.weak17 {w0 w1 w : World} {v : Value} {n : Nat} {L : List It} (h : Own w1 w v n L) (hs : w0.heap.size ≤ w1.heap.size) : Own w0 w v n L := by
  refine ⟨h.1, ?_⟩
  rcases h.2 with h0 | ⟨g, cap, cur, h1, h2, h3⟩
  · exact Or.inl h0
  · exact Or.inr ⟨g, cap, cur, h1, Nat.le_trans hs h2, h3⟩
end Go.Proofs.Ytfcknhpllhkpeaa
