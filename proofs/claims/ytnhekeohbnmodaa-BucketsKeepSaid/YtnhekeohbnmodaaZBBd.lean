/- Cells that stay as they were, as a list. -/
import Derived.Test.YtnhekeohbnmodaaZBKeep
import Derived.Test.YtnhekeohbnmodaaZHRow
import Derived.Test.YtnhekeohbnmodaaZMath
import Derived.Test.YtnhekeohbnmodaaZWFormat
import Derived.Test.YtnhekeohbnmodaaZWide
namespace Go.Proofs.Ytnhekeohbnmodaa
open Go.RowKit

/-- Cells that stay as they were, all of them in the first blocks. -/
structure Bd (w : World) (m : Nat) (L : List (Nat × Nat × Value)) (wr : World) : Prop where
  up : Up w wr
  kp : ∀ x ∈ L, wr.cell? ⟨x.1, x.2.1, none⟩ = some x.2.2
  lt : ∀ x ∈ L, x.1 ≤ w.heap.size + m
theorem Bd.keep {w w1 w2 : World} {m : Nat} {L : List (Nat × Nat × Value)} (h : Bd w m L w1) (hu : Up w1 w2) : Bd w m L w2 :=
  ⟨h.up.trans hu, fun x hx => hu.keep _ _ _ (h.kp x hx), h.lt⟩
theorem Bd.far {w w1 : World} {m g q : Nat} {v : Value} {L : List (Nat × Nat × Value)} (h : Bd w m L w1) (hg : w.heap.size + m < g) : Bd w m L (w1.setCell ⟨g, q, none⟩ v) :=
  ⟨h.up.setCell (by show w.heap.size ≤ g; omega) _, fun x hx => (cell_far (by have := h.lt x hx; show g ≠ x.1; omega)).trans (h.kp x hx), h.lt⟩
theorem bkeep2 {w w1 w2 : World} {m : Nat} {L : List (Nat × Nat × Value)} {b0 o0 b1 o1 : Nat} {x0 x1 : Value} (hu : Hid (Up w1 w2)) (h : Bd w m L w1 ∧ w1.cell? ⟨b0, o0, none⟩ = some x0 ∧ w1.cell? ⟨b1, o1, none⟩ = some x1) : Bd w m L w2 ∧ w2.cell? ⟨b0, o0, none⟩ = some x0 ∧ w2.cell? ⟨b1, o1, none⟩ = some x1 :=
  ⟨h.1.keep hu.out, hu.out.keep _ _ _ h.2.1, hu.out.keep _ _ _ h.2.2⟩
theorem bset2 {w w1 : World} {m : Nat} {L : List (Nat × Nat × Value)} {b0 o0 b1 o1 : Nat} {x0 x1 : Value} {g q : Nat} {v : Value} (h : Bd w m L w1 ∧ w1.cell? ⟨b0, o0, none⟩ = some x0 ∧ w1.cell? ⟨b1, o1, none⟩ = some x1) (hg : w.heap.size + m < g) (n0 : g ≠ b0) (n1 : g ≠ b1) : Bd w m L (w1.setCell ⟨g, q, none⟩ v) ∧ (w1.setCell ⟨g, q, none⟩ v).cell? ⟨b0, o0, none⟩ = some x0 ∧ (w1.setCell ⟨g, q, none⟩ v).cell? ⟨b1, o1, none⟩ = some x1 :=
  ⟨h.1.far hg, (cell_far n0).trans h.2.1, (cell_far n1).trans h.2.2⟩
theorem bkeep4 {w w1 w2 : World} {m : Nat} {L : List (Nat × Nat × Value)} {b0 o0 b1 o1 b2 o2 b3 o3 : Nat} {x0 x1 x2 x3 : Value} (hu : Hid (Up w1 w2)) (h : Bd w m L w1 ∧ w1.cell? ⟨b0, o0, none⟩ = some x0 ∧ w1.cell? ⟨b1, o1, none⟩ = some x1 ∧ w1.cell? ⟨b2, o2, none⟩ = some x2 ∧ w1.cell? ⟨b3, o3, none⟩ = some x3) : Bd w m L w2 ∧ w2.cell? ⟨b0, o0, none⟩ = some x0 ∧ w2.cell? ⟨b1, o1, none⟩ = some x1 ∧ w2.cell? ⟨b2, o2, none⟩ = some x2 ∧ w2.cell? ⟨b3, o3, none⟩ = some x3 :=
  ⟨h.1.keep hu.out, hu.out.keep _ _ _ h.2.1, hu.out.keep _ _ _ h.2.2.1, hu.out.keep _ _ _ h.2.2.2.1, hu.out.keep _ _ _ h.2.2.2.2⟩
theorem bset4 {w w1 : World} {m : Nat} {L : List (Nat × Nat × Value)} {b0 o0 b1 o1 b2 o2 b3 o3 : Nat} {x0 x1 x2 x3 : Value} {g q : Nat} {v : Value} (h : Bd w m L w1 ∧ w1.cell? ⟨b0, o0, none⟩ = some x0 ∧ w1.cell? ⟨b1, o1, none⟩ = some x1 ∧ w1.cell? ⟨b2, o2, none⟩ = some x2 ∧ w1.cell? ⟨b3, o3, none⟩ = some x3) (hg : w.heap.size + m < g) (n0 : g ≠ b0) (n1 : g ≠ b1) (n2 : g ≠ b2) (n3 : g ≠ b3) : Bd w m L (w1.setCell ⟨g, q, none⟩ v) ∧ (w1.setCell ⟨g, q, none⟩ v).cell? ⟨b0, o0, none⟩ = some x0 ∧ (w1.setCell ⟨g, q, none⟩ v).cell? ⟨b1, o1, none⟩ = some x1 ∧ (w1.setCell ⟨g, q, none⟩ v).cell? ⟨b2, o2, none⟩ = some x2 ∧ (w1.setCell ⟨g, q, none⟩ v).cell? ⟨b3, o3, none⟩ = some x3 :=
  ⟨h.1.far hg, (cell_far n0).trans h.2.1, (cell_far n1).trans h.2.2.1, (cell_far n2).trans h.2.2.2.1, (cell_far n3).trans h.2.2.2.2⟩
theorem bkeep8 {w w1 w2 : World} {m : Nat} {L : List (Nat × Nat × Value)} {b0 o0 b1 o1 b2 o2 b3 o3 b4 o4 b5 o5 b6 o6 b7 o7 : Nat} {x0 x1 x2 x3 x4 x5 x6 x7 : Value} (hu : Hid (Up w1 w2)) (h : Bd w m L w1 ∧ w1.cell? ⟨b0, o0, none⟩ = some x0 ∧ w1.cell? ⟨b1, o1, none⟩ = some x1 ∧ w1.cell? ⟨b2, o2, none⟩ = some x2 ∧ w1.cell? ⟨b3, o3, none⟩ = some x3 ∧ w1.cell? ⟨b4, o4, none⟩ = some x4 ∧ w1.cell? ⟨b5, o5, none⟩ = some x5 ∧ w1.cell? ⟨b6, o6, none⟩ = some x6 ∧ w1.cell? ⟨b7, o7, none⟩ = some x7) : Bd w m L w2 ∧ w2.cell? ⟨b0, o0, none⟩ = some x0 ∧ w2.cell? ⟨b1, o1, none⟩ = some x1 ∧ w2.cell? ⟨b2, o2, none⟩ = some x2 ∧ w2.cell? ⟨b3, o3, none⟩ = some x3 ∧ w2.cell? ⟨b4, o4, none⟩ = some x4 ∧ w2.cell? ⟨b5, o5, none⟩ = some x5 ∧ w2.cell? ⟨b6, o6, none⟩ = some x6 ∧ w2.cell? ⟨b7, o7, none⟩ = some x7 :=
  ⟨h.1.keep hu.out, hu.out.keep _ _ _ h.2.1, hu.out.keep _ _ _ h.2.2.1, hu.out.keep _ _ _ h.2.2.2.1, hu.out.keep _ _ _ h.2.2.2.2.1, hu.out.keep _ _ _ h.2.2.2.2.2.1, hu.out.keep _ _ _ h.2.2.2.2.2.2.1, hu.out.keep _ _ _ h.2.2.2.2.2.2.2.1, hu.out.keep _ _ _ h.2.2.2.2.2.2.2.2⟩
theorem bset8 {w w1 : World} {m : Nat} {L : List (Nat × Nat × Value)} {b0 o0 b1 o1 b2 o2 b3 o3 b4 o4 b5 o5 b6 o6 b7 o7 : Nat} {x0 x1 x2 x3 x4 x5 x6 x7 : Value} {g q : Nat} {v : Value} (h : Bd w m L w1 ∧ w1.cell? ⟨b0, o0, none⟩ = some x0 ∧ w1.cell? ⟨b1, o1, none⟩ = some x1 ∧ w1.cell? ⟨b2, o2, none⟩ = some x2 ∧ w1.cell? ⟨b3, o3, none⟩ = some x3 ∧ w1.cell? ⟨b4, o4, none⟩ = some x4 ∧ w1.cell? ⟨b5, o5, none⟩ = some x5 ∧ w1.cell? ⟨b6, o6, none⟩ = some x6 ∧ w1.cell? ⟨b7, o7, none⟩ = some x7) (hg : w.heap.size + m < g) (n0 : g ≠ b0) (n1 : g ≠ b1) (n2 : g ≠ b2) (n3 : g ≠ b3) (n4 : g ≠ b4) (n5 : g ≠ b5) (n6 : g ≠ b6) (n7 : g ≠ b7) : Bd w m L (w1.setCell ⟨g, q, none⟩ v) ∧ (w1.setCell ⟨g, q, none⟩ v).cell? ⟨b0, o0, none⟩ = some x0 ∧ (w1.setCell ⟨g, q, none⟩ v).cell? ⟨b1, o1, none⟩ = some x1 ∧ (w1.setCell ⟨g, q, none⟩ v).cell? ⟨b2, o2, none⟩ = some x2 ∧ (w1.setCell ⟨g, q, none⟩ v).cell? ⟨b3, o3, none⟩ = some x3 ∧ (w1.setCell ⟨g, q, none⟩ v).cell? ⟨b4, o4, none⟩ = some x4 ∧ (w1.setCell ⟨g, q, none⟩ v).cell? ⟨b5, o5, none⟩ = some x5 ∧ (w1.setCell ⟨g, q, none⟩ v).cell? ⟨b6, o6, none⟩ = some x6 ∧ (w1.setCell ⟨g, q, none⟩ v).cell? ⟨b7, o7, none⟩ = some x7 :=
  ⟨h.1.far hg, (cell_far n0).trans h.2.1, (cell_far n1).trans h.2.2.1, (cell_far n2).trans h.2.2.2.1, (cell_far n3).trans h.2.2.2.2.1, (cell_far n4).trans h.2.2.2.2.2.1, (cell_far n5).trans h.2.2.2.2.2.2.1, (cell_far n6).trans h.2.2.2.2.2.2.2.1, (cell_far n7).trans h.2.2.2.2.2.2.2.2⟩

end Go.Proofs.Ytnhekeohbnmodaa
