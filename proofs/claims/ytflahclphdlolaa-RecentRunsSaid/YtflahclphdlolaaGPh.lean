/- A region that writes one item at its end. -/
import Derived.Test.YtflahclphdlolaaGLaw
import Derived.Test.YtflahclphdlolaaGVal
namespace Go.Proofs.Ytflahclphdlolaa
open Go.RowKit

/-- A region that writes one item of block g at its end: what holds at every time. -/
structure Ph (w W : World) (p g m : Nat) (L : List It) : Prop where
  wr : Wr w W p g
  bi : ∃ y, Bi W g (L.set m y)
theorem Ph.start {w : World} {p g m : Nat} {L : List It} (hb : Bi w g L) (hm : m < L.length) : Ph w w p g m L :=
  ⟨Wr.refl _ _ _, L.getD m (0, 0), by rw [show L.set m (L.getD m (0, 0)) = L by simp [List.getD, hm]]; exact hb⟩
theorem Ph.keep {w W W' : World} {p g m : Nat} {L : List It} (h : Ph w W p g m L) (hu : Up W W') : Ph w W' p g m L :=
  ⟨h.wr.then hu, h.bi.choose, h.bi.choose_spec.up hu⟩
theorem Ph.at_ {w W : World} {p g m : Nat} {L : List It} (h : Ph w W p g m L) (hm : m < L.length) : ∃ q0 q1, W.cell? ⟨g, m * 2, none⟩ = some (.int .i64 q0) ∧ W.cell? ⟨g, m * 2 + 1, none⟩ = some (.int .i64 q1) := by
  obtain ⟨y, hy⟩ := h.bi
  obtain ⟨h1, h2⟩ := hy.at_ (k := m) (by simpa using hm)
  exact ⟨_, _, h1, h2⟩
theorem Ph.put {w W : World} {p g m : Nat} {L : List It} (h : Ph w W p g m L) (a b : Int) : Bi ((W.setCell ⟨g, m * 2, none⟩ (.int .i64 a)).setCell ⟨g, m * 2 + 1, none⟩ (.int .i64 b)) g (L.set m (a, b)) := by
  obtain ⟨y, hy⟩ := h.bi
  have := hy.set_ m a b
  rwa [List.set_set] at this
theorem Ph.set {w W : World} {p g m : Nat} {L : List It} (h : Ph w W p g m L) (a b : Int) : Ph w ((W.setCell ⟨g, m * 2, none⟩ (.int .i64 a)).setCell ⟨g, m * 2 + 1, none⟩ (.int .i64 b)) p g m L :=
  ⟨(h.wr.setG _ _).setG _ _, (a, b), h.put a b⟩
theorem pkeep2 {w w1 w2 : World} {p g m : Nat} {L : List It} {b0 o0 b1 o1 : Nat} {x0 x1 : Value} (hu : Hid (Up w1 w2)) (h : Ph w w1 p g m L ∧ w1.cell? ⟨b0, o0, none⟩ = some x0 ∧ w1.cell? ⟨b1, o1, none⟩ = some x1) : Ph w w2 p g m L ∧ w2.cell? ⟨b0, o0, none⟩ = some x0 ∧ w2.cell? ⟨b1, o1, none⟩ = some x1 :=
  ⟨h.1.keep hu.out, hu.out.keep _ _ _ h.2.1, hu.out.keep _ _ _ h.2.2⟩
theorem pset2 {w w1 : World} {p g m : Nat} {L : List It} {a b : Int} {b0 o0 b1 o1 : Nat} {x0 x1 : Value} (h : Ph w w1 p g m L ∧ w1.cell? ⟨b0, o0, none⟩ = some x0 ∧ w1.cell? ⟨b1, o1, none⟩ = some x1) (n0 : g ≠ b0) (n1 : g ≠ b1) : Ph w ((w1.setCell ⟨g, m * 2, none⟩ (.int .i64 a)).setCell ⟨g, m * 2 + 1, none⟩ (.int .i64 b)) p g m L ∧ ((w1.setCell ⟨g, m * 2, none⟩ (.int .i64 a)).setCell ⟨g, m * 2 + 1, none⟩ (.int .i64 b)).cell? ⟨b0, o0, none⟩ = some x0 ∧ ((w1.setCell ⟨g, m * 2, none⟩ (.int .i64 a)).setCell ⟨g, m * 2 + 1, none⟩ (.int .i64 b)).cell? ⟨b1, o1, none⟩ = some x1 :=
  ⟨h.1.set a b, ((cell_far n0).trans (cell_far n0)).trans h.2.1, ((cell_far n1).trans (cell_far n1)).trans h.2.2⟩
theorem pkeep4 {w w1 w2 : World} {p g m : Nat} {L : List It} {b0 o0 b1 o1 b2 o2 b3 o3 : Nat} {x0 x1 x2 x3 : Value} (hu : Hid (Up w1 w2)) (h : Ph w w1 p g m L ∧ w1.cell? ⟨b0, o0, none⟩ = some x0 ∧ w1.cell? ⟨b1, o1, none⟩ = some x1 ∧ w1.cell? ⟨b2, o2, none⟩ = some x2 ∧ w1.cell? ⟨b3, o3, none⟩ = some x3) : Ph w w2 p g m L ∧ w2.cell? ⟨b0, o0, none⟩ = some x0 ∧ w2.cell? ⟨b1, o1, none⟩ = some x1 ∧ w2.cell? ⟨b2, o2, none⟩ = some x2 ∧ w2.cell? ⟨b3, o3, none⟩ = some x3 :=
  ⟨h.1.keep hu.out, hu.out.keep _ _ _ h.2.1, hu.out.keep _ _ _ h.2.2.1, hu.out.keep _ _ _ h.2.2.2.1, hu.out.keep _ _ _ h.2.2.2.2⟩
theorem pset4 {w w1 : World} {p g m : Nat} {L : List It} {a b : Int} {b0 o0 b1 o1 b2 o2 b3 o3 : Nat} {x0 x1 x2 x3 : Value} (h : Ph w w1 p g m L ∧ w1.cell? ⟨b0, o0, none⟩ = some x0 ∧ w1.cell? ⟨b1, o1, none⟩ = some x1 ∧ w1.cell? ⟨b2, o2, none⟩ = some x2 ∧ w1.cell? ⟨b3, o3, none⟩ = some x3) (n0 : g ≠ b0) (n1 : g ≠ b1) (n2 : g ≠ b2) (n3 : g ≠ b3) : Ph w ((w1.setCell ⟨g, m * 2, none⟩ (.int .i64 a)).setCell ⟨g, m * 2 + 1, none⟩ (.int .i64 b)) p g m L ∧ ((w1.setCell ⟨g, m * 2, none⟩ (.int .i64 a)).setCell ⟨g, m * 2 + 1, none⟩ (.int .i64 b)).cell? ⟨b0, o0, none⟩ = some x0 ∧ ((w1.setCell ⟨g, m * 2, none⟩ (.int .i64 a)).setCell ⟨g, m * 2 + 1, none⟩ (.int .i64 b)).cell? ⟨b1, o1, none⟩ = some x1 ∧ ((w1.setCell ⟨g, m * 2, none⟩ (.int .i64 a)).setCell ⟨g, m * 2 + 1, none⟩ (.int .i64 b)).cell? ⟨b2, o2, none⟩ = some x2 ∧ ((w1.setCell ⟨g, m * 2, none⟩ (.int .i64 a)).setCell ⟨g, m * 2 + 1, none⟩ (.int .i64 b)).cell? ⟨b3, o3, none⟩ = some x3 :=
  ⟨h.1.set a b, ((cell_far n0).trans (cell_far n0)).trans h.2.1, ((cell_far n1).trans (cell_far n1)).trans h.2.2.1, ((cell_far n2).trans (cell_far n2)).trans h.2.2.2.1, ((cell_far n3).trans (cell_far n3)).trans h.2.2.2.2⟩
theorem pkeep6 {w w1 w2 : World} {p g m : Nat} {L : List It} {b0 o0 b1 o1 b2 o2 b3 o3 b4 o4 b5 o5 : Nat} {x0 x1 x2 x3 x4 x5 : Value} (hu : Hid (Up w1 w2)) (h : Ph w w1 p g m L ∧ w1.cell? ⟨b0, o0, none⟩ = some x0 ∧ w1.cell? ⟨b1, o1, none⟩ = some x1 ∧ w1.cell? ⟨b2, o2, none⟩ = some x2 ∧ w1.cell? ⟨b3, o3, none⟩ = some x3 ∧ w1.cell? ⟨b4, o4, none⟩ = some x4 ∧ w1.cell? ⟨b5, o5, none⟩ = some x5) : Ph w w2 p g m L ∧ w2.cell? ⟨b0, o0, none⟩ = some x0 ∧ w2.cell? ⟨b1, o1, none⟩ = some x1 ∧ w2.cell? ⟨b2, o2, none⟩ = some x2 ∧ w2.cell? ⟨b3, o3, none⟩ = some x3 ∧ w2.cell? ⟨b4, o4, none⟩ = some x4 ∧ w2.cell? ⟨b5, o5, none⟩ = some x5 :=
  ⟨h.1.keep hu.out, hu.out.keep _ _ _ h.2.1, hu.out.keep _ _ _ h.2.2.1, hu.out.keep _ _ _ h.2.2.2.1, hu.out.keep _ _ _ h.2.2.2.2.1, hu.out.keep _ _ _ h.2.2.2.2.2.1, hu.out.keep _ _ _ h.2.2.2.2.2.2⟩
theorem pset6 {w w1 : World} {p g m : Nat} {L : List It} {a b : Int} {b0 o0 b1 o1 b2 o2 b3 o3 b4 o4 b5 o5 : Nat} {x0 x1 x2 x3 x4 x5 : Value} (h : Ph w w1 p g m L ∧ w1.cell? ⟨b0, o0, none⟩ = some x0 ∧ w1.cell? ⟨b1, o1, none⟩ = some x1 ∧ w1.cell? ⟨b2, o2, none⟩ = some x2 ∧ w1.cell? ⟨b3, o3, none⟩ = some x3 ∧ w1.cell? ⟨b4, o4, none⟩ = some x4 ∧ w1.cell? ⟨b5, o5, none⟩ = some x5) (n0 : g ≠ b0) (n1 : g ≠ b1) (n2 : g ≠ b2) (n3 : g ≠ b3) (n4 : g ≠ b4) (n5 : g ≠ b5) : Ph w ((w1.setCell ⟨g, m * 2, none⟩ (.int .i64 a)).setCell ⟨g, m * 2 + 1, none⟩ (.int .i64 b)) p g m L ∧ ((w1.setCell ⟨g, m * 2, none⟩ (.int .i64 a)).setCell ⟨g, m * 2 + 1, none⟩ (.int .i64 b)).cell? ⟨b0, o0, none⟩ = some x0 ∧ ((w1.setCell ⟨g, m * 2, none⟩ (.int .i64 a)).setCell ⟨g, m * 2 + 1, none⟩ (.int .i64 b)).cell? ⟨b1, o1, none⟩ = some x1 ∧ ((w1.setCell ⟨g, m * 2, none⟩ (.int .i64 a)).setCell ⟨g, m * 2 + 1, none⟩ (.int .i64 b)).cell? ⟨b2, o2, none⟩ = some x2 ∧ ((w1.setCell ⟨g, m * 2, none⟩ (.int .i64 a)).setCell ⟨g, m * 2 + 1, none⟩ (.int .i64 b)).cell? ⟨b3, o3, none⟩ = some x3 ∧ ((w1.setCell ⟨g, m * 2, none⟩ (.int .i64 a)).setCell ⟨g, m * 2 + 1, none⟩ (.int .i64 b)).cell? ⟨b4, o4, none⟩ = some x4 ∧ ((w1.setCell ⟨g, m * 2, none⟩ (.int .i64 a)).setCell ⟨g, m * 2 + 1, none⟩ (.int .i64 b)).cell? ⟨b5, o5, none⟩ = some x5 :=
  ⟨h.1.set a b, ((cell_far n0).trans (cell_far n0)).trans h.2.1, ((cell_far n1).trans (cell_far n1)).trans h.2.2.1, ((cell_far n2).trans (cell_far n2)).trans h.2.2.2.1, ((cell_far n3).trans (cell_far n3)).trans h.2.2.2.2.1, ((cell_far n4).trans (cell_far n4)).trans h.2.2.2.2.2.1, ((cell_far n5).trans (cell_far n5)).trans h.2.2.2.2.2.2⟩
theorem own_empty {w0 w : World} (h : w0.heap.size ≤ w.heap.size) : Own w0 (w.alloc (.cells #[] 39)).drew (.slice (some ⟨w.heap.size, 0, none⟩) 0 0) 0 [] :=
  ⟨rfl, Or.inr ⟨w.heap.size, 0, #[], rfl, h, Blk.new w _ _, Nat.le_refl _, Nat.zero_le _, rfl, rfl⟩⟩
theorem Bi.far2 {w : World} {p g : Nat} {L : List It} {v0 v1 : Value} (h : Bi w g L) (hn : g ≠ p) : Bi ((w.setCell ⟨p, 0, none⟩ v0).setCell ⟨p, 1, none⟩ v1) g L :=
  Blk.far (Blk.far h hn _) hn _
theorem Bi.drew {w : World} {g : Nat} {L : List It} (h : Bi w g L) : Bi w.drew g L := h
end Go.Proofs.Ytflahclphdlolaa
