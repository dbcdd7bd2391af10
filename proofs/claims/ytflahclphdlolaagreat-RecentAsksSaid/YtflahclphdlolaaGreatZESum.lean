/- What sumOf of package exact returns, for any closure whose answers are known. -/
import Derived.Test.YtflahclphdlolaaGreatZETotal
import Derived.Test.YtflahclphdlolaaGreatZG0a
import Derived.Test.YtflahclphdlolaaGreatZG2a
namespace Go.Proofs.YtflahclphdlolaaGreat
open Go.RowKit

/-- The sum of terms, as long as each has one and all sums fit. -/
def accO (f : It → Int) (b : It → Bool) : Int → List It → Option Int
  | s, [] => some s
  | s, x :: L => if (b x && fits2 (s + f x)) = true then accO f b (s + f x) L else none
def gotW (o : Option Int) : Ending := got2 (o.getD 0) o.isSome
theorem drop_consI {L : List It} {i : Nat} (h : i < L.length) : L.drop i = L.getD i (0, 0) :: L.drop (i + 1) := by
  rw [List.drop_eq_getElem_cons h]; simp [List.getD, h]
theorem accO_end {f : It → Int} {b : It → Bool} {L : List It} {i : Nat} {s : Int} (h : L.length ≤ i) : accO f b s (L.drop i) = some s := by rw [List.drop_eq_nil_of_le h]; rfl
theorem accO_next {f : It → Int} {b : It → Bool} {L : List It} {i : Nat} {s : Int} (h : i < L.length) (hb : b (L.getD i (0, 0)) = true) (hf : fits2 (s + f (L.getD i (0, 0))) = true) : accO f b s (L.drop i) = accO f b (s + f (L.getD i (0, 0))) (L.drop (i + 1)) := by
  rw [drop_consI h, accO, hb, hf]; rfl
theorem accO_no {f : It → Int} {b : It → Bool} {L : List It} {i : Nat} {s : Int} (h : i < L.length) (hb : b (L.getD i (0, 0)) = false) : accO f b s (L.drop i) = none := by
  rw [drop_consI h, accO, hb]; rfl
theorem accO_big {f : It → Int} {b : It → Bool} {L : List It} {i : Nat} {s : Int} (h : i < L.length) (hf : fits2 (s + f (L.getD i (0, 0))) = false) : accO f b s (L.drop i) = none := by
  rw [drop_consI h, accO, hf, Bool.and_false]; rfl

/-- What the walks of sums hold: the result's cells, and the sum so far in block g. -/
structure Sm (w wr : World) (g : Nat) (s : Int) : Prop where
  up : Up w wr
  r0 : wr.cell? ⟨w.heap.size, 0, none⟩ = some (.int .u64 0)
  r1 : wr.cell? ⟨w.heap.size, 1, none⟩ = some (.int .u64 0)
  s0 : wr.cell? ⟨g, 0, none⟩ = some (.int .u64 (hiZ s))
  s1 : wr.cell? ⟨g, 1, none⟩ = some (.int .u64 (loZ s))
theorem Sm.keep {w w1 w2 : World} {g : Nat} {s : Int} (h : Sm w w1 g s) (hu : Up w1 w2) : Sm w w2 g s :=
  ⟨h.up.trans hu, hu.keep _ _ _ h.r0, hu.keep _ _ _ h.r1, hu.keep _ _ _ h.s0, hu.keep _ _ _ h.s1⟩
theorem Sm.set {w w1 : World} {g : Nat} {s u : Int} (h : Sm w w1 g s) (hg : w.heap.size < g) : Sm w ((w1.setCell ⟨g, 0, none⟩ (.int .u64 (hiZ u))).setCell ⟨g, 1, none⟩ (.int .u64 (loZ u))) g u := by
  have far : ∀ (W : World) (i : Nat) (x : Value) (o : Nat) (y : Value), W.cell? ⟨w.heap.size, o, none⟩ = some y → (W.setCell ⟨g, i, none⟩ x).cell? ⟨w.heap.size, o, none⟩ = some y := fun W i x o y hy => (cell_far (by show g ≠ w.heap.size; omega)).trans hy
  refine ⟨(h.up.setCell (by show w.heap.size ≤ g; omega) _).setCell (by show w.heap.size ≤ g; omega) _, far _ _ _ _ _ (far _ _ _ _ _ h.r0), far _ _ _ _ _ (far _ _ _ _ _ h.r1), ?_, ?_⟩
  · rw [cell_set (cell_set h.s0)]; rfl
  · rw [cell_set (cell_set h.s1)]; rfl

end Go.Proofs.YtflahclphdlolaaGreat
