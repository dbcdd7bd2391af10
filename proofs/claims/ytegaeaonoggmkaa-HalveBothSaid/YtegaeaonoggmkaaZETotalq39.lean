/- Texts of these claims, one after the other. -/
import Derived.Test.YtegaeaonoggmkaaRows
import Derived.Test.YtegaeaonoggmkaaZESqq37
namespace Go.Proofs.Ytegaeaonoggmkaa
open Go.RowKit

theorem InI.take {L : List It} (h : InI L) (i : Nat) : InI (L.take i) := fun x hx => h x (List.mem_of_mem_take hx)
/-- What the walk of total holds. -/
structure Tt (w wr : World) (p q : Int) : Prop where
  up : Up w wr
  r0 : wr.cell? ⟨w.heap.size, 0, none⟩ = some (.int .u64 0)
  r1 : wr.cell? ⟨w.heap.size, 1, none⟩ = some (.int .u64 0)
  a0 : wr.cell? ⟨w.heap.size + 1, 0, none⟩ = some (.int .u64 (hiZ p))
  a1 : wr.cell? ⟨w.heap.size + 1, 1, none⟩ = some (.int .u64 (loZ p))
  b0 : wr.cell? ⟨w.heap.size + 1 + 1, 0, none⟩ = some (.int .u64 (hiZ q))
  b1 : wr.cell? ⟨w.heap.size + 1 + 1, 1, none⟩ = some (.int .u64 (loZ q))
theorem Tt.keep {w w1 w2 : World} {p q : Int} (h : Tt w w1 p q) (hu : Up w1 w2) : Tt w w2 p q :=
  ⟨h.up.trans hu, hu.keep _ _ _ h.r0, hu.keep _ _ _ h.r1, hu.keep _ _ _ h.a0, hu.keep _ _ _ h.a1, hu.keep _ _ _ h.b0, hu.keep _ _ _ h.b1⟩
end Go.Proofs.Ytegaeaonoggmkaa

namespace Go.Proofs.Ytegaeaonoggmkaa
open Go.RowKit

/-- What the walks of sums hold: the result's cells, and the sum so far in block g. -/
structure Sm (w wr : World) (g : Nat) (s : Int) : Prop where
  up : Up w wr
  r0 : wr.cell? ⟨w.heap.size, 0, none⟩ = some (.int .u64 0)
  r1 : wr.cell? ⟨w.heap.size, 1, none⟩ = some (.int .u64 0)
  s0 : wr.cell? ⟨g, 0, none⟩ = some (.int .u64 (hiZ s))
  s1 : wr.cell? ⟨g, 1, none⟩ = some (.int .u64 (loZ s))
theorem Sm.keep {w w1 w2 : World} {g : Nat} {s : Int} (h : Sm w w1 g s) (hu : Up w1 w2) : Sm w w2 g s :=
  ⟨h.up.trans hu, hu.keep _ _ _ h.r0, hu.keep _ _ _ h.r1, hu.keep _ _ _ h.s0, hu.keep _ _ _ h.s1⟩
theorem Sm.set {w w1 : World} {g : Nat} {s u : Int} (h : Sm w w1 g s) (hg : w.heap.size < g) : Sm w ((w1.setCell ⟨g, 0, none⟩ (.int .u64 (hiZ u))).setCell ⟨g, 1, none⟩ (.int .u64 (loZ u))) g u := by
  have far : ∀ (W : World) (i : Nat) (x : Value) (o : Nat) (y : Value), W.cell? ⟨w.heap.size, o, none⟩ = some y → (W.setCell ⟨g, i, none⟩ x).cell? ⟨w.heap.size, o, none⟩ = some y := fun W i x o y hy => (cell_far (by show g ≠ w.heap.size; omega)).trans hy
  refine ⟨(h.up.setCell (by show w.heap.size ≤ g; omega) _).setCell (by show w.heap.size ≤ g; omega) _, far _ _ _ _ _ (far _ _ _ _ _ h.r0), far _ _ _ _ _ (far _ _ _ _ _ h.r1), ?_, ?_⟩
  · rw [cell_set (cell_set h.s0)]; rfl
  · rw [cell_set (cell_set h.s1)]; rfl

end Go.Proofs.Ytegaeaonoggmkaa

namespace Go.Proofs.Ytegaeaonoggmkaa
open Go.RowKit
set_option linter.unusedVariables false

/-- Results: a tick, sums and an error. -/
abbrev QH := Int × List Int × Int
def noH (e : Int) : QH := (0, [], e)
def stHE (now : Int) (S : List Int) : Int := if stH now S = true then 0 else 2
def nwH (a t : Int) : QH := if (1 ≤ a ∧ a ≤ 64) ∧ (0 ≤ t ∧ t ≤ 16777216) then (t, List.replicate a.toNat 0, 0) else noH 1
def avR (now : Int) (S : List Int) (t : Int) : QH := if stH now S = true then (if t < now ∨ 16777216 < t then noH 3 else (t, avH (t - now).toNat S, 0)) else noH 2
def anR (now : Int) (S : List Int) (v : Int) : QH := if stH now S = true then (if v < 0 ∨ 4096 < v then noH 4 else if 1099511627776 < S.getD 0 0 + v then noH 6 else (now, anH v S, 0)) else noH 2
/-- The answer: its numerator and the place of its denominator's one bit. -/
def akR (now : Int) (S : List Int) : Int × Int × Int := if stH now S = true then (asH S, 2 ^ (S.length - 1), 0) else (0, 0, 2)
end Go.Proofs.Ytegaeaonoggmkaa

namespace Go.Proofs.Ytegaeaonoggmkaa
open Go.RowKit

def mayB (v c now : Int) : Bool := (tickB now && winB v) && decide (1 ≤ c ∧ c ≤ 65536)
theorem mayB_true {v c now : Int} (h : mayB v c now = true) : tickB now = true ∧ winB v = true ∧ 1 ≤ c ∧ c ≤ 65536 := by
  unfold mayB at h
  simp only [Bool.and_eq_true, decide_eq_true_eq] at h
  exact ⟨h.1.1, h.1.2, h.2⟩
end Go.Proofs.Ytegaeaonoggmkaa

namespace Go.Proofs.Ytegaeaonoggmkaa
open Go.RowKit

def valueB (v : Int) : Bool := decide (-4096 ≤ v ∧ v ≤ 4096)
end Go.Proofs.Ytegaeaonoggmkaa
