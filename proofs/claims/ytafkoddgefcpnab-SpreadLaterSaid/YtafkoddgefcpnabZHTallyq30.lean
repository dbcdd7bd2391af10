/- Texts of these claims, one after the other. -/
import Derived.Test.YtafkoddgefcpnabRows
import Derived.Test.YtafkoddgefcpnabZGLawq19
import Derived.Test.YtafkoddgefcpnabZHMathq13
namespace Go.Proofs.Ytafkoddgefcpnab
open Go.RowKit

/-- The cells of the array. -/
def tyL (f : Nat → Int) : List Value := (List.range 31).map (fun j => .int .i64 (f j))
theorem tyL_at (f : Nat → Int) {j : Nat} (h : j < 31) : (tyL f)[j]? = some (.int .i64 (f j)) := by simp [tyL, h]
end Go.Proofs.Ytafkoddgefcpnab

namespace Go.Proofs.Ytafkoddgefcpnab
open Go.RowKit

def ctO (L : List It) (k : Int) (j : Nat) : Prop := ((j : Int) < (L.getD 0 (0, 0)).2 → k ≤ (cn (j : Int) L : Int)) ∧ (cn (j : Int) L : Int) ≤ k + 1
instance (L : List It) (k : Int) (j : Nat) : Decidable (ctO L k j) := by unfold ctO; infer_instance
def ctB (L : List It) (k : Int) : Bool := decide (∀ j ∈ List.range 31, ctO L k j)
def vaB (L : List It) (k : Int) : Bool := kB k && (orB L && ctB L k)
theorem vaB_iff {L : List It} {k : Int} : vaB L k = true ↔ Va L k := by
  unfold vaB
  rw [Bool.and_eq_true, Bool.and_eq_true, orB_iff]
  unfold ctB
  rw [decide_eq_true_eq]
  simp only [List.mem_range]
  constructor
  · rintro ⟨h1, ⟨h2, h3, h4⟩, h5⟩
    have hk := kB_true h1
    have up : ∀ j, (cn j L : Int) ≤ k + 1 := fun j => by
      by_cases hj : 0 ≤ j ∧ j < 31
      · have := (h5 j.toNat (by omega)).2
        rwa [show ((j.toNat : Nat) : Int) = j by omega] at this
      · have : cn j L = 0 := cn_zero (fun x hx => by have := (h2 x hx).2; omega)
        rw [this]; omega
    refine ⟨hk.1, hk.2, h2, h3, h4, up, fun x hx j hj hjx => ?_⟩
    have h0 := h3.top x hx
    have := (h2 x hx).2
    have := (h5 j.toNat (by omega)).1
    rw [show ((j.toNat : Nat) : Int) = j by omega] at this
    exact this (by omega)
  · intro h
    refine ⟨decide_eq_true ⟨h.k1, h.k2⟩, ⟨h.rg, h.ds, h.as_⟩, fun j hj => ⟨fun hlt => ?_, h.up _⟩⟩
    by_cases hX : L = []
    · subst hX; simp at hlt; omega
    · exact h.fl _ (getD0_mem hX) _ (by omega) hlt
end Go.Proofs.Ytafkoddgefcpnab

namespace Go.Proofs.Ytafkoddgefcpnab
open Go.RowKit

/-- A block of 31 numbers, made by the reference. -/
def Mk (w : World) (g : Nat) (f : Nat → Int) : Prop := Blk w g 3 (tyL f).toArray
theorem Mk.at_ {w : World} {g : Nat} {f : Nat → Int} (h : Mk w g f) {j : Nat} (hj : j < 31) : w.cell? ⟨g, j, none⟩ = some (.int .i64 (f j)) := by
  rw [Blk.cell h]; simp [tyL_at f hj]
theorem Mk.up {w w' : World} {g : Nat} {f : Nat → Int} (h : Mk w g f) (hu : Up w w') : Mk w' g f := Blk.up h hu
end Go.Proofs.Ytafkoddgefcpnab

namespace Go.Proofs.Ytafkoddgefcpnab
open Go.RowKit

/-- A region that writes one item of block g at its end: what holds at every time. -/
structure Ph (w W : World) (p g m : Nat) (L : List It) : Prop where
  wr : Wr w W p g
  bi : ∃ y, Bi W g (L.set m y)
theorem Ph.keep {w W W' : World} {p g m : Nat} {L : List It} (h : Ph w W p g m L) (hu : Up W W') : Ph w W' p g m L :=
  ⟨h.wr.then hu, h.bi.choose, h.bi.choose_spec.up hu⟩
theorem Ph.at_ {w W : World} {p g m : Nat} {L : List It} (h : Ph w W p g m L) (hm : m < L.length) : ∃ q0 q1, W.cell? ⟨g, m * 2, none⟩ = some (.int .i64 q0) ∧ W.cell? ⟨g, m * 2 + 1, none⟩ = some (.int .i64 q1) := by
  obtain ⟨y, hy⟩ := h.bi
  obtain ⟨h1, h2⟩ := hy.at_ (k := m) (by simpa using hm)
  exact ⟨_, _, h1, h2⟩
theorem Ph.put {w W : World} {p g m : Nat} {L : List It} (h : Ph w W p g m L) (a b : Int) : Bi ((W.setCell ⟨g, m * 2, none⟩ (.int .i64 a)).setCell ⟨g, m * 2 + 1, none⟩ (.int .i64 b)) g (L.set m (a, b)) := by
  obtain ⟨y, hy⟩ := h.bi
  have := hy.set_ m a b
  rwa [List.set_set] at this
theorem Ph.set {w W : World} {p g m : Nat} {L : List It} (h : Ph w W p g m L) (a b : Int) : Ph w ((W.setCell ⟨g, m * 2, none⟩ (.int .i64 a)).setCell ⟨g, m * 2 + 1, none⟩ (.int .i64 b)) p g m L :=
  ⟨(h.wr.setG _ _).setG _ _, (a, b), h.put a b⟩
theorem Bi.drew {w : World} {g : Nat} {L : List It} (h : Bi w g L) : Bi w.drew g L := h
end Go.Proofs.Ytafkoddgefcpnab
