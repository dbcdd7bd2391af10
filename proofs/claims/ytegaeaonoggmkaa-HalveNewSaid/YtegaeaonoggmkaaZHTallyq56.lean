/- Texts of these claims, one after the other. -/
import Derived.Test.YtegaeaonoggmkaaRows
import Derived.Test.YtegaeaonoggmkaaZESqq37
namespace Go.Proofs.Ytegaeaonoggmkaa
open Go.RowKit

/-- The cells of the array. -/
def tyL (f : Nat → Int) : List Value := (List.range 31).map (fun j => .int .i64 (f j))
end Go.Proofs.Ytegaeaonoggmkaa

namespace Go.Proofs.Ytegaeaonoggmkaa
open Go.RowKit

section
variable {w w' : World} {g k n : Nat} {L : List It}
end
theorem Cp.drewN {w w' : World} {g : Nat} (h : Cp w w' g) (n : Nat) : Cp w (w'.drewN n) g := ⟨fun w0 h0 hg => (h.up w0 h0 hg).drewN n, h.far, h.size, h.fr⟩
theorem Cp.trans {w w' w2 : World} {g : Nat} (h : Cp w w' g) (h2 : Cp w' w2 g) : Cp w w2 g :=
  ⟨fun w0 h0 hg => h2.up w0 (h.up w0 h0 hg) hg, fun b hb => (h2.far b hb).trans (h.far b hb), h2.size.trans h.size, fun a => (h2.fr a).trans (h.fr a)⟩
end Go.Proofs.Ytegaeaonoggmkaa

namespace Go.Proofs.Ytegaeaonoggmkaa
open Go.RowKit

def ctO (L : List It) (k : Int) (j : Nat) : Prop := ((j : Int) < (L.getD 0 (0, 0)).2 → k ≤ (cn (j : Int) L : Int)) ∧ (cn (j : Int) L : Int) ≤ k + 1
instance (L : List It) (k : Int) (j : Nat) : Decidable (ctO L k j) := by unfold ctO; infer_instance
def ctB (L : List It) (k : Int) : Bool := decide (∀ j ∈ List.range 31, ctO L k j)
def vaB (L : List It) (k : Int) : Bool := kB k && (orB L && ctB L k)
theorem vaB_iff {L : List It} {k : Int} : vaB L k = true ↔ Va L k := by
  unfold vaB
  rw [Bool.and_eq_true, Bool.and_eq_true, orB_iff]
  unfold ctB
  rw [decide_eq_true_eq]
  simp only [List.mem_range]
  constructor
  · rintro ⟨h1, ⟨h2, h3, h4⟩, h5⟩
    have hk := kB_true h1
    have up : ∀ j, (cn j L : Int) ≤ k + 1 := fun j => by
      by_cases hj : 0 ≤ j ∧ j < 31
      · have := (h5 j.toNat (by omega)).2
        rwa [show ((j.toNat : Nat) : Int) = j by omega] at this
      · have : cn j L = 0 := cn_zero (fun x hx => by have := (h2 x hx).2; omega)
        rw [this]; omega
    refine ⟨hk.1, hk.2, h2, h3, h4, up, fun x hx j hj hjx => ?_⟩
    have h0 := h3.top x hx
    have := (h2 x hx).2
    have := (h5 j.toNat (by omega)).1
    rw [show ((j.toNat : Nat) : Int) = j by omega] at this
    exact this (by omega)
  · intro h
    refine ⟨decide_eq_true ⟨h.k1, h.k2⟩, ⟨h.rg, h.ds, h.as_⟩, fun j hj => ⟨fun hlt => ?_, h.up _⟩⟩
    by_cases hX : L = []
    · subst hX; simp at hlt; omega
    · exact h.fl _ (getD0_mem hX) _ (by omega) hlt
end Go.Proofs.Ytegaeaonoggmkaa

namespace Go.Proofs.Ytegaeaonoggmkaa
open Go.RowKit

/-- A block of 31 numbers, made by the reference. -/
def Mk (w : World) (g : Nat) (f : Nat → Int) : Prop := Blk w g 3 (tyL f).toArray
theorem Mk.up {w w' : World} {g : Nat} {f : Nat → Int} (h : Mk w g f) (hu : Up w w') : Mk w' g f := Blk.up h hu
end Go.Proofs.Ytegaeaonoggmkaa

namespace Go.Proofs.Ytegaeaonoggmkaa
open Go.RowKit

/-- Rows of numbers. -/
def il (L : List Int) : List Value := L.map (.int .i64)
def OwI (w0 w : World) (v : Value) (n : Nat) (L : List Int) : Prop := Rw w0 w 3 1 v n (il L)
theorem OwI.nil (w0 w : World) : OwI w0 w (.slice none 0 0) 0 [] := Rw.nil _ _ _ _
end Go.Proofs.Ytegaeaonoggmkaa
