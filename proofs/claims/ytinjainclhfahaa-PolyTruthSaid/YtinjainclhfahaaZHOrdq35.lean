/- Texts of these claims, one after the other. -/
import Derived.Test.YtinjainclhfahaaRows
import Derived.Test.YtinjainclhfahaaZHSmallq34
namespace Go.Proofs.Ytinjainclhfahaa
open Go.RowKit

/-- What is asked of the bucket at place j. -/
def okO (L : List It) (j : Nat) : Prop := tickB (L.getD j (0, 0)).1 = true ∧ levB (L.getD j (0, 0)).2 = true ∧ (0 < j → (L.getD (j - 1) (0, 0)).1 ≤ (L.getD j (0, 0)).1 ∧ (L.getD j (0, 0)).2 ≤ (L.getD (j - 1) (0, 0)).2)
instance (L : List It) (j : Nat) : Decidable (okO L j) := by unfold okO; infer_instance
def orB (L : List It) : Bool := decide (∀ j, j < L.length → okO L j)
theorem gD_mem {L : List It} {j : Nat} (h : j < L.length) : L.getD j (0, 0) ∈ L := by simp [List.getD, h]
theorem gD_at {L : List It} {j : Nat} (h : j < L.length) : L.getD j (0, 0) = L[j] := by simp [List.getD, h]
theorem adj_all {f : It → Int} {L : List It} (h : ∀ j, j < L.length → 0 < j → f (L.getD (j - 1) (0, 0)) ≤ f (L.getD j (0, 0))) : ∀ d i, i + d < L.length → f (L.getD i (0, 0)) ≤ f (L.getD (i + d) (0, 0)) := by
  intro d
  induction d with
  | zero => intro i _; exact Int.le_refl _
  | succ d ih =>
    intro i hi
    have h1 := ih i (by omega)
    have h2 := h (i + (d + 1)) hi (by omega)
    rw [show i + (d + 1) - 1 = i + d by omega] at h2
    omega
theorem orB_iff {L : List It} : orB L = true ↔ Rg L ∧ Ds L ∧ As L := by
  unfold orB
  rw [decide_eq_true_eq]
  constructor
  · intro h
    refine ⟨fun x hx => ?_, ?_, ?_⟩
    · obtain ⟨j, hj, rfl⟩ := List.mem_iff_getElem.1 hx
      obtain ⟨g1, g2, _⟩ := h j hj
      rw [gD_at hj] at g1 g2
      have := tickB_true g1; have := levB_true g2
      omega
    · unfold Ds
      rw [List.pairwise_iff_getElem]
      intro i j hi hj hij
      have g := adj_all (f := fun x => -x.2) (L := L) (fun j hj h0 => by have := ((h j hj).2.2 h0).2; omega) (j - i) i (by omega)
      rw [show i + (j - i) = j by omega, gD_at hi, gD_at hj] at g
      omega
    · unfold As
      rw [List.pairwise_iff_getElem]
      intro i j hi hj hij
      have g := adj_all (f := fun x => x.1) (L := L) (fun j hj h0 => ((h j hj).2.2 h0).1) (j - i) i (by omega)
      rw [show i + (j - i) = j by omega, gD_at hi, gD_at hj] at g
      exact g
  · rintro ⟨h1, h2, h3⟩ j hj
    have r := h1 _ (gD_mem hj)
    refine ⟨tickB_yes r.1.1 r.1.2, decide_eq_true r.2, fun h0 => ?_⟩
    rw [gD_at hj, gD_at (show j - 1 < L.length by omega)]
    exact ⟨List.pairwise_iff_getElem.1 h3 (j - 1) j (by omega) hj (by omega), List.pairwise_iff_getElem.1 h2 (j - 1) j (by omega) hj (by omega)⟩
end Go.Proofs.Ytinjainclhfahaa

namespace Go.Proofs.Ytinjainclhfahaa
open Go.RowKit

/-- The cells of the array. -/
def tyL (f : Nat → Int) : List Value := (List.range 31).map (fun j => .int .i64 (f j))
theorem tyL_at (f : Nat → Int) {j : Nat} (h : j < 31) : (tyL f)[j]? = some (.int .i64 (f j)) := by simp [tyL, h]
end Go.Proofs.Ytinjainclhfahaa

namespace Go.Proofs.Ytinjainclhfahaa
open Go.RowKit

section
variable {w w' : World} {g k n : Nat} {L : List It}
end
theorem Cp.drewN {w w' : World} {g : Nat} (h : Cp w w' g) (n : Nat) : Cp w (w'.drewN n) g := ⟨fun w0 h0 hg => (h.up w0 h0 hg).drewN n, h.far, h.size, h.fr⟩
theorem Cp.trans {w w' w2 : World} {g : Nat} (h : Cp w w' g) (h2 : Cp w' w2 g) : Cp w w2 g :=
  ⟨fun w0 h0 hg => h2.up w0 (h.up w0 h0 hg) hg, fun b hb => (h2.far b hb).trans (h.far b hb), h2.size.trans h.size, fun a => (h2.fr a).trans (h.fr a)⟩
end Go.Proofs.Ytinjainclhfahaa

namespace Go.Proofs.Ytinjainclhfahaa
open Go.RowKit

def ctO (L : List It) (k : Int) (j : Nat) : Prop := ((j : Int) < (L.getD 0 (0, 0)).2 → k ≤ (cn (j : Int) L : Int)) ∧ (cn (j : Int) L : Int) ≤ k + 1
instance (L : List It) (k : Int) (j : Nat) : Decidable (ctO L k j) := by unfold ctO; infer_instance
def ctB (L : List It) (k : Int) : Bool := decide (∀ j ∈ List.range 31, ctO L k j)
def vaB (L : List It) (k : Int) : Bool := kB k && (orB L && ctB L k)
theorem vaB_iff {L : List It} {k : Int} : vaB L k = true ↔ Va L k := by
  unfold vaB
  rw [Bool.and_eq_true, Bool.and_eq_true, orB_iff]
  unfold ctB
  rw [decide_eq_true_eq]
  simp only [List.mem_range]
  constructor
  · rintro ⟨h1, ⟨h2, h3, h4⟩, h5⟩
    have hk := kB_true h1
    have up : ∀ j, (cn j L : Int) ≤ k + 1 := fun j => by
      by_cases hj : 0 ≤ j ∧ j < 31
      · have := (h5 j.toNat (by omega)).2
        rwa [show ((j.toNat : Nat) : Int) = j by omega] at this
      · have : cn j L = 0 := cn_zero (fun x hx => by have := (h2 x hx).2; omega)
        rw [this]; omega
    refine ⟨hk.1, hk.2, h2, h3, h4, up, fun x hx j hj hjx => ?_⟩
    have h0 := h3.top x hx
    have := (h2 x hx).2
    have := (h5 j.toNat (by omega)).1
    rw [show ((j.toNat : Nat) : Int) = j by omega] at this
    exact this (by omega)
  · intro h
    refine ⟨decide_eq_true ⟨h.k1, h.k2⟩, ⟨h.rg, h.ds, h.as_⟩, fun j hj => ⟨fun hlt => ?_, h.up _⟩⟩
    by_cases hX : L = []
    · subst hX; simp at hlt; omega
    · exact h.fl _ (getD0_mem hX) _ (by omega) hlt
end Go.Proofs.Ytinjainclhfahaa

namespace Go.Proofs.Ytinjainclhfahaa
open Go.RowKit

/-- A block of 31 numbers, made by the reference. -/
def Mk (w : World) (g : Nat) (f : Nat → Int) : Prop := Blk w g 3 (tyL f).toArray
theorem Mk.at_ {w : World} {g : Nat} {f : Nat → Int} (h : Mk w g f) {j : Nat} (hj : j < 31) : w.cell? ⟨g, j, none⟩ = some (.int .i64 (f j)) := by
  rw [Blk.cell h]; simp [tyL_at f hj]
theorem Mk.up {w w' : World} {g : Nat} {f : Nat → Int} (h : Mk w g f) (hu : Up w w') : Mk w' g f := Blk.up h hu
end Go.Proofs.Ytinjainclhfahaa

namespace Go.Proofs.Ytinjainclhfahaa
open Go.RowKit

/-- Rows of numbers. -/
def il (L : List Int) : List Value := L.map (.int .i64)
def OwI (w0 w : World) (v : Value) (n : Nat) (L : List Int) : Prop := Rw w0 w 3 1 v n (il L)
theorem OwI.nil (w0 w : World) : OwI w0 w (.slice none 0 0) 0 [] := Rw.nil _ _ _ _
end Go.Proofs.Ytinjainclhfahaa

namespace Go.Proofs.Ytinjainclhfahaa
open Go.RowKit

theorem OwI.of_up {w0 w w' : World} {v : Value} {n : Nat} {L : List Int} (h : OwI w0 w v n L) (hu : Up w w') : OwI w0 w' v n L := Rw.of_up h hu
end Go.Proofs.Ytinjainclhfahaa
