/- Texts of these claims, one after the other. -/
import Derived.Test.YtfcknhpllhkpeaaRows
import Derived.Test.YtfcknhpllhkpeaaZCClockq29
import Derived.Test.YtfcknhpllhkpeaaZHMathq11
namespace Go.Proofs.Ytfcknhpllhkpeaa
open Go.RowKit

def kB (k : Int) : Bool := decide (1 ≤ k ∧ k ≤ 128)
def levB (l : Int) : Bool := decide (0 ≤ l ∧ l ≤ 30)
theorem kB_true {k : Int} (h : kB k = true) : 1 ≤ k ∧ k ≤ 128 := of_decide_eq_true h
theorem levB_true {k : Int} (h : levB k = true) : 0 ≤ k ∧ k ≤ 30 := of_decide_eq_true h
end Go.Proofs.Ytfcknhpllhkpeaa

namespace Go.Proofs.Ytfcknhpllhkpeaa
open Go.RowKit

/-- What is asked of the bucket at place j. -/
def okO (L : List It) (j : Nat) : Prop := tickB (L.getD j (0, 0)).1 = true ∧ levB (L.getD j (0, 0)).2 = true ∧ (0 < j → (L.getD (j - 1) (0, 0)).1 ≤ (L.getD j (0, 0)).1 ∧ (L.getD j (0, 0)).2 ≤ (L.getD (j - 1) (0, 0)).2)
instance (L : List It) (j : Nat) : Decidable (okO L j) := by unfold okO; infer_instance
def orB (L : List It) : Bool := decide (∀ j, j < L.length → okO L j)
theorem gD_mem {L : List It} {j : Nat} (h : j < L.length) : L.getD j (0, 0) ∈ L := by simp [List.getD, h]
theorem gD_at {L : List It} {j : Nat} (h : j < L.length) : L.getD j (0, 0) = L[j] := by simp [List.getD, h]
theorem adj_all {f : It → Int} {L : List It} (h : ∀ j, j < L.length → 0 < j → f (L.getD (j - 1) (0, 0)) ≤ f (L.getD j (0, 0))) : ∀ d i, i + d < L.length → f (L.getD i (0, 0)) ≤ f (L.getD (i + d) (0, 0)) := by
  intro d
  induction d with
  | zero => intro i _; exact Int.le_refl _
  | succ d ih =>
    intro i hi
    have h1 := ih i (by omega)
    have h2 := h (i + (d + 1)) hi (by omega)
    rw [show i + (d + 1) - 1 = i + d by omega] at h2
    omega
theorem orB_iff {L : List It} : orB L = true ↔ Rg L ∧ Ds L ∧ As L := by
  unfold orB
  rw [decide_eq_true_eq]
  constructor
  · intro h
    refine ⟨fun x hx => ?_, ?_, ?_⟩
    · obtain ⟨j, hj, rfl⟩ := List.mem_iff_getElem.1 hx
      obtain ⟨g1, g2, _⟩ := h j hj
      rw [gD_at hj] at g1 g2
      have := tickB_true g1; have := levB_true g2
      omega
    · unfold Ds
      rw [List.pairwise_iff_getElem]
      intro i j hi hj hij
      have g := adj_all (f := fun x => -x.2) (L := L) (fun j hj h0 => by have := ((h j hj).2.2 h0).2; omega) (j - i) i (by omega)
      rw [show i + (j - i) = j by omega, gD_at hi, gD_at hj] at g
      omega
    · unfold As
      rw [List.pairwise_iff_getElem]
      intro i j hi hj hij
      have g := adj_all (f := fun x => x.1) (L := L) (fun j hj h0 => ((h j hj).2.2 h0).1) (j - i) i (by omega)
      rw [show i + (j - i) = j by omega, gD_at hi, gD_at hj] at g
      exact g
  · rintro ⟨h1, h2, h3⟩ j hj
    have r := h1 _ (gD_mem hj)
    refine ⟨tickB_yes r.1.1 r.1.2, decide_eq_true r.2, fun h0 => ?_⟩
    rw [gD_at hj, gD_at (show j - 1 < L.length by omega)]
    exact ⟨List.pairwise_iff_getElem.1 h3 (j - 1) j (by omega) hj (by omega), List.pairwise_iff_getElem.1 h2 (j - 1) j (by omega) hj (by omega)⟩
end Go.Proofs.Ytfcknhpllhkpeaa
