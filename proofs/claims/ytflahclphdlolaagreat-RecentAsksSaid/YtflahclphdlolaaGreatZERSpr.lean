/- What Few and Spread of the reference of layer 8 return. -/
import Derived.Test.YtflahclphdlolaaGreatZESpread
import Derived.Test.YtflahclphdlolaaGreatZESq
import Derived.Test.YtflahclphdlolaaGreatZETotal
import Derived.Test.YtflahclphdlolaaGreatZG0a
import Derived.Test.YtflahclphdlolaaGreatZG2a
import Derived.Test.YtflahclphdlolaaGreatZRMake
namespace Go.Proofs.YtflahclphdlolaaGreat
open Go.RowKit

/-- The values are small. -/
def smallV (v : Int) : Prop := -1048576 ≤ v ∧ v ≤ 1048576
def fewB (L : List It) : Bool := decide (L.length ≤ 200) && L.all (fun x => decide (-1048576 ≤ x.2 ∧ x.2 ≤ 1048576))
theorem fewB_true {L : List It} (h : fewB L = true) : L.length ≤ 200 ∧ ∀ x ∈ L, smallV x.2 := by
  unfold fewB at h
  rw [Bool.and_eq_true, decide_eq_true_eq, List.all_eq_true] at h
  exact ⟨h.1, fun x hx => (of_decide_eq_true (h.2 x hx) : -1048576 ≤ x.2 ∧ x.2 ≤ 1048576)⟩
theorem fewB_great {L : List It} (h : 200 < L.length) : fewB L = false := by unfold fewB; rw [decide_eq_false (by omega)]; rfl
theorem fewB_bad {L : List It} {i : Nat} (hi : i < L.length) (h : ¬ smallV (L.getD i (0, 0)).2) : fewB L = false := by
  rw [Bool.eq_false_iff]
  intro hf
  exact h ((fewB_true hf).2 _ (by simp [List.getD, hi]))
theorem fewB_good {L : List It} (h : L.length ≤ 200) (ha : ∀ j, j < L.length → smallV (L.getD j (0, 0)).2) : fewB L = true := by
  unfold fewB
  rw [decide_eq_true h, Bool.true_and, List.all_eq_true]
  intro x hx
  obtain ⟨j, hj, rfl⟩ := List.getElem_of_mem hx
  have := ha j hj
  simp only [List.getD, List.getElem?_eq_getElem hj, Option.getD_some] at this
  exact decide_eq_true this
theorem sq_small {a b : Int} (ha : smallV a) (hb : smallV b) : -2097152 ≤ a - b ∧ a - b ≤ 2097152 ∧ 0 ≤ (a - b) * (a - b) ∧ (a - b) * (a - b) ≤ 4398046511104 := by
  unfold smallV at *
  refine ⟨by omega, by omega, ?_, ?_⟩
  · rw [← sq_abs]; exact Int.mul_nonneg (by omega) (by omega)
  · rw [← sq_abs]
    have h1 : ((a - b).natAbs : Int) ≤ 2097152 := by omega
    have := Int.mul_le_mul h1 h1 (by omega) (by omega)
    omega
theorem rowZ_le {v : Int} {L : List It} (hv : smallV v) (h : ∀ x ∈ L, smallV x.2) : rowZ v L ≤ L.length * 4398046511104 := by
  induction L with
  | nil => simp [rowZ]
  | cons x L ih =>
    have h1 := (sq_small hv (h x (by simp))).2.2.2
    have h2 := ih (fun y hy => h y (by simp [hy]))
    simp only [rowZ, List.map_cons, List.sum_cons, List.length_cons] at *
    omega
theorem rowZ_take {L : List It} {j : Nat} (hj : j < L.length) (v : Int) : rowZ v (L.take (j + 1)) = rowZ v (L.take j) + (v - (L.getD j (0, 0)).2) * (v - (L.getD j (0, 0)).2) := by
  rw [take_next hj]; simp [rowZ]
theorem dvZ_small {L : List It} (hl : L.length ≤ 200) (h : ∀ x ∈ L, smallV x.2) (i : Nat) (hi : i ≤ L.length) : 0 ≤ dvZ (L.take i) ∧ dvZ (L.take i) ≤ i * 879609302220800 := by
  refine ⟨dvZ_nonneg _, ?_⟩
  induction i with
  | zero => rw [List.take_zero, dvZ_nil]; omega
  | succ i ih =>
    rw [take_next (by omega), dvZ_next]
    have h1 := ih (by omega)
    have h2 := rowZ_le (h (L.getD i (0, 0)) (by simp [List.getD, show i < L.length by omega])) (fun x hx => h x (List.mem_of_mem_take (i := i) hx))
    rw [List.length_take] at h2
    have h3 : (((min i L.length : Nat)) : Int) ≤ 200 := by omega
    omega

theorem quo_0_1 : quoN 0 1 = 0 ∧ quoD 0 1 = 1 ∧ quoB 0 1 = true := by decide
end Go.Proofs.YtflahclphdlolaaGreat
