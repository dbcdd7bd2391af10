/- The arithmetic of the products of two wide numbers. -/
import Derived.Test.YtinjainclhfahaaRows
import Derived.Test.YtinjainclhfahaaZWFormatq11
import Derived.Test.YtinjainclhfahaaZWMulq24
namespace Go.Proofs.Ytinjainclhfahaa
open Go.RowKit

theorem mul_far2 {ah al bh bl : Int} (h1 : Word ah) (h2 : Word al) (h3 : Word bh) (h4 : Word bl) (t1 : ah ≠ 0) (t2 : bh ≠ 0) : ¬ In2 (val ah al * val bh bl) := by
  obtain ⟨a1, _⟩ := h1; obtain ⟨b1, _⟩ := h2; obtain ⟨c1, _⟩ := h3; obtain ⟨d1, _⟩ := h4
  have : 18446744073709551616 * 18446744073709551616 ≤ val ah al * val bh bl := Int.mul_le_mul (by unfold val; omega) (by unfold val; omega) (by decide) (by unfold val; omega)
  unfold In2; omega
theorem mul_near2 {ah al bh bl : Int} (h1 : Word ah) (h2 : Word al) (h3 : Word bh) (h4 : Word bl) (h : ah = 0 ∨ bh = 0) :
    ((hiZ (ah * bl) ≠ 0 ∨ hiZ (al * bh) ≠ 0) → ¬ In2 (val ah al * val bh bl)) ∧
    (hiZ (ah * bl) = 0 → hiZ (al * bh) = 0 → 0 ≤ loZ (ah * bl) + loZ (al * bh) ∧ loZ (ah * bl) + loZ (al * bh) < 18446744073709551616 ∧ val (hiZ (al * bl)) (loZ (al * bl)) + val (loZ (ah * bl) + loZ (al * bh)) 0 = val ah al * val bh bl) := by
  have hz : ah * bh = 0 := by rcases h with h | h <;> subst h <;> simp
  have hlr : ah * bl = 0 ∨ al * bh = 0 := by rcases h with h | h <;> subst h <;> simp
  have p1 := (mul_word h1 h4).1
  have p2 := (mul_word h2 h3).1
  have p3 := (mul_word h2 h4).1
  have e : val ah al * val bh bl = (ah * bl + al * bh) * 18446744073709551616 + al * bl := by
    unfold val
    rw [Int.add_mul, Int.mul_add, Int.mul_add, Int.mul_right_comm ah 18446744073709551616 (bh * 18446744073709551616), ← Int.mul_assoc ah bh, hz, Int.mul_right_comm ah 18446744073709551616 bl, ← Int.mul_assoc al bh]
    omega
  rw [e, val_hilo]
  generalize ah * bl = L at *
  generalize al * bh = R at *
  generalize al * bl = P at *
  unfold hiZ loZ val In2
  refine ⟨fun hh => by omega, fun e1 e2 => ⟨by omega, by omega, by omega⟩⟩
theorem set4 {w w1 : World} {b0 o0 b1 o1 b2 o2 b3 o3 : Nat} {x0 x1 x2 x3 : Value} {b o : Nat} {v : Value}
    (h : Up w w1 ∧ w1.cell? ⟨b0, o0, none⟩ = some x0 ∧ w1.cell? ⟨b1, o1, none⟩ = some x1 ∧ w1.cell? ⟨b2, o2, none⟩ = some x2 ∧ w1.cell? ⟨b3, o3, none⟩ = some x3)
    (hb : w.heap.size ≤ b) (n0 : b ≠ b0) (n1 : b ≠ b1) (n2 : b ≠ b2) (n3 : b ≠ b3) :
    Up w (w1.setCell ⟨b, o, none⟩ v) ∧ (w1.setCell ⟨b, o, none⟩ v).cell? ⟨b0, o0, none⟩ = some x0 ∧ (w1.setCell ⟨b, o, none⟩ v).cell? ⟨b1, o1, none⟩ = some x1 ∧ (w1.setCell ⟨b, o, none⟩ v).cell? ⟨b2, o2, none⟩ = some x2 ∧ (w1.setCell ⟨b, o, none⟩ v).cell? ⟨b3, o3, none⟩ = some x3 :=
  ⟨h.1.setCell hb v, (cell_far n0).trans h.2.1, (cell_far n1).trans h.2.2.1, (cell_far n2).trans h.2.2.2.1, (cell_far n3).trans h.2.2.2.2⟩


end Go.Proofs.Ytinjainclhfahaa
