/- The spread of a list of values: that of a suffix, and what later items do to a suffix that is close. No program is named here. -/
import Derived.Test.YtafkoddgefcpnaaRows
import Derived.Test.YtafkoddgefcpnaaZHSameq95
import Derived.Test.YtafkoddgefcpnaaZWCmpq20
import Derived.Test.YtafkoddgefcpnaaZWFormatq26
namespace Go.Proofs.Ytafkoddgefcpnaa

/-- The number times the spread. -/
def spW (A : List Int) : Int := (A.length : Int) * sqL A - suL A * suL A
theorem spW_nn (A : List Int) : 0 ≤ spW A := by have := cauchy A; unfold spW; omega
/-- Squared distances, times n n, from S / n. -/
theorem dist_eq (n S : Int) : ∀ A : List Int, sqL (A.map (fun x => n * x - S)) = n * n * sqL A - 2 * n * S * suL A + (A.length : Int) * (S * S) := by
  intro A
  induction A with
  | nil => simp [sqL, suL]
  | cons x A ih =>
    simp only [List.map_cons, sqL, suL, ih, List.length_cons]
    have e : ((A.length + 1 : Nat) : Int) = (A.length : Int) + 1 := by omega
    rw [e]
    grind
theorem dist_nn (n S : Int) (A : List Int) : 0 ≤ n * n * sqL A - 2 * n * S * suL A + (A.length : Int) * (S * S) := by
  rw [← dist_eq]; exact sqL_nn _
/-- Is B close to A ++ B? (by numbers and spreads) -/
def clW (k : Int) (A B : List Int) : Prop := (6 * k - 1) * (A.length : Int) ≤ 6 * k * B.length ∧ (6 * k - 1) * ((B.length : Int) * spW A) ≤ 6 * k * ((A.length : Int) * spW B)
/-- The spread of a suffix is not greater. -/
theorem spW_suffix (D B : List Int) : ((D ++ B).length : Int) * spW B ≤ (B.length : Int) * spW (D ++ B) := by
  by_cases hB : B = []
  · subst hB; simp [spW, sqL, suL]
  have hb : 1 ≤ (B.length : Int) := by have := List.length_pos_iff.2 hB; omega
  have uD := dist_nn B.length (suL B) D
  have wD := cauchy D
  have hd : 0 ≤ (D.length : Int) := Int.natCast_nonneg _
  unfold spW
  rw [List.length_append, sqL_app, suL_app]
  rw [show ((D.length + B.length : Nat) : Int) = (D.length : Int) + B.length by omega]
  generalize (D.length : Int) = d at *
  generalize (B.length : Int) = b at *
  generalize suL D = sD at *
  generalize suL B = sB at *
  generalize sqL D = qD at *
  generalize sqL B = qB at *
  obtain ⟨UD, eU⟩ : ∃ U, U = b * b * qD - 2 * b * sB * sD + d * (sB * sB) := ⟨_, rfl⟩
  rw [← eU] at uD
  have p1 : b * b * ((d + b) * (qD + qB) - (sD + sB) * (sD + sB)) = (d + b) * (b * (b * qB - sB * sB) + UD) - (b * sD - d * sB) * (b * sD - d * sB) := by subst eU; grind
  have p2 : d * UD - (b * sD - d * sB) * (b * sD - d * sB) = b * b * (d * qD - sD * sD) := by subst eU; grind
  have p3 : 0 ≤ b * b * (d * qD - sD * sD) := Int.mul_nonneg (Int.mul_nonneg (by omega) (by omega)) (by omega)
  have p4 : 0 ≤ b * UD := Int.mul_nonneg (by omega) uD
  refine Int.le_of_mul_le_mul_left (a := b) ?_ (by omega)
  have e1 : b * ((d + b) * (b * qB - sB * sB)) = (d + b) * (b * (b * qB - sB * sB)) := by grind
  have e2 : b * (b * ((d + b) * (qD + qB) - (sD + sB) * (sD + sB))) = b * b * ((d + b) * (qD + qB) - (sD + sB) * (sD + sB)) := by grind
  have e3 : (d + b) * (b * (b * qB - sB * sB) + UD) = (d + b) * (b * (b * qB - sB * sB)) + (d * UD + b * UD) := by grind
  rw [e1, e2, p1, e3]
  omega
end Go.Proofs.Ytafkoddgefcpnaa
