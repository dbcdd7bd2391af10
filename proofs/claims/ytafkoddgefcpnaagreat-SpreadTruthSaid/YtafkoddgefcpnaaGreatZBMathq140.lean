/- Plain facts on answers with bounds. -/
import Derived.Test.YtafkoddgefcpnaaGreatRows
import Derived.Test.YtafkoddgefcpnaaGreatZREasyq131
import Derived.Test.YtafkoddgefcpnaaGreatZRMakeq136
import Derived.Test.YtafkoddgefcpnaaGreatZRSumq137
namespace Go.Proofs.YtafkoddgefcpnaaGreat

/-- An answer that is in order; a number that lies in it. -/
def bvB (a b c d e f:Int):Bool:=validB a b && (validB c d && (validB e f && (decide (cmpR a b c d≤0) && decide (cmpR c d e f≤0))))
def hoB (a b c d e f n m:Int):Bool:=bvB a b c d e f && (validB n m && (decide (cmpR a b n m≤0) && decide (cmpR n m e f≤0)))
theorem cmpR_val {n d m c:Int} (h:validB n d=true) (k:validB m c=true):cmpR n d m c=cmpZ (n * c) (m * d):=by
  unfold cmpR;rw [h,k,crossZ_eq];rfl
theorem le_of_cmpR {n d m c:Int} (h:validB n d=true) (k:validB m c=true):cmpR n d m c≤0 ↔ n * c≤m * d:=by
  rw [cmpR_val h k];exact cmpZ_le

theorem bvB_of {a b c d e f:Int} (h:bvB a b c d e f=true):validB a b=true∧validB c d=true∧validB e f=true∧cmpR a b c d≤0∧cmpR c d e f≤0:=by
  unfold bvB at h
  simp only [Bool.and_eq_true,decide_eq_true_eq] at h
  exact h
theorem bvB_mk {a b c d e f:Int} (h1:validB a b=true) (h2:validB c d=true) (h3:validB e f=true) (h4:cmpR a b c d≤0) (h5:cmpR c d e f≤0):bvB a b c d e f=true:=by
  unfold bvB
  simp only [Bool.and_eq_true,decide_eq_true_eq]
  exact ⟨h1,h2,h3,h4,h5⟩
theorem hoB_mk {a b c d e f n m:Int} (h1:bvB a b c d e f=true) (h2:validB n m=true) (h3:cmpR a b n m≤0) (h4:cmpR n m e f≤0):hoB a b c d e f n m=true:=by
  unfold hoB
  simp only [Bool.and_eq_true,decide_eq_true_eq]
  exact ⟨h1,h2,h3,h4⟩

/-- The order of rational numbers is transitive. -/
theorem cmpR_trans {a b c d e f:Int} (h1:validB a b=true) (h2:validB c d=true) (h3:validB e f=true) (x:cmpR a b c d≤0) (y:cmpR c d e f≤0):cmpR a b e f≤0:=by
  rw [le_of_cmpR h1 h2] at x
  rw [le_of_cmpR h2 h3] at y
  rw [le_of_cmpR h1 h3]
  have b1:=(validB_of h1).1
  have d1:=(validB_of h2).1
  have f1:=(validB_of h3).1
  have e1:a * d * f≤c * b * f:=Int.mul_le_mul_of_nonneg_right x (by omega)
  have e2:c * f * b≤e * d * b:=Int.mul_le_mul_of_nonneg_right y (by omega)
  have e3:(a * f) * d≤(e * b) * d:=by
    have t1:a * d * f=(a * f) * d:=by ac_rfl
    have t2:c * b * f=c * f * b:=by ac_rfl
    have t3:e * d * b=(e * b) * d:=by ac_rfl
    rw [t1,t2] at e1;rw [t3] at e2;omega
  exact Int.le_of_mul_le_mul_right e3 (by omega)
end Go.Proofs.YtafkoddgefcpnaaGreat
