/- The spread of a list of values: that of a suffix, and what later items do to a suffix that is close. No program is named here. -/
import Derived.Test.YtafkoddgefcpnabRows
import Derived.Test.YtafkoddgefcpnabZESqq20
namespace Go.Proofs.Ytafkoddgefcpnab

/-- The number times the spread. -/
def spW (A : List Int) : Int := (A.length : Int) * sqL A - suL A * suL A
theorem spW_nn (A : List Int) : 0 ≤ spW A := by have := cauchy A; unfold spW; omega
/-- Squared distances, times n n, from S / n. -/
theorem dist_eq (n S : Int) : ∀ A : List Int, sqL (A.map (fun x => n * x - S)) = n * n * sqL A - 2 * n * S * suL A + (A.length : Int) * (S * S) := by
  intro A
  induction A with
  | nil => simp [sqL, suL]
  | cons x A ih =>
    simp only [List.map_cons, sqL, suL, ih, List.length_cons]
    have e : ((A.length + 1 : Nat) : Int) = (A.length : Int) + 1 := by omega
    rw [e]
    grind
theorem dist_nn (n S : Int) (A : List Int) : 0 ≤ n * n * sqL A - 2 * n * S * suL A + (A.length : Int) * (S * S) := by
  rw [← dist_eq]; exact sqL_nn _
/-- The last step, on the aggregates alone. -/
theorem later_end {k b n d UD WB WBC TD G M : Int} (hk : 1 ≤ k) (hb : 1 ≤ b) (eM : M = 6 * k - 1)
    (s1 : M * d ≤ b) (s3 : M * (M * UD) ≤ 6 * k * (b * WB)) (s4 : n * n * WB + G * G ≤ b * (n * WBC)) (s5 : b * b * TD ≤ 2 * (n * n * UD) + 2 * (d * (G * G))) (wB : 0 ≤ n * n * WB) : k * TD ≤ n * WBC := by
  have hM : 5 ≤ M := by omega
  have gg := sq_nn G
  have nn := sq_nn n
  -- each term against the same
  have t1 : M * M * (2 * (n * n * UD)) ≤ 12 * k * (b * (n * n * WB)) := by
    have h := Int.mul_le_mul_of_nonneg_left s3 (show 0 ≤ 2 * (n * n) by omega)
    have e1 : 2 * (n * n) * (M * (M * UD)) = M * M * (2 * (n * n * UD)) := by grind
    have e2 : 2 * (n * n) * (6 * k * (b * WB)) = 12 * k * (b * (n * n * WB)) := by grind
    rw [e1, e2] at h; exact h
  have t2 : M * M * (2 * (d * (G * G))) ≤ 2 * M * (b * (G * G)) := by
    have h := Int.mul_le_mul_of_nonneg_left s1 (Int.mul_nonneg (show 0 ≤ 2 * M by omega) gg)
    have e1 : 2 * M * (G * G) * (M * d) = M * M * (2 * (d * (G * G))) := by grind
    have e2 : 2 * M * (G * G) * b = 2 * M * (b * (G * G)) := by grind
    rw [e1, e2] at h; exact h
  have t3 : M * M * (b * b * TD) ≤ 12 * k * (b * (n * n * WB)) + 2 * M * (b * (G * G)) := by
    have h := Int.mul_le_mul_of_nonneg_left s5 (Int.mul_nonneg (show 0 ≤ M by omega) (show 0 ≤ M by omega))
    rw [Int.mul_add] at h
    omega
  have c1 : k * (12 * k) ≤ M * M := by
    have h := Int.mul_le_mul_of_nonneg_left hk (show 0 ≤ 24 * k by omega)
    have e : M * M = 36 * (k * k) - 12 * k + 1 := by subst eM; grind
    have e2 : k * (12 * k) = 12 * (k * k) := by grind
    have e3 : 24 * k * k = 24 * (k * k) := by grind
    omega
  have c2 : k * (2 * M) ≤ M * M := by
    have e : k * (2 * M) = 2 * k * M := by grind
    rw [e]; exact Int.mul_le_mul_of_nonneg_right (by omega) (by omega)
  have bW : 0 ≤ b * (n * n * WB) := Int.mul_nonneg (by omega) wB
  have bG : 0 ≤ b * (G * G) := Int.mul_nonneg (by omega) gg
  have u1 := Int.mul_le_mul_of_nonneg_right c1 bW
  have u2 := Int.mul_le_mul_of_nonneg_right c2 bG
  have u3 := Int.mul_le_mul_of_nonneg_left t3 (show 0 ≤ k by omega)
  have u4 := Int.mul_le_mul_of_nonneg_left s4 (show 0 ≤ M * M * b from Int.mul_nonneg (Int.mul_nonneg (by omega) (by omega)) (by omega))
  have f1 : k * (12 * k * (b * (n * n * WB)) + 2 * M * (b * (G * G))) = k * (12 * k) * (b * (n * n * WB)) + k * (2 * M) * (b * (G * G)) := by grind
  have f2 : M * M * b * (n * n * WB + G * G) = M * M * (b * (n * n * WB)) + M * M * (b * (G * G)) := by grind
  have f3 : k * (M * M * (b * b * TD)) = M * M * (b * b) * (k * TD) := by grind
  have f4 : M * M * b * (b * (n * WBC)) = M * M * (b * b) * (n * WBC) := by grind
  rw [f1, f3] at u3
  rw [f2, f4] at u4
  refine Int.le_of_mul_le_mul_left (a := M * M * (b * b)) (by omega) ?_
  exact Int.mul_pos (Int.mul_pos (by omega) (by omega)) (Int.mul_pos (by omega) (by omega))
/-- The core, on numbers, sums and sums of squares of three lists D, B, C. -/
theorem later_core {k d b c sD sB sC qD qB qC : Int} (hk : 1 ≤ k) (hd : 0 ≤ d) (hb : 1 ≤ b) (hc : 0 ≤ c)
    (uD : 0 ≤ b * b * qD - 2 * b * sB * sD + d * (sB * sB))
    (vD : 0 ≤ (b + c) * b * ((b + c) * b) * qD - 2 * ((b + c) * b) * (2 * ((b + c) * sB) - b * (sB + sC)) * sD + d * ((2 * ((b + c) * sB) - b * (sB + sC)) * (2 * ((b + c) * sB) - b * (sB + sC))))
    (wD : sD * sD ≤ d * qD) (wB : sB * sB ≤ b * qB)
    (tC : 0 ≤ (b + c) * (b + c) * qC - 2 * (b + c) * (sB + sC) * sC + c * ((sB + sC) * (sB + sC)))
    (h1 : (6 * k - 1) * (d + b) ≤ 6 * k * b)
    (h2 : (6 * k - 1) * (b * ((d + b) * (qD + qB) - (sD + sB) * (sD + sB))) ≤ 6 * k * ((d + b) * (b * qB - sB * sB))) :
    k * (((d + b + c) * (qD + qB + qC) - (sD + sB + sC) * (sD + sB + sC)) * (b + c)) ≤ (k + 1) * (((b + c) * (qB + qC) - (sB + sC) * (sB + sC)) * (d + b + c)) := by
  obtain ⟨n, en⟩ : ∃ n, n = b + c := ⟨_, rfl⟩
  obtain ⟨S, eS⟩ : ∃ S, S = sB + sC := ⟨_, rfl⟩
  obtain ⟨M, eM⟩ : ∃ M, M = 6 * k - 1 := ⟨_, rfl⟩
  obtain ⟨UD, eU⟩ : ∃ U, U = b * b * qD - 2 * b * sB * sD + d * (sB * sB) := ⟨_, rfl⟩
  obtain ⟨WB, eW⟩ : ∃ W, W = b * qB - sB * sB := ⟨_, rfl⟩
  obtain ⟨WA, eA⟩ : ∃ W, W = (d + b) * (qD + qB) - (sD + sB) * (sD + sB) := ⟨_, rfl⟩
  obtain ⟨WBC, eB⟩ : ∃ W, W = n * (qB + qC) - S * S := ⟨_, rfl⟩
  obtain ⟨TD, eT⟩ : ∃ T, T = n * n * qD - 2 * n * S * sD + d * (S * S) := ⟨_, rfl⟩
  obtain ⟨G, eG⟩ : ∃ G, G = n * sB - b * S := ⟨_, rfl⟩
  have hM : 5 ≤ M := by omega
  have hW : 0 ≤ WB := by omega
  have hU : 0 ≤ UD := by rw [eU]; exact uD
  -- closeness
  have p1 : b * b * WA = (d + b) * (b * WB + UD) - (b * sD - d * sB) * (b * sD - d * sB) := by subst eA eW eU; grind
  have p2 : d * UD - (b * sD - d * sB) * (b * sD - d * sB) = b * b * (d * qD - sD * sD) := by subst eU; grind
  have p3 : 0 ≤ b * b * (d * qD - sD * sD) := Int.mul_nonneg (Int.mul_nonneg (by omega) (by omega)) (by omega)
  have p4 : b * ((d + b) * WB + UD) ≤ b * (b * WA) := by
    have e1 : b * ((d + b) * WB + UD) = (d + b) * (b * WB) + b * UD := by grind
    have e2 : b * (b * WA) = b * b * WA := by grind
    have e3 : (d + b) * (b * WB + UD) = (d + b) * (b * WB) + (d * UD + b * UD) := by grind
    rw [e1, e2, p1, e3]
    omega
  have p5 : (d + b) * WB + UD ≤ b * WA := Int.le_of_mul_le_mul_left p4 (by omega)
  have p6 : M * UD ≤ (d + b) * WB := by
    have h := Int.mul_le_mul_of_nonneg_left p5 (show 0 ≤ M by omega)
    rw [← eA, ← eW, ← eM] at h2
    have e1 : M * ((d + b) * WB + UD) = M * ((d + b) * WB) + M * UD := Int.mul_add _ _ _
    have e2 : 6 * k * ((d + b) * WB) = M * ((d + b) * WB) + (d + b) * WB := by subst eM; grind
    omega
  have s1 : M * d ≤ b := by
    rw [← eM] at h1
    have e1 : M * (d + b) = M * d + M * b := Int.mul_add _ _ _
    have e2 : 6 * k * b = M * b + b := by subst eM; grind
    omega
  have s3 : M * (M * UD) ≤ 6 * k * (b * WB) := by
    have h := Int.mul_le_mul_of_nonneg_left p6 (show 0 ≤ M by omega)
    have h' := Int.mul_le_mul_of_nonneg_right h1 hW
    rw [← eM] at h'
    have e1 : M * (d + b) * WB = M * ((d + b) * WB) := Int.mul_assoc _ _ _
    have e2 : 6 * k * b * WB = 6 * k * (b * WB) := Int.mul_assoc _ _ _
    omega
  have s4 : n * n * WB + G * G ≤ b * (n * WBC) := by
    have e1 : b * (n * n * qB - 2 * n * S * sB + b * (S * S)) = n * n * WB + G * G := by subst eW eG; grind
    have e2 : (n * n * qB - 2 * n * S * sB + b * (S * S)) + (n * n * qC - 2 * n * S * sC + c * (S * S)) = n * WBC := by subst eB eS en; grind
    rw [← en, ← eS] at tC
    have h := Int.mul_nonneg (show 0 ≤ b by omega) tC
    have e3 := Int.mul_add b (n * n * qB - 2 * n * S * sB + b * (S * S)) (n * n * qC - 2 * n * S * sC + c * (S * S))
    rw [← e1, ← e2]
    omega
  have s5 : b * b * TD ≤ 2 * (n * n * UD) + 2 * (d * (G * G)) := by
    have e1 : 2 * (n * n * UD) + 2 * (d * (G * G)) - b * b * TD = n * b * (n * b) * qD - 2 * (n * b) * (2 * (n * sB) - b * S) * sD + d * ((2 * (n * sB) - b * S) * (2 * (n * sB) - b * S)) := by subst eU eG eT; grind
    rw [← en, ← eS] at vD
    omega
  have key := later_end hk hb eM s1 s3 s4 s5 (Int.mul_nonneg (sq_nn n) hW)
  have hn : 0 < n := by omega
  refine Int.le_of_mul_le_mul_left (a := n) ?_ hn
  have i1 : n * n * ((d + b + c) * (qD + qB + qC) - (sD + sB + sC) * (sD + sB + sC)) = (d + n) * (n * WBC + TD) - (n * sD - d * S) * (n * sD - d * S) := by subst eB eT eS en; grind
  have i2 := sq_nn (n * sD - d * S)
  have i3 : k * (n * n * ((d + b + c) * (qD + qB + qC) - (sD + sB + sC) * (sD + sB + sC))) ≤ k * ((d + n) * (n * WBC + TD)) := Int.mul_le_mul_of_nonneg_left (by omega) (by omega)
  have i4 : (d + n) * (k * TD) ≤ (d + n) * (n * WBC) := Int.mul_le_mul_of_nonneg_left key (by omega)
  have i5 : k * ((d + n) * (n * WBC + TD)) = k * ((d + n) * (n * WBC)) + (d + n) * (k * TD) := by grind
  have i6 : n * (k * (((d + b + c) * (qD + qB + qC) - (sD + sB + sC) * (sD + sB + sC)) * (b + c))) = k * (n * n * ((d + b + c) * (qD + qB + qC) - (sD + sB + sC) * (sD + sB + sC))) := by rw [← en]; generalize (d + b + c) * (qD + qB + qC) - (sD + sB + sC) * (sD + sB + sC) = z; grind
  have i7 : n * ((k + 1) * (((b + c) * (qB + qC) - (sB + sC) * (sB + sC)) * (d + b + c))) = k * ((d + n) * (n * WBC)) + (d + n) * (n * WBC) := by rw [← en, ← eS, ← eB, show d + b + c = d + n by omega]; grind
  rw [i6, i7]
  omega
/-- Is B close to A ++ B? (by numbers and spreads) -/
def clW (k : Int) (A B : List Int) : Prop := (6 * k - 1) * (A.length : Int) ≤ 6 * k * B.length ∧ (6 * k - 1) * ((B.length : Int) * spW A) ≤ 6 * k * ((A.length : Int) * spW B)
/-- The spread of a suffix is not greater. -/
theorem spW_suffix (D B : List Int) : ((D ++ B).length : Int) * spW B ≤ (B.length : Int) * spW (D ++ B) := by
  by_cases hB : B = []
  · subst hB; simp [spW, sqL, suL]
  have hb : 1 ≤ (B.length : Int) := by have := List.length_pos_iff.2 hB; omega
  have uD := dist_nn B.length (suL B) D
  have wD := cauchy D
  have hd : 0 ≤ (D.length : Int) := Int.natCast_nonneg _
  unfold spW
  rw [List.length_append, sqL_app, suL_app]
  rw [show ((D.length + B.length : Nat) : Int) = (D.length : Int) + B.length by omega]
  generalize (D.length : Int) = d at *
  generalize (B.length : Int) = b at *
  generalize suL D = sD at *
  generalize suL B = sB at *
  generalize sqL D = qD at *
  generalize sqL B = qB at *
  obtain ⟨UD, eU⟩ : ∃ U, U = b * b * qD - 2 * b * sB * sD + d * (sB * sB) := ⟨_, rfl⟩
  rw [← eU] at uD
  have p1 : b * b * ((d + b) * (qD + qB) - (sD + sB) * (sD + sB)) = (d + b) * (b * (b * qB - sB * sB) + UD) - (b * sD - d * sB) * (b * sD - d * sB) := by subst eU; grind
  have p2 : d * UD - (b * sD - d * sB) * (b * sD - d * sB) = b * b * (d * qD - sD * sD) := by subst eU; grind
  have p3 : 0 ≤ b * b * (d * qD - sD * sD) := Int.mul_nonneg (Int.mul_nonneg (by omega) (by omega)) (by omega)
  have p4 : 0 ≤ b * UD := Int.mul_nonneg (by omega) uD
  refine Int.le_of_mul_le_mul_left (a := b) ?_ (by omega)
  have e1 : b * ((d + b) * (b * qB - sB * sB)) = (d + b) * (b * (b * qB - sB * sB)) := by grind
  have e2 : b * (b * ((d + b) * (qD + qB) - (sD + sB) * (sD + sB))) = b * b * ((d + b) * (qD + qB) - (sD + sB) * (sD + sB)) := by grind
  have e3 : (d + b) * (b * (b * qB - sB * sB) + UD) = (d + b) * (b * (b * qB - sB * sB)) + (d * UD + b * UD) := by grind
  rw [e1, e2, p1, e3]
  omega
/-- A suffix that is close stays within the k-th part of its spread, whatever items follow. -/
theorem spW_later {k : Int} {D B : List Int} (C : List Int) (hk : 1 ≤ k) (hB : B ≠ []) (h : clW k (D ++ B) B) : k * (((B ++ C).length : Int) * spW (D ++ B ++ C)) ≤ (k + 1) * (((D ++ B ++ C).length : Int) * spW (B ++ C)) := by
  have hb : 1 ≤ (B.length : Int) := by have := List.length_pos_iff.2 hB; omega
  obtain ⟨h1, h2⟩ := h
  have uD := dist_nn B.length (suL B) D
  have vD := dist_nn (((B.length : Int) + C.length) * B.length) (2 * (((B.length : Int) + C.length) * suL B) - B.length * (suL B + suL C)) D
  have tC := dist_nn ((B.length : Int) + C.length) (suL B + suL C) C
  have wD := cauchy D
  have wB := cauchy B
  unfold spW at h2 ⊢
  simp only [List.length_append, sqL_app, suL_app, Int.natCast_add] at h1 h2 ⊢
  have := later_core (k := k) (d := D.length) (b := B.length) (c := C.length) (sD := suL D) (sB := suL B) (sC := suL C) (qD := sqL D) (qB := sqL B) (qC := sqL C) hk (Int.natCast_nonneg _) hb (Int.natCast_nonneg _) uD vD wD wB tC h1 h2
  exact Int.le_trans (Int.le_of_eq (congrArg (fun z => k * z) (Int.mul_comm _ _))) (Int.le_trans this (Int.le_of_eq (congrArg (fun z => (k + 1) * z) (Int.mul_comm _ _))))
end Go.Proofs.Ytafkoddgefcpnab
