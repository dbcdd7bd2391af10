/- The digits of a number are read as that number. No program is walked here. -/
import Derived.Test.YtkhgibpginbdcaaWBack
namespace Go.Proofs.Ytkhgibpginbdcaa
open Go.RowKit

theorem step_digit (n d : Nat) (hd : d ≤ 9) (hi : In2 ((n * 10 + d : Nat) : Int)) : pstep (some (n : Int)) (UInt8.ofNat (48 + d)) = some ((n * 10 + d : Nat) : Int) := by
  have hc : (UInt8.ofNat (48 + d)).toNat = 48 + d := digit_toNat d (by omega)
  have e : (n : Int) * 10 + (((UInt8.ofNat (48 + d)).toNat : Int) - 48) = ((n * 10 + d : Nat) : Int) := by rw [hc]; omega
  obtain ⟨hv, hb⟩ := apV_yes (n := (n : Int)) (c := ((UInt8.ofNat (48 + d)).toNat : Int)) (by rw [hc]; omega)
  unfold pstep
  simp only
  rw [hb, hv, e, fits2_yes hi, fit2_yes hi, if_pos rfl]
theorem dec_fold (f : Nat) : ∀ m : Nat, m < 10 ^ (f + 1) → In2 (m : Int) →
    pfold (dec (f + 1) m) = some (m : Int) ∧ dec (f + 1) m ≠ [] ∧ (dec (f + 1) m).length ≤ f + 1 ∧ (m ≠ 0 → (dec (f + 1) m).head? ≠ some 48) := by
  induction f with
  | zero =>
    intro m hm hi
    have hz : m / 10 = 0 := by rw [Nat.zero_add, Nat.pow_one] at hm; omega
    rw [dec_last hz]
    have h := step_digit 0 (m % 10) (by omega) (by rw [show 0 * 10 + m % 10 = m by omega]; exact hi)
    rw [show 0 * 10 + m % 10 = m by omega] at h
    refine ⟨h, by simp, by simp, fun h0 hx => ?_⟩
    have hx' : UInt8.ofNat (48 + m % 10) = 48 := by simpa using hx
    have := congrArg UInt8.toNat hx'
    rw [digit_toNat _ (by omega)] at this
    have h48 : (48 : UInt8).toNat = 48 := by decide
    omega
  | succ f ih =>
    intro m hm hi
    by_cases hz : m / 10 = 0
    · rw [dec_last hz]
      have h := step_digit 0 (m % 10) (by omega) (by rw [show 0 * 10 + m % 10 = m by omega]; exact hi)
      rw [show 0 * 10 + m % 10 = m by omega] at h
      refine ⟨h, by simp, by simp, fun h0 hx => ?_⟩
      have hx' : UInt8.ofNat (48 + m % 10) = 48 := by simpa using hx
      have := congrArg UInt8.toNat hx'
      rw [digit_toNat _ (by omega)] at this
      have h48 : (48 : UInt8).toNat = 48 := by decide
      omega
    · rw [dec_more hz]
      obtain ⟨i1, i2, i3, i4⟩ := ih (m / 10) (by rw [Nat.pow_succ] at hm; omega) (by unfold In2 at *; omega)
      have h := step_digit (m / 10) (m % 10) (by omega) (by rw [show m / 10 * 10 + m % 10 = m by omega]; exact hi)
      rw [show m / 10 * 10 + m % 10 = m by omega] at h
      refine ⟨?_, by simp, by simp; omega, fun h0 hx => ?_⟩
      · unfold pfold at *
        rw [List.foldl_append, i1]
        exact h
      · apply i4 hz
        rw [List.head?_append] at hx
        cases hc : (dec (f + 1) (m / 10)).head? with
        | none => exact absurd (List.head?_eq_none_iff.1 hc) i2
        | some c => rw [hc] at hx; exact hx
theorem par_decs (v : Int) (hv : In2 v) : pv (decs v) = v ∧ pb (decs v) = true := by
  obtain ⟨n, rfl⟩ := Int.eq_ofNat_of_zero_le hv.1
  have p39 : (10 : Nat) ^ (38 + 1) = 1000000000000000000000000000000000000000 := by decide
  obtain ⟨h1, h2, h3, h4⟩ := dec_fold 38 n (by rw [p39]; unfold In2 at hv; omega) hv
  have hd : decs (n : Int) = dec (38 + 1) n := by unfold decs; rw [Int.toNat_natCast]
  rw [hd]
  refine pv_yes ?_ h1
  by_cases hz : n = 0
  · subst hz; decide
  · unfold okHead
    have e1 : (dec (38 + 1) n).isEmpty = false := by simpa using h2
    have e3 : ((dec (38 + 1) n).head? != some 48) = true := bne_iff_ne.2 (h4 hz)
    rw [e1, e3, decide_eq_true (show (dec (38 + 1) n).length ≤ 39 from h3)]
    rfl

end Go.Proofs.Ytkhgibpginbdcaa
