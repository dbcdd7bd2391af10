/- What wide.divShort returns. -/
import Derived.Test.YtafkoddgefcpnabRows
import Derived.Test.YtafkoddgefcpnabZWDiv64q3
namespace Go.Proofs.Ytafkoddgefcpnab
open Go.RowKit

theorem div64_up (hi lo y : Int) (h1 : Word hi) (h2 : Word lo) (h3 : Word y) (hy : hi < y) (w : World) :
    Calls Try.prog 71 #[.int .u64 hi, .int .u64 lo, .int .u64 y] w fun e w' =>
      e = .returned (.tuple #[.int .u64 (val hi lo / y), .int .u64 (val hi lo % y)]) ∧ ∃ n, w' = w.drewN n := by
  by_cases hp : hi = 0
  · subst hp
    have e : val 0 lo = lo := by unfold val; omega
    rw [e]
    exact div64_zero lo y h2 h3 hy w
  · refine (div64_pos hi lo y h1 h2 h3 (by obtain ⟨a, _⟩ := h1; omega) hy w).mono ?_
    rintro e w' ⟨he, rfl⟩
    exact ⟨he, 0, rfl⟩

theorem short_eq (ah al b : Int) (h1 : Word ah) (h2 : Word al) (hb : 0 < b) :
    hiZ (val ah al / b) = ah / b ∧ loZ (val ah al / b) = val (ah % b) al / b ∧ val ah al % b = val (ah % b) al % b := by
  obtain ⟨a1, a2⟩ := h1; obtain ⟨b1, b2⟩ := h2
  have e := Int.mul_ediv_add_emod ah b
  have m1 := Int.emod_nonneg ah (show b ≠ 0 by omega)
  have m2 := Int.emod_lt_of_pos ah hb
  have ev : val ah al = val (ah % b) al + b * (ah / b * 18446744073709551616) := by
    unfold val
    rw [← Int.mul_assoc]
    generalize b * (ah / b) = t at *
    omega
  have hq : val ah al / b = val (ah % b) al / b + ah / b * 18446744073709551616 := by
    rw [ev, Int.add_mul_ediv_left _ _ (by omega)]
  have hl : 0 ≤ val (ah % b) al / b := Int.ediv_nonneg (by unfold val; omega) (by omega)
  have hu : val (ah % b) al / b < 18446744073709551616 := Int.ediv_lt_of_lt_mul hb (by unfold val; omega)
  refine ⟨?_, ?_, ?_⟩
  · rw [hq]; unfold hiZ; generalize ah / b = t at *; omega
  · rw [hq]; unfold loZ; generalize ah / b = t at *; omega
  · rw [ev, Int.add_mul_emod_self_left]

theorem divShort_up (ah al b : Int) (h1 : Word ah) (h2 : Word al) (h3 : Word b) (hb : 0 < b) (w : World) :
    Calls Try.prog 69 #[.agg #[.int .u64 ah, .int .u64 al], .int .u64 b] w fun e w' =>
      e = .returned (.tuple #[.agg #[.int .u64 (hiZ (val ah al / b)), .int .u64 (loZ (val ah al / b))], .int .u64 (val ah al % b)]) ∧ Up w w' := by
  have HE := Lib.hid (short_eq ah al b h1 h2 hb)
  have g2 := h2; have g3 := h3
  obtain ⟨a1, a2⟩ := h1; obtain ⟨b1, b2⟩ := h2; obtain ⟨c1, c2⟩ := h3
  have q1 : 0 ≤ ah / b := Int.ediv_nonneg a1 c1
  have q2 : ah / b ≤ ah := Int.ediv_le_self _ a1
  have m1 : 0 ≤ ah % b := Int.emod_nonneg _ (by omega)
  have m2 : ah % b < b := Int.emod_lt_of_pos _ hb
  have t1 : (b == 0) = false := beq_eq_false_iff_ne.2 (by omega)
  go_enter Try.func69, Try.ntmps69
  go_wp2
  go_quiet (fail)
  go_wp2_with fail
  refine (div64_up (ah % b) al b ⟨m1, by omega⟩ g2 g3 m2 _).mono ?_
  rintro e w' ⟨rfl, n, rfl⟩
  go_wp2
  refine bodyPost_ret (v := .tuple #[.agg #[.int .u64 (ah / b), .int .u64 (val (ah % b) al / b)], .int .u64 (val (ah % b) al % b)]) (by simp [results, Try.results69, go_sem]) rfl ⟨?_, ?_⟩
  · obtain ⟨e1, e2, e3⟩ := HE.out
    rw [e1, e2, e3]
  · repeat (first | exact Up.refl _ | refine Up.alloc ?_ _ _ | refine Up.setCell ?_ (by first | (simp; done) | (simp; omega) | omega) _ | refine Up.drewN ?_ _ | refine Up.drew ?_)

end Go.Proofs.Ytafkoddgefcpnab
