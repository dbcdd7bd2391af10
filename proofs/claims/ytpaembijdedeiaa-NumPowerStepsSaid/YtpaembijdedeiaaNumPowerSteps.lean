/- Proved: for every int64 number a and every int n the law NumPowerSteps returns true: a power is the product of the power before it and the base. Conditions: none. -/
import Derived.Test.YtpaembijdedeiaaRows
import Derived.WalkKit
import Derived.ProofKit
import Derived.OpenShut
import Derived.Test.YtpaembijdedeiaaAwake
import Derived.Test.YtpaembijdedeiaaNumPow
namespace Go.Proofs.Ytpaembijdedeiaa
open Go.ChangeShapes Go.WideShapes Go.ChangeAt Go.RowKit
set_option linter.unusedVariables false

theorem numPowerSteps_own : ownKnob Try.prog.godebug = none := by kernel_rfl

theorem and63 (n : Int) : bits .and .i64 n 63 = n % 64 := by
  have h63 : (BitVec.ofInt 64 63).toNat = 2 ^ 6 - 1 := by decide
  have key : (BitVec.ofInt 64 n &&& BitVec.ofInt 64 63).toNat = (n % ((2 ^ 64 : Nat) : Int)).toNat % 2 ^ 6 := by
    rw [BitVec.toNat_and, BitVec.toNat_ofInt, h63, Nat.and_two_pow_sub_one_eq_mod]
  show IntKind.i64.wrap ((BitVec.ofInt 64 n &&& BitVec.ofInt 64 63).toNat : Nat) = n % 64
  rw [key, IntKind.wrap_i64]
  omega
/-- Where the greater power fits, the smaller one does, but for the base 0, 1 and -1, where all do. -/
theorem pow_before {a : Int} {m : Nat} (h : In (a ^ (m + 1))) : In (a ^ m) := by
  by_cases hs : -1 ≤ a ∧ a ≤ 1
  · exact pow_small_in a hs.1 hs.2 m
  · by_cases hi : In (a ^ m)
    · exact hi
    · exact absurd h (pow_far (by omega) (by omega) hi)
theorem numPowerSteps_walk (a0 : Int) (a1 : Int) (w0 : (Lit.int .i64 a0).wf = true) (w1 : (Lit.int .i64 a1).wf = true) (w : World) :
    Calls Try.prog 7 #[.int .i64 a0, .int .i64 a1] w fun e w' => e = .returned (.bool true) ∧ Grown w w' := by
  have h0 := in_of_wf w0
  clear w0 w1
  obtain ⟨m, hm⟩ : ∃ m : Nat, a1 % 64 = (m : Int) := Int.eq_ofNat_of_zero_le (by omega)
  have m2 : m < 64 := by omega
  have hb : bits .and .i64 a1 63 = (m : Int) := (and63 a1).trans hm
  clear hm
  have K1 := Lib.hid (show pows a0 ((m : Int) + 1) = fit (a0 ^ (m + 1)) from (pows_nat a0 (m + 1)).1)
  have K2 := Lib.hid (show powOk a0 ((m : Int) + 1) = fits (a0 ^ (m + 1)) from (pows_nat a0 (m + 1)).2)
  have K3 := Lib.hid (pows_nat a0 m).1
  have K4 := Lib.hid (pows_nat a0 m).2
  by_cases hi : In (a0 ^ (m + 1))
  · have hj := pow_before hi
    obtain ⟨P, hP⟩ : ∃ P, P = a0 ^ m := ⟨_, rfl⟩
    have hQ : a0 ^ (m + 1) = P * a0 := by rw [Int.pow_succ, hP]
    rw [hQ] at hi
    rw [← hP] at hj
    have E1 := Lib.hid (show pows a0 ((m : Int) + 1) = P * a0 by rw [K1.out, hQ, fit_yes hi])
    have E2 := Lib.hid (show powOk a0 ((m : Int) + 1) = true by rw [K2.out, hQ, fits_yes hi])
    have E3 := Lib.hid (show pows a0 (m : Int) = P by rw [K3.out, ← hP, fit_yes hj])
    have E4 := Lib.hid (show powOk a0 (m : Int) = true by rw [K4.out, ← hP, fits_yes hj])
    have E5 := Lib.hid (fit_yes hi)
    have E6 := Lib.hid (fits_yes hi)
    clear K1 K2 K3 K4 hQ hi hP
    go_enter Try.func7, Try.ntmps7
    go_wp2_with fail
    refine (pow_any a0 ((m : Int) + 1) h0 ⟨by omega, by omega⟩ _).mono ?_
    rintro e w' ⟨rfl, rfl⟩
    rw [E1.out, E2.out]
    go_wp2_with fail
    refine (pow_any a0 (m : Int) h0 ⟨by omega, by omega⟩ _).mono ?_
    rintro e w' ⟨rfl, rfl⟩
    rw [E3.out, E4.out]
    go_wp2_with fail
    refine (mul_any P a0 hj h0 _).mono ?_
    rintro e w' ⟨rfl, rfl⟩
    rw [E5.out, E6.out]
    go_wp2_with fail
    refine (awake_any _).mono ?_
    rintro e w' ⟨rfl, rfl⟩
    go_wp2
    go_ret
    exact ⟨rfl, Grown.refl _⟩
  · have E1 := Lib.hid (show pows a0 ((m : Int) + 1) = 0 by rw [K1.out, fit_no hi])
    have E2 := Lib.hid (show powOk a0 ((m : Int) + 1) = false by rw [K2.out, fits_no hi])
    clear K1 K2 K3 K4 hi
    go_enter Try.func7, Try.ntmps7
    go_wp2_with fail
    refine (pow_any a0 ((m : Int) + 1) h0 ⟨by omega, by omega⟩ _).mono ?_
    rintro e w' ⟨rfl, rfl⟩
    rw [E1.out, E2.out]
    go_wp2_with fail
    refine (pow_any a0 (m : Int) h0 ⟨by omega, by omega⟩ _).mono ?_
    rintro e w' ⟨rfl, rfl⟩
    go_wp2_with fail
    refine (awake_any _).mono ?_
    rintro e w' ⟨rfl, rfl⟩
    go_wp2
    go_ret
    exact ⟨rfl, Grown.refl _⟩

set_option maxRecDepth 100000 in
theorem numPowerSteps_lifted (os : Os) (started : os.Started) (H : Type) (enc : TypeId × Value → H) :
    ReturnsInHanded {} Try.checked os 7 .any (Rows.numPowerStepsSpec.pre6 enc Try.prog Try.f7 Rows.numPowerStepsRow.domain false) (Rows.numPowerStepsSpec.post enc Try.prog Try.f7 false true false false) := by
  refine returnsInHanded_of_change (C := Try.checked) numPowerSteps_own started (by kernel_rfl) Try.func7
    (ChangeSpec.witness6 (enc := enc) (C := Try.checked) false ⟨#[], #[.int .i64 0, .int .i64 0], []⟩ 8 (by kernel_rfl) (by kernel_rfl) (by kernel_rfl) (by kernel_rfl)) ?_
  intro W base args ds gs before hval0 hW hcnd _
  have hval : ∀ (j : Nat) t v, Try.f7.params[j]? = some t → args[j]? = some v → Value.okWide Try.prog W .any base t v := hval0
  have hW' := hW
  obtain ⟨p, q, hA0, hV, rfl, hfz, hnd⟩ := hW
  have hA : DataW.TrodAll enc Try.prog W 0 (fun _ => true) true Try.f7.params.toList args.toList ds p := hA0
  rw [Try.params7] at hA hval
  obtain ⟨v0, vs0, d0, ds0, p0, q0, hargs, rfl, rfl, h0, r0⟩ := trodAll_cons hA
  obtain ⟨v1, vs1, d1, ds1, p1, q1, rfl, rfl, rfl, h1, r1⟩ := trodAll_cons r0
  obtain ⟨rfl, rfl, rfl⟩ := trodAll_nil r1
  obtain rfl : args = #[v0, v1] := by cases args; simp_all
  obtain ⟨rfl, rfl⟩ := trodVars_none hV
  obtain ⟨a0, rfl, rfl, rfl, w0⟩ := open_int Try.underlying2 (hval 0 2 v0 rfl rfl) h0
  obtain ⟨a1, rfl, rfl, rfl, w1⟩ := open_int Try.underlying3 (hval 1 3 v1 rfl rfl) h1
  clear hA0 hval0
  simp only [List.append_nil] at hW'
  refine (numPowerSteps_walk a0 a1 w0 w1 W).mono fun e W' ⟨he, hg⟩ => ?_
  subst he
  exact ⟨_, rfl, post_of_same (pa := []) (pv := []) hW' (fun _ _ _ => (trodAll_cons_mk (shut_bool Try.underlying4 _) trodAll_mk0)) (fun sp _ => (trodAll_cons_mk (shut_int Try.underlying2 w0) (trodAll_cons_mk (shut_int Try.underlying3 w1) trodAll_mk0))) (fun _ _ => rfl) rfl
    (hg.frame _) hg.2.1 (ok_one (by kernel_rfl) rfl (okWide_bool_mk Try.underlying4 _))⟩

theorem numPowerSteps_over : Rows.numPowerStepsRow.holds Try.pinned (OpenSpec.ofChange Rows.numPowerStepsSpec) :=
  OpenClaim.holds_of_wide 7 Try.f7 rfl rfl rfl rfl rfl rfl rfl ⟨rfl, rfl, rfl, rfl, rfl⟩ rfl rfl rfl rfl rfl (by kernel_rfl) Try.func7 (by kernel_rfl)
    (of_decide_eq_true (by kernel_rfl)) (by unfold Func.isWrapper; first | (rw [if_pos (by decide +kernel)]; kernel_rfl) | (rw [if_neg (by decide +kernel)]; exact ⟨rfl, rfl⟩))
    (fun os started H enc _ => numPowerSteps_lifted os started H enc)

theorem numPowerSteps_holds : Rows.NumPowerStepsSaid :=
  numPowerSteps_over
#print axioms numPowerSteps_holds
end Go.Proofs.Ytpaembijdedeiaa
