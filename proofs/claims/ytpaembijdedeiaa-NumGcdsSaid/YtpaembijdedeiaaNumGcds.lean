/- Proved: for all int64 numbers a and b the law NumGcds returns true: num.Gcd answers as the reference does, and its answer is 0 or divides both. Conditions: none. -/
import Derived.Test.YtpaembijdedeiaaRows
import Derived.WalkKit
import Derived.ProofKit
import Derived.OpenShut
import Derived.Test.YtpaembijdedeiaaAwake
import Derived.Test.YtpaembijdedeiaaNumGcd
namespace Go.Proofs.Ytpaembijdedeiaa
open Go.ChangeShapes Go.WideShapes Go.ChangeAt Go.RowKit
set_option linter.unusedVariables false

theorem numGcds_own : ownKnob Try.prog.godebug = none := by kernel_rfl

theorem numGcds_walk (a0 : Int) (a1 : Int) (w0 : (Lit.int .i64 a0).wf = true) (w1 : (Lit.int .i64 a1).wf = true) (w : World) :
    Calls Try.prog 10 #[.int .i64 a0, .int .i64 a1] w fun e w' => e = .returned (.bool true) ∧ Grown w w' := by
  have h0 := in_of_wf w0
  have h1 := in_of_wf w1
  clear w0 w1
  by_cases hz : gcds a0 a1 = 0
  · have k1 : (gcds a0 a1 == 0) = true := beq_iff_eq.2 hz
    clear hz
    go_enter Try.func10, Try.ntmps10
    go_wp2_with fail
    refine (gcd_any a0 a1 h0 h1 _).mono ?_
    rintro e w' ⟨rfl, n1, rfl⟩
    go_wp2_with fail
    refine (rgcd_any a0 a1 h0 h1 _).mono ?_
    rintro e w' ⟨rfl, n2, rfl⟩
    go_wp2_with fail
    refine (awake_any _).mono ?_
    rintro e w' ⟨rfl, rfl⟩
    go_wp2
    go_ret
    exact ⟨rfl, grown_drewN (grown_drewN (Grown.refl _) n1) n2⟩
  · have p0 : 0 ≤ a0 := by
      by_cases h : a0 < 0
      · exact absurd (gcds_neg (Or.inl h)) hz
      · omega
    have p1 : 0 ≤ a1 := by
      by_cases h : a1 < 0
      · exact absurd (gcds_neg (Or.inr h)) hz
      · omega
    have k1 : (gcds a0 a1 == 0) = false := beq_eq_false_iff_ne.2 hz
    have k2 : (a0 % gcds a0 a1 == 0) = true := by
      rw [gcds_pos p0 p1]; exact beq_iff_eq.2 (Int.emod_eq_zero_of_dvd (gcdZ_dvd a0 a1 p0 p1).1)
    have k3 : (a1 % gcds a0 a1 == 0) = true := by
      rw [gcds_pos p0 p1]; exact beq_iff_eq.2 (Int.emod_eq_zero_of_dvd (gcdZ_dvd a0 a1 p0 p1).2)
    go_enter Try.func10, Try.ntmps10
    go_wp2_with fail
    refine (gcd_any a0 a1 h0 h1 _).mono ?_
    rintro e w' ⟨rfl, n1, rfl⟩
    go_wp2_with fail
    refine (rgcd_any a0 a1 h0 h1 _).mono ?_
    rintro e w' ⟨rfl, n2, rfl⟩
    go_wp2_with fail
    refine (awake_any _).mono ?_
    rintro e w' ⟨rfl, rfl⟩
    go_wp2
    go_ret
    exact ⟨rfl, grown_drewN (grown_drewN (Grown.refl _) n1) n2⟩

set_option maxRecDepth 100000 in
theorem numGcds_lifted (os : Os) (started : os.Started) (H : Type) (enc : TypeId × Value → H) :
    ReturnsInHanded {} Try.checked os 10 .any (Rows.numGcdsSpec.pre6 enc Try.prog Try.f10 Rows.numGcdsRow.domain false) (Rows.numGcdsSpec.post enc Try.prog Try.f10 false true false false) := by
  refine returnsInHanded_of_change (C := Try.checked) numGcds_own started (by kernel_rfl) Try.func10
    (ChangeSpec.witness6 (enc := enc) (C := Try.checked) false ⟨#[], #[.int .i64 0, .int .i64 0], []⟩ 8 (by kernel_rfl) (by kernel_rfl) (by kernel_rfl) (by kernel_rfl)) ?_
  intro W base args ds gs before hval0 hW hcnd _
  have hval : ∀ (j : Nat) t v, Try.f10.params[j]? = some t → args[j]? = some v → Value.okWide Try.prog W .any base t v := hval0
  have hW' := hW
  obtain ⟨p, q, hA0, hV, rfl, hfz, hnd⟩ := hW
  have hA : DataW.TrodAll enc Try.prog W 0 (fun _ => true) true Try.f10.params.toList args.toList ds p := hA0
  rw [Try.params10] at hA hval
  obtain ⟨v0, vs0, d0, ds0, p0, q0, hargs, rfl, rfl, h0, r0⟩ := trodAll_cons hA
  obtain ⟨v1, vs1, d1, ds1, p1, q1, rfl, rfl, rfl, h1, r1⟩ := trodAll_cons r0
  obtain ⟨rfl, rfl, rfl⟩ := trodAll_nil r1
  obtain rfl : args = #[v0, v1] := by cases args; simp_all
  obtain ⟨rfl, rfl⟩ := trodVars_none hV
  obtain ⟨a0, rfl, rfl, rfl, w0⟩ := open_int Try.underlying2 (hval 0 2 v0 rfl rfl) h0
  obtain ⟨a1, rfl, rfl, rfl, w1⟩ := open_int Try.underlying2 (hval 1 2 v1 rfl rfl) h1
  clear hA0 hval0
  simp only [List.append_nil] at hW'
  refine (numGcds_walk a0 a1 w0 w1 W).mono fun e W' ⟨he, hg⟩ => ?_
  subst he
  exact ⟨_, rfl, post_of_same (pa := []) (pv := []) hW' (fun _ _ _ => (trodAll_cons_mk (shut_bool Try.underlying4 _) trodAll_mk0)) (fun sp _ => (trodAll_cons_mk (shut_int Try.underlying2 w0) (trodAll_cons_mk (shut_int Try.underlying2 w1) trodAll_mk0))) (fun _ _ => rfl) rfl
    (hg.frame _) hg.2.1 (ok_one (by kernel_rfl) rfl (okWide_bool_mk Try.underlying4 _))⟩

theorem numGcds_over : Rows.numGcdsRow.holds Try.pinned (OpenSpec.ofChange Rows.numGcdsSpec) :=
  OpenClaim.holds_of_wide 10 Try.f10 rfl rfl rfl rfl rfl rfl rfl ⟨rfl, rfl, rfl, rfl, rfl⟩ rfl rfl rfl rfl rfl (by kernel_rfl) Try.func10 (by kernel_rfl)
    (of_decide_eq_true (by kernel_rfl)) (by unfold Func.isWrapper; first | (rw [if_pos (by decide +kernel)]; kernel_rfl) | (rw [if_neg (by decide +kernel)]; exact ⟨rfl, rfl⟩))
    (fun os started H enc _ => numGcds_lifted os started H enc)

theorem numGcds_holds : Rows.NumGcdsSaid :=
  numGcds_over
#print axioms numGcds_holds
end Go.Proofs.Ytpaembijdedeiaa
