/- Proved: for all int64 numbers a and b the law NumRemains returns true: the quotient times the divisor plus the remainder is the dividend, with a remainder of the divisor's sign. Conditions: none. -/
import Derived.Test.YtpaembijdedeiaaRows
import Derived.WalkKit
import Derived.ProofKit
import Derived.OpenShut
import Derived.Test.YtpaembijdedeiaaAwake
namespace Go.Proofs.Ytpaembijdedeiaa
open Go.ChangeShapes Go.WideShapes Go.ChangeAt Go.RowKit
set_option linter.unusedVariables false

theorem numRemains_own : ownKnob Try.prog.godebug = none := by kernel_rfl

theorem remains_back (a b : Int) (ha : In a) : wrap64 (wrap64 (flo a b * b) + rest a b) = a := by
  obtain ⟨h1, h2⟩ := ha
  have h := flo_rest a b
  generalize flo a b * b = x at *
  unfold wrap64
  omega
theorem numRemains_walk (a0 : Int) (a1 : Int) (w0 : (Lit.int .i64 a0).wf = true) (w1 : (Lit.int .i64 a1).wf = true) (w : World) :
    Calls Try.prog 9 #[.int .i64 a0, .int .i64 a1] w fun e w' => e = .returned (.bool true) ∧ Grown w w' := by
  have h0 := in_of_wf w0
  have h1 := in_of_wf w1
  clear w0 w1
  by_cases hz : a1 = 0
  · have k1 : hasq a0 a1 = false := hasq_no (by omega)
    have k2 : hasr a1 = false := hasr_no hz
    have k3 : (flos a0 a1 == 0) = true := by rw [flos_no k1]; rfl
    have k4 : (rests a0 a1 == 0) = true := by rw [rests_no hz]; rfl
    have k5 : (a1 == 0) = true := beq_iff_eq.2 hz
    clear hz
    go_enter Try.func9, Try.ntmps9
    go_wp2_with fail
    refine (flo_any a0 a1 h0 h1 _).mono ?_
    rintro e w' ⟨rfl, rfl⟩
    go_wp2_with fail
    refine (mod_any a0 a1 h1 _).mono ?_
    rintro e w' ⟨rfl, rfl⟩
    go_wp2_with fail
    refine (awake_any _).mono ?_
    rintro e w' ⟨rfl, rfl⟩
    go_wp2
    go_ret
    exact ⟨rfl, Grown.refl _⟩
  have k2 : hasr a1 = true := hasr_yes hz
  have k5 : (a1 == 0) = false := beq_eq_false_iff_ne.2 hz
  by_cases hq : hasq a0 a1 = true
  · have k6 : (wrap64 (wrap64 (flos a0 a1 * a1) + rests a0 a1) == a0) = true := by
      rw [flos_yes hq, rests_yes hz, remains_back a0 a1 h0]; exact beq_self_eq_true a0
    by_cases hp : 0 < a1
    · obtain ⟨r1, r2⟩ := rest_pos a0 a1 hp
      rw [← rests_yes hz] at r1 r2
      clear hz
      go_enter Try.func9, Try.ntmps9
      go_wp2_with fail
      refine (flo_any a0 a1 h0 h1 _).mono ?_
      rintro e w' ⟨rfl, rfl⟩
      go_wp2_with fail
      refine (mod_any a0 a1 h1 _).mono ?_
      rintro e w' ⟨rfl, rfl⟩
      go_wp2_with fail
      refine (awake_any _).mono ?_
      rintro e w' ⟨rfl, rfl⟩
      go_wp2
      go_ret
      exact ⟨rfl, Grown.refl _⟩
    · have hn : a1 < 0 := by omega
      obtain ⟨r1, r2⟩ := rest_neg a0 a1 hn
      rw [← rests_yes hz] at r1 r2
      clear hz
      go_enter Try.func9, Try.ntmps9
      go_wp2_with fail
      refine (flo_any a0 a1 h0 h1 _).mono ?_
      rintro e w' ⟨rfl, rfl⟩
      go_wp2_with fail
      refine (mod_any a0 a1 h1 _).mono ?_
      rintro e w' ⟨rfl, rfl⟩
      go_wp2_with fail
      refine (awake_any _).mono ?_
      rintro e w' ⟨rfl, rfl⟩
      go_wp2
      go_ret
      exact ⟨rfl, Grown.refl _⟩
  · have k1 : hasq a0 a1 = false := by simpa using hq
    have hc : a0 = -9223372036854775808 ∧ a1 = -1 := by have := mt hasq_yes hq; omega
    have hn : a1 < 0 := by omega
    obtain ⟨r1, r2⟩ := rest_neg a0 a1 hn
    rw [← rests_yes hz] at r1 r2
    have k7 : (a0 == -9223372036854775808) = true := beq_iff_eq.2 hc.1
    have k8 : (a1 == -1) = true := beq_iff_eq.2 hc.2
    clear hz hq hc
    go_enter Try.func9, Try.ntmps9
    go_wp2_with fail
    refine (flo_any a0 a1 h0 h1 _).mono ?_
    rintro e w' ⟨rfl, rfl⟩
    go_wp2_with fail
    refine (mod_any a0 a1 h1 _).mono ?_
    rintro e w' ⟨rfl, rfl⟩
    go_wp2_with fail
    refine (awake_any _).mono ?_
    rintro e w' ⟨rfl, rfl⟩
    go_wp2
    go_ret
    exact ⟨rfl, Grown.refl _⟩

set_option maxRecDepth 100000 in
theorem numRemains_lifted (os : Os) (started : os.Started) (H : Type) (enc : TypeId × Value → H) :
    ReturnsInHanded {} Try.checked os 9 .any (Rows.numRemainsSpec.pre6 enc Try.prog Try.f9 Rows.numRemainsRow.domain false) (Rows.numRemainsSpec.post enc Try.prog Try.f9 false true false false) := by
  refine returnsInHanded_of_change (C := Try.checked) numRemains_own started (by kernel_rfl) Try.func9
    (ChangeSpec.witness6 (enc := enc) (C := Try.checked) false ⟨#[], #[.int .i64 0, .int .i64 0], []⟩ 8 (by kernel_rfl) (by kernel_rfl) (by kernel_rfl) (by kernel_rfl)) ?_
  intro W base args ds gs before hval0 hW hcnd _
  have hval : ∀ (j : Nat) t v, Try.f9.params[j]? = some t → args[j]? = some v → Value.okWide Try.prog W .any base t v := hval0
  have hW' := hW
  obtain ⟨p, q, hA0, hV, rfl, hfz, hnd⟩ := hW
  have hA : DataW.TrodAll enc Try.prog W 0 (fun _ => true) true Try.f9.params.toList args.toList ds p := hA0
  rw [Try.params9] at hA hval
  obtain ⟨v0, vs0, d0, ds0, p0, q0, hargs, rfl, rfl, h0, r0⟩ := trodAll_cons hA
  obtain ⟨v1, vs1, d1, ds1, p1, q1, rfl, rfl, rfl, h1, r1⟩ := trodAll_cons r0
  obtain ⟨rfl, rfl, rfl⟩ := trodAll_nil r1
  obtain rfl : args = #[v0, v1] := by cases args; simp_all
  obtain ⟨rfl, rfl⟩ := trodVars_none hV
  obtain ⟨a0, rfl, rfl, rfl, w0⟩ := open_int Try.underlying2 (hval 0 2 v0 rfl rfl) h0
  obtain ⟨a1, rfl, rfl, rfl, w1⟩ := open_int Try.underlying2 (hval 1 2 v1 rfl rfl) h1
  clear hA0 hval0
  simp only [List.append_nil] at hW'
  refine (numRemains_walk a0 a1 w0 w1 W).mono fun e W' ⟨he, hg⟩ => ?_
  subst he
  exact ⟨_, rfl, post_of_same (pa := []) (pv := []) hW' (fun _ _ _ => (trodAll_cons_mk (shut_bool Try.underlying4 _) trodAll_mk0)) (fun sp _ => (trodAll_cons_mk (shut_int Try.underlying2 w0) (trodAll_cons_mk (shut_int Try.underlying2 w1) trodAll_mk0))) (fun _ _ => rfl) rfl
    (hg.frame _) hg.2.1 (ok_one (by kernel_rfl) rfl (okWide_bool_mk Try.underlying4 _))⟩

theorem numRemains_over : Rows.numRemainsRow.holds Try.pinned (OpenSpec.ofChange Rows.numRemainsSpec) :=
  OpenClaim.holds_of_wide 9 Try.f9 rfl rfl rfl rfl rfl rfl rfl ⟨rfl, rfl, rfl, rfl, rfl⟩ rfl rfl rfl rfl rfl (by kernel_rfl) Try.func9 (by kernel_rfl)
    (of_decide_eq_true (by kernel_rfl)) (by unfold Func.isWrapper; first | (rw [if_pos (by decide +kernel)]; kernel_rfl) | (rw [if_neg (by decide +kernel)]; exact ⟨rfl, rfl⟩))
    (fun os started H enc _ => numRemains_lifted os started H enc)

theorem numRemains_holds : Rows.NumRemainsSaid :=
  numRemains_over
#print axioms numRemains_holds
end Go.Proofs.Ytpaembijdedeiaa
