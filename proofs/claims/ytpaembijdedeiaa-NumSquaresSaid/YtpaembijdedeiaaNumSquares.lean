/- Proved: for every int64 number n the law NumSquares returns true: num.Root gives the greatest number whose square is not greater than n, and 0 where n is negative. Conditions: none. -/
import Derived.Test.YtpaembijdedeiaaRows
import Derived.WalkKit
import Derived.ProofKit
import Derived.OpenShut
import Derived.Test.YtpaembijdedeiaaAwake
import Derived.Test.YtpaembijdedeiaaNumRoot
import Derived.Test.YtpaembijdedeiaaNumMul
namespace Go.Proofs.Ytpaembijdedeiaa
open Go.ChangeShapes Go.WideShapes Go.ChangeAt Go.RowKit
set_option linter.unusedVariables false

theorem numSquares_own : ownKnob Try.prog.godebug = none := by kernel_rfl

theorem numSquares_walk (a0 : Int) (w0 : (Lit.int .i64 a0).wf = true) (w : World) :
    Calls Try.prog 12 #[.int .i64 a0] w fun e w' => e = .returned (.bool true) ∧ Grown w w' := by
  have h0 := in_of_wf w0
  clear w0
  by_cases hneg : a0 < 0
  · have H := Lib.hid (rootZ_neg hneg)
    go_enter Try.func12, Try.ntmps12
    go_wp2_with fail
    refine (root_any a0 h0 _).mono ?_
    rintro e w' ⟨rfl, rfl⟩
    rw [H.out]
    go_wp2_with fail
    refine (awake_any _).mono ?_
    rintro e w' ⟨rfl, rfl⟩
    go_wp2
    go_ret
    exact ⟨rfl, Grown.refl _⟩
  · have n0 : 0 ≤ a0 := by omega
    obtain ⟨r, hr⟩ := root_is a0 n0
    have H := Lib.hid (rootZ_eq hr)
    obtain ⟨r0, r1, r2⟩ := hr
    obtain ⟨h1, h2⟩ := h0
    have r3 : r ≤ 3037000499 := by
      by_cases h : r ≤ 3037000499
      · exact h
      · have := root_far (n := a0) (t := r) h2 (by omega); omega
    have hi : In (r * r) := by have := Int.mul_nonneg r0 r0; exact ⟨by omega, by omega⟩
    have hir : In r := ⟨by omega, by omega⟩
    have hir1 : In (r + 1) := ⟨by omega, by omega⟩
    have k1 : fits (r * r) = true := fits_yes hi
    have k2 : decide (fit (r * r) ≤ a0) = true := decide_eq_true (by rw [fit_yes hi]; exact r1)
    have h0 : In a0 := ⟨h1, h2⟩
    by_cases hm : In ((r + 1) * (r + 1))
    · have k3 : fits ((r + 1) * (r + 1)) = true := fits_yes hm
      have k4 : decide (a0 < fit ((r + 1) * (r + 1))) = true := decide_eq_true (by rw [fit_yes hm]; exact r2)
      clear hm hi r1 r2
      go_enter Try.func12, Try.ntmps12
      go_wp2_with fail
      refine (root_any a0 h0 _).mono ?_
      rintro e w' ⟨rfl, rfl⟩
      rw [H.out]
      go_wp2_with fail
      refine (mul_any r r hir hir _).mono ?_
      rintro e w' ⟨rfl, rfl⟩
      go_wp2_with fail
      refine (mul_any (r + 1) (r + 1) hir1 hir1 _).mono ?_
      rintro e w' ⟨rfl, rfl⟩
      go_wp2_with fail
      refine (awake_any _).mono ?_
      rintro e w' ⟨rfl, rfl⟩
      go_wp2
      go_ret
      exact ⟨rfl, Grown.refl _⟩
    · have k3 : fits ((r + 1) * (r + 1)) = false := fits_no hm
      clear hm hi r1 r2
      go_enter Try.func12, Try.ntmps12
      go_wp2_with fail
      refine (root_any a0 h0 _).mono ?_
      rintro e w' ⟨rfl, rfl⟩
      rw [H.out]
      go_wp2_with fail
      refine (mul_any r r hir hir _).mono ?_
      rintro e w' ⟨rfl, rfl⟩
      go_wp2_with fail
      refine (mul_any (r + 1) (r + 1) hir1 hir1 _).mono ?_
      rintro e w' ⟨rfl, rfl⟩
      go_wp2_with fail
      refine (awake_any _).mono ?_
      rintro e w' ⟨rfl, rfl⟩
      go_wp2
      go_ret
      exact ⟨rfl, Grown.refl _⟩

set_option maxRecDepth 100000 in
theorem numSquares_lifted (os : Os) (started : os.Started) (H : Type) (enc : TypeId × Value → H) :
    ReturnsInHanded {} Try.checked os 12 .any (Rows.numSquaresSpec.pre6 enc Try.prog Try.f12 Rows.numSquaresRow.domain false) (Rows.numSquaresSpec.post enc Try.prog Try.f12 false true false false) := by
  refine returnsInHanded_of_change (C := Try.checked) numSquares_own started (by kernel_rfl) Try.func12
    (ChangeSpec.witness6 (enc := enc) (C := Try.checked) false ⟨#[], #[.int .i64 0], []⟩ 8 (by kernel_rfl) (by kernel_rfl) (by kernel_rfl) (by kernel_rfl)) ?_
  intro W base args ds gs before hval0 hW hcnd _
  have hval : ∀ (j : Nat) t v, Try.f12.params[j]? = some t → args[j]? = some v → Value.okWide Try.prog W .any base t v := hval0
  have hW' := hW
  obtain ⟨p, q, hA0, hV, rfl, hfz, hnd⟩ := hW
  have hA : DataW.TrodAll enc Try.prog W 0 (fun _ => true) true Try.f12.params.toList args.toList ds p := hA0
  rw [Try.params12] at hA hval
  obtain ⟨v0, vs0, d0, ds0, p0, q0, hargs, rfl, rfl, h0, r0⟩ := trodAll_cons hA
  obtain ⟨rfl, rfl, rfl⟩ := trodAll_nil r0
  obtain rfl : args = #[v0] := by cases args; simp_all
  obtain ⟨rfl, rfl⟩ := trodVars_none hV
  obtain ⟨a0, rfl, rfl, rfl, w0⟩ := open_int Try.underlying2 (hval 0 2 v0 rfl rfl) h0
  clear hA0 hval0
  simp only [List.append_nil] at hW'
  refine (numSquares_walk a0 w0 W).mono fun e W' ⟨he, hg⟩ => ?_
  subst he
  exact ⟨_, rfl, post_of_same (pa := []) (pv := []) hW' (fun _ _ _ => (trodAll_cons_mk (shut_bool Try.underlying4 _) trodAll_mk0)) (fun sp _ => (trodAll_cons_mk (shut_int Try.underlying2 w0) trodAll_mk0)) (fun _ _ => rfl) rfl
    (hg.frame _) hg.2.1 (ok_one (by kernel_rfl) rfl (okWide_bool_mk Try.underlying4 _))⟩

theorem numSquares_over : Rows.numSquaresRow.holds Try.pinned (OpenSpec.ofChange Rows.numSquaresSpec) :=
  OpenClaim.holds_of_wide 12 Try.f12 rfl rfl rfl rfl rfl rfl rfl ⟨rfl, rfl, rfl, rfl, rfl⟩ rfl rfl rfl rfl rfl (by kernel_rfl) Try.func12 (by kernel_rfl)
    (of_decide_eq_true (by kernel_rfl)) (by unfold Func.isWrapper; first | (rw [if_pos (by decide +kernel)]; kernel_rfl) | (rw [if_neg (by decide +kernel)]; exact ⟨rfl, rfl⟩))
    (fun os started H enc _ => numSquares_lifted os started H enc)

theorem numSquares_holds : Rows.NumSquaresSaid :=
  numSquares_over
#print axioms numSquares_holds
end Go.Proofs.Ytpaembijdedeiaa
