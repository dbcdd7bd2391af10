/- Proved: for every answer b the law BoundsValid returns true: bounds.Valid answers as the reference does. Conditions: none. -/
import Derived.Test.YtgafcpklocccdaaRows
import Derived.WalkKit
import Derived.ProofKit
import Derived.OpenShut
import Derived.Lib.SmallJoins
import Derived.Test.YtgafcpklocccdaaBFrame
import Derived.Test.YtgafcpklocccdaaBWhole
import Derived.Deep.RegionHeld3
namespace Go.Proofs.Ytgafcpklocccdaa
open Go.ChangeShapes Go.WideShapes Go.ChangeAt Go.RowKit Go.Joins
set_option linter.unusedVariables false

theorem boundsValid_own : ownKnob Try.prog.godebug = none := by kernel_rfl

set_option maxHeartbeats 4000000 in
set_option maxRecDepth 100000 in
theorem boundsValid_walk (n1 d1 n2 d2 n3 d3 : Int) (wn1 : (Lit.int .i64 n1).wf = true) (wd1 : (Lit.int .i64 d1).wf = true) (wn2 : (Lit.int .i64 n2).wf = true) (wd2 : (Lit.int .i64 d2).wf = true) (wn3 : (Lit.int .i64 n3).wf = true) (wd3 : (Lit.int .i64 d3).wf = true) (w : World) :
    Calls Try.prog 4 #[.agg #[.int .i64 n1, .int .i64 d1, .int .i64 n2, .int .i64 d2, .int .i64 n3, .int .i64 d3]] w fun e w' => e = .returned (.bool true) ∧ Grown w w' := by
  have in1 := in_of_wf wn1
  have id1 := in_of_wf wd1
  have in2 := in_of_wf wn2
  have id2 := in_of_wf wd2
  have in3 := in_of_wf wn3
  have id3 := in_of_wf wd3
  clear wn1 wd1 wn2 wd2 wn3 wd3
  have HI := Lib.hid (fun W => bvalid_up n1 d1 n2 d2 n3 d3 in1 id1 in2 id2 in3 id3 W)
  have HR := Lib.hid (fun W => rbvalid_up n1 d1 n2 d2 n3 d3 in1 id1 in2 id2 in3 id3 W)
  generalize bvB n1 d1 n2 d2 n3 d3 = v at *
  clear in1 id1 in2 id2 in3 id3
  go_enter Try.func4, Try.ntmps4
  go_wp2_with fail
  go_region_held3 (fun w' => Up w w' ∧ w'.cell? ⟨w.heap.size, 0, none⟩ = some (.int .i64 n1) ∧ w'.cell? ⟨w.heap.size, 1, none⟩ = some (.int .i64 d1) ∧ w'.cell? ⟨w.heap.size, 2, none⟩ = some (.int .i64 n2) ∧ w'.cell? ⟨w.heap.size, 3, none⟩ = some (.int .i64 d2) ∧ w'.cell? ⟨w.heap.size, 4, none⟩ = some (.int .i64 n3) ∧ w'.cell? ⟨w.heap.size, 5, none⟩ = some (.int .i64 d3))
    (first | (with_reducible exact keep6 (by assumption) (by assumption)) | (refine ⟨?_, by simp [go_sem, *], by simp [go_sem, *], by simp [go_sem, *], by simp [go_sem, *], by simp [go_sem, *], by simp [go_sem, *]⟩; ((repeat (first | (with_reducible exact Up.refl _) | (with_reducible refine Up.alloc ?_ _ _) | (with_reducible refine Up.setCell ?_ ?_ _) | (with_reducible refine Up.drewN ?_ _) | (with_reducible refine Up.drew ?_))); all_goals (first | (simp; done) | (simp; omega) | omega))))
    (first
      | (go_at_call 15; (with_reducible refine (HI.out _).mono ?_); rintro e w' ⟨rfl, hu⟩; have HU := Lib.hid hu; clear hu; (try unfold got2); (try unfold gotR))
      | (go_at_call 17; (with_reducible refine (HR.out _).mono ?_); rintro e w' ⟨rfl, hu⟩; have HU := Lib.hid hu; clear hu; (try unfold got2); (try unfold gotR))
      | (go_at_call 16; (with_reducible refine (awakeb_up _).mono ?_); rintro e w' ⟨rfl, hu⟩; have HU := Lib.hid hu; clear hu; (try unfold got2); (try unfold gotR)))
  all_goals
    go_wp2
    go_ret
    exact ⟨rfl, Up.grown (And.left (by assumption))⟩

set_option maxRecDepth 100000 in
theorem boundsValid_lifted (os : Os) (started : os.Started) (H : Type) (enc : TypeId × Value → H) :
    ReturnsInHanded {} Try.checked os 4 .any (Rows.boundsValidSpec.pre6 enc Try.prog Try.f4 Rows.boundsValidRow.domain false) (Rows.boundsValidSpec.post enc Try.prog Try.f4 false true false false) := by
  refine returnsInHanded_of_change (C := Try.checked) boundsValid_own started (by kernel_rfl) Try.func4
    (ChangeSpec.witness6 (enc := enc) (C := Try.checked) false ⟨#[], #[.agg #[.int .i64 0, .int .i64 0, .int .i64 0, .int .i64 0, .int .i64 0, .int .i64 0]], []⟩ 8 (by kernel_rfl) (by kernel_rfl) (by kernel_rfl) (by kernel_rfl)) ?_
  intro W base args ds gs before hval0 hW hcnd _
  have hval : ∀ (j : Nat) t v, Try.f4.params[j]? = some t → args[j]? = some v → Value.okWide Try.prog W .any base t v := hval0
  have hW' := hW
  obtain ⟨p, q, hA0, hV, rfl, hfz, hnd⟩ := hW
  have hA : DataW.TrodAll enc Try.prog W 0 (fun _ => true) true Try.f4.params.toList args.toList ds p := hA0
  rw [Try.params4] at hA hval
  obtain ⟨v0, vs0, d0, ds0, p0, q0, hargs, rfl, rfl, h0, r0⟩ := trodAll_cons hA
  obtain ⟨rfl, rfl, rfl⟩ := trodAll_nil r0
  obtain rfl : args = #[v0] := by cases args; simp_all
  obtain ⟨rfl, rfl⟩ := trodVars_none hV
  obtain ⟨a00, a01, a02, a03, a04, a05, rfl, rfl, rfl, k00, k01, k02, k03, k04, k05⟩ := open_bounds (hval 0 25 v0 rfl rfl) h0
  clear hA0 hval0
  simp only [List.append_nil] at hW'
  refine (boundsValid_walk a00 a01 a02 a03 a04 a05 k00 k01 k02 k03 k04 k05 W).mono fun e W' ⟨he, hg⟩ => ?_
  subst he
  exact ⟨_, rfl, post_of_same (pa := []) (pv := []) hW' (fun _ _ _ => (trodAll_cons_mk (shut_bool Try.underlying4 _) trodAll_mk0)) (fun sp _ => (trodAll_cons_mk (shut_bounds k00 k01 k02 k03 k04 k05) trodAll_mk0)) (fun _ _ => rfl) rfl
    (hg.frame _) hg.2.1 (ok_one (by kernel_rfl) rfl (okWide_bool_mk Try.underlying4 _))⟩

theorem boundsValid_over : Rows.boundsValidRow.holds Try.pinned (OpenSpec.ofChange Rows.boundsValidSpec) :=
  OpenClaim.holds_of_wide 4 Try.f4 rfl rfl rfl rfl rfl rfl rfl ⟨rfl, rfl, rfl, rfl, rfl⟩ rfl rfl rfl rfl rfl (by kernel_rfl) Try.func4 (by kernel_rfl)
    (of_decide_eq_true (by kernel_rfl)) (by unfold Func.isWrapper; first | (rw [if_pos (by decide +kernel)]; kernel_rfl) | (rw [if_neg (by decide +kernel)]; exact ⟨rfl, rfl⟩))
    (fun os started H enc _ => boundsValid_lifted os started H enc)

theorem boundsValid_holds : Rows.BoundsValidSaid :=
  boundsValid_over
#print axioms boundsValid_holds
end Go.Proofs.Ytgafcpklocccdaa
