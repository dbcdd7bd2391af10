/- Proved: for every answer b and rational number v the law BoundsHolds returns true: bounds.Holds answers as the reference does. Conditions: none. -/
import Derived.Test.YtgafcpklocccdaaRows
import Derived.WalkKit
import Derived.ProofKit
import Derived.OpenShut
import Derived.Lib.SmallJoins
import Derived.Test.YtgafcpklocccdaaBFrame
import Derived.Test.YtgafcpklocccdaaBWhole
import Derived.Deep.RegionHeld3
import Derived.Test.YtgafcpklocccdaaBHolds
namespace Go.Proofs.Ytgafcpklocccdaa
open Go.ChangeShapes Go.WideShapes Go.ChangeAt Go.RowKit Go.Joins
set_option linter.unusedVariables false

theorem boundsHolds_own : ownKnob Try.prog.godebug = none := by kernel_rfl
theorem boundsHolds_cellsr : Try.prog.cellsOf 23 = 2 := by kernel_rfl

set_option maxHeartbeats 4000000 in
set_option maxRecDepth 100000 in
theorem boundsHolds_walk (n1 d1 n2 d2 n3 d3 n d : Int) (wn1 : (Lit.int .i64 n1).wf = true) (wd1 : (Lit.int .i64 d1).wf = true) (wn2 : (Lit.int .i64 n2).wf = true) (wd2 : (Lit.int .i64 d2).wf = true) (wn3 : (Lit.int .i64 n3).wf = true) (wd3 : (Lit.int .i64 d3).wf = true) (wn : (Lit.int .i64 n).wf = true) (wd : (Lit.int .i64 d).wf = true) (w : World) :
    Calls Try.prog 5 #[.agg #[.int .i64 n1, .int .i64 d1, .int .i64 n2, .int .i64 d2, .int .i64 n3, .int .i64 d3], .agg #[.int .i64 n, .int .i64 d]] w fun e w' => e = .returned (.bool true) ∧ Grown w w' := by
  have in1 := in_of_wf wn1
  have id1 := in_of_wf wd1
  have in2 := in_of_wf wn2
  have id2 := in_of_wf wd2
  have in3 := in_of_wf wn3
  have id3 := in_of_wf wd3
  have in_n := in_of_wf wn
  have id_d := in_of_wf wd
  clear wn1 wd1 wn2 wd2 wn3 wd3 wn wd
  have HI := Lib.hid (fun W => bholds_up n1 d1 n2 d2 n3 d3 n d in1 id1 in2 id2 in3 id3 in_n id_d W)
  have HR := Lib.hid (fun W => rbholds_up n1 d1 n2 d2 n3 d3 n d in1 id1 in2 id2 in3 id3 in_n id_d W)
  generalize hoB n1 d1 n2 d2 n3 d3 n d = v at *
  clear in1 id1 in2 id2 in3 id3 in_n id_d
  go_enter Try.func5, Try.ntmps5
  go_wp2_with fail
  go_region_held3 (fun w' => Up w w' ∧ w'.cell? ⟨w.heap.size, 0, none⟩ = some (.int .i64 n1) ∧ w'.cell? ⟨w.heap.size, 1, none⟩ = some (.int .i64 d1) ∧ w'.cell? ⟨w.heap.size, 2, none⟩ = some (.int .i64 n2) ∧ w'.cell? ⟨w.heap.size, 3, none⟩ = some (.int .i64 d2) ∧ w'.cell? ⟨w.heap.size, 4, none⟩ = some (.int .i64 n3) ∧ w'.cell? ⟨w.heap.size, 5, none⟩ = some (.int .i64 d3) ∧ w'.cell? ⟨w.heap.size + 1, 0, none⟩ = some (.int .i64 n) ∧ w'.cell? ⟨w.heap.size + 1, 1, none⟩ = some (.int .i64 d))
    (first | (with_reducible exact keep8 (by assumption) (by assumption)) | (refine ⟨?_, by simp [go_sem, *], by simp [go_sem, *], by simp [go_sem, *], by simp [go_sem, *], by simp [go_sem, *], by simp [go_sem, *], by simp [go_sem, *], by simp [go_sem, *]⟩; ((repeat (first | (with_reducible exact Up.refl _) | (with_reducible refine Up.alloc ?_ _ _) | (with_reducible refine Up.setCell ?_ ?_ _) | (with_reducible refine Up.drewN ?_ _) | (with_reducible refine Up.drew ?_))); all_goals (first | (simp; done) | (simp; omega) | omega))))
    (first
      | (go_at_call 18; (with_reducible refine (HI.out _).mono ?_); rintro e w' ⟨rfl, hu⟩; have HU := Lib.hid hu; clear hu; (try unfold got2); (try unfold gotR))
      | (go_at_call 19; (with_reducible refine (HR.out _).mono ?_); rintro e w' ⟨rfl, hu⟩; have HU := Lib.hid hu; clear hu; (try unfold got2); (try unfold gotR))
      | (go_at_call 16; (with_reducible refine (awakeb_up _).mono ?_); rintro e w' ⟨rfl, hu⟩; have HU := Lib.hid hu; clear hu; (try unfold got2); (try unfold gotR)))
  all_goals
    go_wp2
    go_ret
    exact ⟨rfl, Up.grown (And.left (by assumption))⟩

set_option maxRecDepth 100000 in
theorem boundsHolds_lifted (os : Os) (started : os.Started) (H : Type) (enc : TypeId × Value → H) :
    ReturnsInHanded {} Try.checked os 5 .any (Rows.boundsHoldsSpec.pre6 enc Try.prog Try.f5 Rows.boundsHoldsRow.domain false) (Rows.boundsHoldsSpec.post enc Try.prog Try.f5 false true false false) := by
  refine returnsInHanded_of_change (C := Try.checked) boundsHolds_own started (by kernel_rfl) Try.func5
    (ChangeSpec.witness6 (enc := enc) (C := Try.checked) false ⟨#[], #[.agg #[.int .i64 0, .int .i64 0, .int .i64 0, .int .i64 0, .int .i64 0, .int .i64 0], .agg #[.int .i64 0, .int .i64 0]], []⟩ 8 (by kernel_rfl) (by kernel_rfl) (by kernel_rfl) (by kernel_rfl)) ?_
  intro W base args ds gs before hval0 hW hcnd _
  have hval : ∀ (j : Nat) t v, Try.f5.params[j]? = some t → args[j]? = some v → Value.okWide Try.prog W .any base t v := hval0
  have hW' := hW
  obtain ⟨p, q, hA0, hV, rfl, hfz, hnd⟩ := hW
  have hA : DataW.TrodAll enc Try.prog W 0 (fun _ => true) true Try.f5.params.toList args.toList ds p := hA0
  rw [Try.params5] at hA hval
  obtain ⟨v0, vs0, d0, ds0, p0, q0, hargs, rfl, rfl, h0, r0⟩ := trodAll_cons hA
  obtain ⟨v1, vs1, d1, ds1, p1, q1, rfl, rfl, rfl, h1, r1⟩ := trodAll_cons r0
  obtain ⟨rfl, rfl, rfl⟩ := trodAll_nil r1
  obtain rfl : args = #[v0, v1] := by cases args; simp_all
  obtain ⟨rfl, rfl⟩ := trodVars_none hV
  obtain ⟨a00, a01, a02, a03, a04, a05, rfl, rfl, rfl, k00, k01, k02, k03, k04, k05⟩ := open_bounds (hval 0 25 v0 rfl rfl) h0
  obtain ⟨ca1, cb1, ya1, yb1, m1, rfl, rfl, rfl, hya1, hyb1⟩ := open_agg2 Try.underlying23 (by kernel_rfl) boundsHolds_cellsr (hval 1 23 v1 rfl rfl) h1
  obtain ⟨a1, ea1, rfl, w1⟩ := DataW.trod_int Try.underlying2 hya1
  obtain ⟨b1, eb1, rfl, x1⟩ := DataW.trod_int Try.underlying2 hyb1
  simp at ea1 eb1
  subst ea1 eb1
  clear hA0 hval0
  simp only [List.append_nil] at hW'
  refine (boundsHolds_walk a00 a01 a02 a03 a04 a05 a1 b1 k00 k01 k02 k03 k04 k05 w1 x1 W).mono fun e W' ⟨he, hg⟩ => ?_
  subst he
  exact ⟨_, rfl, post_of_same (pa := []) (pv := []) hW' (fun _ _ _ => (trodAll_cons_mk (shut_bool Try.underlying4 _) trodAll_mk0)) (fun sp _ => (trodAll_cons_mk (shut_bounds k00 k01 k02 k03 k04 k05) (trodAll_cons_mk (shut_agg2 (y0 := (.lit (.int .i64 a1), [])) (y1 := (.lit (.int .i64 b1), [])) Try.underlying23 (by kernel_rfl) boundsHolds_cellsr ⟨1, by simp [DataW.trod, Try.underlying2, w1]⟩ ⟨1, by simp [DataW.trod, Try.underlying2, x1]⟩) trodAll_mk0))) (fun _ _ => rfl) rfl
    (hg.frame _) hg.2.1 (ok_one (by kernel_rfl) rfl (okWide_bool_mk Try.underlying4 _))⟩

theorem boundsHolds_over : Rows.boundsHoldsRow.holds Try.pinned (OpenSpec.ofChange Rows.boundsHoldsSpec) :=
  OpenClaim.holds_of_wide 5 Try.f5 rfl rfl rfl rfl rfl rfl rfl ⟨rfl, rfl, rfl, rfl, rfl⟩ rfl rfl rfl rfl rfl (by kernel_rfl) Try.func5 (by kernel_rfl)
    (of_decide_eq_true (by kernel_rfl)) (by unfold Func.isWrapper; first | (rw [if_pos (by decide +kernel)]; kernel_rfl) | (rw [if_neg (by decide +kernel)]; exact ⟨rfl, rfl⟩))
    (fun os started H enc _ => boundsHolds_lifted os started H enc)

theorem boundsHolds_holds : Rows.BoundsHoldsSaid :=
  boundsHolds_over
#print axioms boundsHolds_holds
end Go.Proofs.Ytgafcpklocccdaa
