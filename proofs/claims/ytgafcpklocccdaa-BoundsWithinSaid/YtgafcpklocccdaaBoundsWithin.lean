/- Proved: for every answer b, every int k and every rational number v the law BoundsWithin returns true: bounds.Within answers as the reference does. Conditions: none. -/
import Derived.Test.YtgafcpklocccdaaRows
import Derived.WalkKit
import Derived.ProofKit
import Derived.OpenShut
import Derived.Lib.SmallJoins
import Derived.Test.YtgafcpklocccdaaBFrame
import Derived.Test.YtgafcpklocccdaaBWhole
import Derived.Test.YtgafcpklocccdaaBRWithin
namespace Go.Proofs.Ytgafcpklocccdaa
open Go.ChangeShapes Go.WideShapes Go.ChangeAt Go.RowKit Go.Joins
set_option linter.unusedVariables false

theorem boundsWithin_own : ownKnob Try.prog.godebug = none := by kernel_rfl
theorem boundsWithin_cellsr : Try.prog.cellsOf 23 = 2 := by kernel_rfl

set_option maxHeartbeats 4000000 in
set_option maxRecDepth 100000 in
theorem boundsWithin_walk (n1 d1 n2 d2 n3 d3 k n d : Int) (wn1 : (Lit.int .i64 n1).wf = true) (wd1 : (Lit.int .i64 d1).wf = true) (wn2 : (Lit.int .i64 n2).wf = true) (wd2 : (Lit.int .i64 d2).wf = true) (wn3 : (Lit.int .i64 n3).wf = true) (wd3 : (Lit.int .i64 d3).wf = true) (wk : (Lit.int .i64 k).wf = true) (wn : (Lit.int .i64 n).wf = true) (wd : (Lit.int .i64 d).wf = true) (w : World) :
    Calls Try.prog 6 #[.agg #[.int .i64 n1, .int .i64 d1, .int .i64 n2, .int .i64 d2, .int .i64 n3, .int .i64 d3], .int .i64 k, .agg #[.int .i64 n, .int .i64 d]] w fun e w' => e = .returned (.bool true) ∧ Grown w w' := by
  have in1 := in_of_wf wn1
  have id1 := in_of_wf wd1
  have in2 := in_of_wf wn2
  have id2 := in_of_wf wd2
  have in3 := in_of_wf wn3
  have id3 := in_of_wf wd3
  have ik := in_of_wf wk
  have in_n := in_of_wf wn
  have id_d := in_of_wf wd
  clear wn1 wd1 wn2 wd2 wn3 wd3 wk wn wd
  have HI := Lib.hid (fun W => within_up n1 d1 n2 d2 n3 d3 k n d in1 id1 in2 id2 in3 id3 ik in_n id_d W)
  have HR := Lib.hid (fun W => rwithin_up n1 d1 n2 d2 n3 d3 k n d in1 id1 in2 id2 in3 id3 ik in_n id_d W)
  generalize wiB n1 d1 n2 d2 n3 d3 k n d = v at *
  clear in1 id1 in2 id2 in3 id3 ik in_n id_d
  go_enter Try.func6, Try.ntmps6
  go_wp2_with fail
  go_region_held3 (fun w' => Up w w' ∧ w'.cell? ⟨w.heap.size, 0, none⟩ = some (.int .i64 n1) ∧ w'.cell? ⟨w.heap.size, 1, none⟩ = some (.int .i64 d1) ∧ w'.cell? ⟨w.heap.size, 2, none⟩ = some (.int .i64 n2) ∧ w'.cell? ⟨w.heap.size, 3, none⟩ = some (.int .i64 d2) ∧ w'.cell? ⟨w.heap.size, 4, none⟩ = some (.int .i64 n3) ∧ w'.cell? ⟨w.heap.size, 5, none⟩ = some (.int .i64 d3) ∧ w'.cell? ⟨w.heap.size + 1, 0, none⟩ = some (.int .i64 n) ∧ w'.cell? ⟨w.heap.size + 1, 1, none⟩ = some (.int .i64 d))
    (first | (with_reducible exact keep8 (by assumption) (by assumption)) | (refine ⟨?_, by simp [go_sem, *], by simp [go_sem, *], by simp [go_sem, *], by simp [go_sem, *], by simp [go_sem, *], by simp [go_sem, *], by simp [go_sem, *], by simp [go_sem, *]⟩; ((repeat (first | (with_reducible exact Up.refl _) | (with_reducible refine Up.alloc ?_ _ _) | (with_reducible refine Up.setCell ?_ ?_ _) | (with_reducible refine Up.drewN ?_ _) | (with_reducible refine Up.drew ?_))); all_goals (first | (simp; done) | (simp; omega) | omega))))
    (first
      | (go_at_call 20; (with_reducible refine (HI.out _).mono ?_); rintro e w' ⟨rfl, hu⟩; have HU := Lib.hid hu; clear hu; (try unfold got2); (try unfold gotR))
      | (go_at_call 21; (with_reducible refine (HR.out _).mono ?_); rintro e w' ⟨rfl, hu⟩; have HU := Lib.hid hu; clear hu; (try unfold got2); (try unfold gotR))
      | (go_at_call 16; (with_reducible refine (awakeb_up _).mono ?_); rintro e w' ⟨rfl, hu⟩; have HU := Lib.hid hu; clear hu; (try unfold got2); (try unfold gotR)))
  all_goals
    go_wp2
    go_ret
    exact ⟨rfl, Up.grown (And.left (by assumption))⟩

set_option maxRecDepth 100000 in
theorem boundsWithin_lifted (os : Os) (started : os.Started) (H : Type) (enc : TypeId × Value → H) :
    ReturnsInHanded {} Try.checked os 6 .any (Rows.boundsWithinSpec.pre6 enc Try.prog Try.f6 Rows.boundsWithinRow.domain false) (Rows.boundsWithinSpec.post enc Try.prog Try.f6 false true false false) := by
  refine returnsInHanded_of_change (C := Try.checked) boundsWithin_own started (by kernel_rfl) Try.func6
    (ChangeSpec.witness6 (enc := enc) (C := Try.checked) false ⟨#[], #[.agg #[.int .i64 0, .int .i64 0, .int .i64 0, .int .i64 0, .int .i64 0, .int .i64 0], .int .i64 0, .agg #[.int .i64 0, .int .i64 0]], []⟩ 8 (by kernel_rfl) (by kernel_rfl) (by kernel_rfl) (by kernel_rfl)) ?_
  intro W base args ds gs before hval0 hW hcnd _
  have hval : ∀ (j : Nat) t v, Try.f6.params[j]? = some t → args[j]? = some v → Value.okWide Try.prog W .any base t v := hval0
  have hW' := hW
  obtain ⟨p, q, hA0, hV, rfl, hfz, hnd⟩ := hW
  have hA : DataW.TrodAll enc Try.prog W 0 (fun _ => true) true Try.f6.params.toList args.toList ds p := hA0
  rw [Try.params6] at hA hval
  obtain ⟨v0, vs0, d0, ds0, p0, q0, hargs, rfl, rfl, h0, r0⟩ := trodAll_cons hA
  obtain ⟨v1, vs1, d1, ds1, p1, q1, rfl, rfl, rfl, h1, r1⟩ := trodAll_cons r0
  obtain ⟨v2, vs2, d2, ds2, p2, q2, rfl, rfl, rfl, h2, r2⟩ := trodAll_cons r1
  obtain ⟨rfl, rfl, rfl⟩ := trodAll_nil r2
  obtain rfl : args = #[v0, v1, v2] := by cases args; simp_all
  obtain ⟨rfl, rfl⟩ := trodVars_none hV
  obtain ⟨a00, a01, a02, a03, a04, a05, rfl, rfl, rfl, k00, k01, k02, k03, k04, k05⟩ := open_bounds (hval 0 25 v0 rfl rfl) h0
  obtain ⟨a1, rfl, rfl, rfl, w1⟩ := open_int Try.underlying3 (hval 1 3 v1 rfl rfl) h1
  obtain ⟨ca2, cb2, ya2, yb2, m2, rfl, rfl, rfl, hya2, hyb2⟩ := open_agg2 Try.underlying23 (by kernel_rfl) boundsWithin_cellsr (hval 2 23 v2 rfl rfl) h2
  obtain ⟨a2, ea2, rfl, w2⟩ := DataW.trod_int Try.underlying2 hya2
  obtain ⟨b2, eb2, rfl, x2⟩ := DataW.trod_int Try.underlying2 hyb2
  simp at ea2 eb2
  subst ea2 eb2
  clear hA0 hval0
  simp only [List.append_nil] at hW'
  refine (boundsWithin_walk a00 a01 a02 a03 a04 a05 a1 a2 b2 k00 k01 k02 k03 k04 k05 w1 w2 x2 W).mono fun e W' ⟨he, hg⟩ => ?_
  subst he
  exact ⟨_, rfl, post_of_same (pa := []) (pv := []) hW' (fun _ _ _ => (trodAll_cons_mk (shut_bool Try.underlying4 _) trodAll_mk0)) (fun sp _ => (trodAll_cons_mk (shut_bounds k00 k01 k02 k03 k04 k05) (trodAll_cons_mk (shut_int Try.underlying3 w1) (trodAll_cons_mk (shut_agg2 (y0 := (.lit (.int .i64 a2), [])) (y1 := (.lit (.int .i64 b2), [])) Try.underlying23 (by kernel_rfl) boundsWithin_cellsr ⟨1, by simp [DataW.trod, Try.underlying2, w2]⟩ ⟨1, by simp [DataW.trod, Try.underlying2, x2]⟩) trodAll_mk0)))) (fun _ _ => rfl) rfl
    (hg.frame _) hg.2.1 (ok_one (by kernel_rfl) rfl (okWide_bool_mk Try.underlying4 _))⟩

theorem boundsWithin_over : Rows.boundsWithinRow.holds Try.pinned (OpenSpec.ofChange Rows.boundsWithinSpec) :=
  OpenClaim.holds_of_wide 6 Try.f6 rfl rfl rfl rfl rfl rfl rfl ⟨rfl, rfl, rfl, rfl, rfl⟩ rfl rfl rfl rfl rfl (by kernel_rfl) Try.func6 (by kernel_rfl)
    (of_decide_eq_true (by kernel_rfl)) (by unfold Func.isWrapper; first | (rw [if_pos (by decide +kernel)]; kernel_rfl) | (rw [if_neg (by decide +kernel)]; exact ⟨rfl, rfl⟩))
    (fun os started H enc _ => boundsWithin_lifted os started H enc)

theorem boundsWithin_holds : Rows.BoundsWithinSaid :=
  boundsWithin_over
#print axioms boundsWithin_holds
end Go.Proofs.Ytgafcpklocccdaa
