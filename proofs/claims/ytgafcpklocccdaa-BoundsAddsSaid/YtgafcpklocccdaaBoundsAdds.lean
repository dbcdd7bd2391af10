/- Proved: for all answers a and b the law BoundsAdds returns true: bounds.Add answers as the reference does. Conditions: none. -/
import Derived.Test.YtgafcpklocccdaaRows
import Derived.WalkKit
import Derived.ProofKit
import Derived.OpenShut
import Derived.Lib.SmallJoins
import Derived.Test.YtgafcpklocccdaaBFrame
import Derived.Test.YtgafcpklocccdaaBWhole
import Derived.Test.YtgafcpklocccdaaBRAdd
namespace Go.Proofs.Ytgafcpklocccdaa
open Go.ChangeShapes Go.WideShapes Go.ChangeAt Go.RowKit Go.Joins
set_option linter.unusedVariables false

theorem boundsAdds_own : ownKnob Try.prog.godebug = none := by kernel_rfl

set_option maxHeartbeats 4000000 in
set_option maxRecDepth 100000 in
theorem boundsAdds_walk (n1 d1 n2 d2 n3 d3 m1 c1 m2 c2 m3 c3 : Int) (wn1 : (Lit.int .i64 n1).wf = true) (wd1 : (Lit.int .i64 d1).wf = true) (wn2 : (Lit.int .i64 n2).wf = true) (wd2 : (Lit.int .i64 d2).wf = true) (wn3 : (Lit.int .i64 n3).wf = true) (wd3 : (Lit.int .i64 d3).wf = true) (wm1 : (Lit.int .i64 m1).wf = true) (wc1 : (Lit.int .i64 c1).wf = true) (wm2 : (Lit.int .i64 m2).wf = true) (wc2 : (Lit.int .i64 c2).wf = true) (wm3 : (Lit.int .i64 m3).wf = true) (wc3 : (Lit.int .i64 c3).wf = true) (w : World) :
    Calls Try.prog 8 #[.agg #[.int .i64 n1, .int .i64 d1, .int .i64 n2, .int .i64 d2, .int .i64 n3, .int .i64 d3], .agg #[.int .i64 m1, .int .i64 c1, .int .i64 m2, .int .i64 c2, .int .i64 m3, .int .i64 c3]] w fun e w' => e = .returned (.bool true) ∧ Grown w w' := by
  have in1 := in_of_wf wn1
  have id1 := in_of_wf wd1
  have in2 := in_of_wf wn2
  have id2 := in_of_wf wd2
  have in3 := in_of_wf wn3
  have id3 := in_of_wf wd3
  have im1 := in_of_wf wm1
  have ic1 := in_of_wf wc1
  have im2 := in_of_wf wm2
  have ic2 := in_of_wf wc2
  have im3 := in_of_wf wm3
  have ic3 := in_of_wf wc3
  clear wn1 wd1 wn2 wd2 wn3 wd3 wm1 wc1 wm2 wc2 wm3 wc3
  have H1 := Lib.hid (fun W => badd_up n1 d1 n2 d2 n3 d3 m1 c1 m2 c2 m3 c3 in1 id1 in2 id2 in3 id3 im1 ic1 im2 ic2 im3 ic3 W)
  have H2 := Lib.hid (fun W => rbadd_up n1 d1 n2 d2 n3 d3 m1 c1 m2 c2 m3 c3 in1 id1 in2 id2 in3 id3 im1 ic1 im2 ic2 im3 ic3 W)
  generalize oz (aB n1 d1 n2 d2 n3 d3 m1 c1 m2 c2 m3 c3) (sN n1 d1 m1 c1) = X1 at *
  generalize oz (aB n1 d1 n2 d2 n3 d3 m1 c1 m2 c2 m3 c3) (sD n1 d1 m1 c1) = X2 at *
  generalize oz (aB n1 d1 n2 d2 n3 d3 m1 c1 m2 c2 m3 c3) (sN n2 d2 m2 c2) = X3 at *
  generalize oz (aB n1 d1 n2 d2 n3 d3 m1 c1 m2 c2 m3 c3) (sD n2 d2 m2 c2) = X4 at *
  generalize oz (aB n1 d1 n2 d2 n3 d3 m1 c1 m2 c2 m3 c3) (sN n3 d3 m3 c3) = X5 at *
  generalize oz (aB n1 d1 n2 d2 n3 d3 m1 c1 m2 c2 m3 c3) (sD n3 d3 m3 c3) = X6 at *
  generalize aB n1 d1 n2 d2 n3 d3 m1 c1 m2 c2 m3 c3 = r at *
  clear in1 id1 in2 id2 in3 id3 im1 ic1 im2 ic2 im3 ic3
  go_enter Try.func8, Try.ntmps8
  go_wp2_with fail
  refine (H1.out _).mono ?_
  rintro e w1 ⟨rfl, hu1⟩
  try unfold got2
  have c1_0 := hu1.keep (w.heap.size) (0) (.int .i64 n1) (by simp [go_sem, *])
  have c1_1 := hu1.keep (w.heap.size) (1) (.int .i64 d1) (by simp [go_sem, *])
  have c1_2 := hu1.keep (w.heap.size) (2) (.int .i64 n2) (by simp [go_sem, *])
  have c1_3 := hu1.keep (w.heap.size) (3) (.int .i64 d2) (by simp [go_sem, *])
  have c1_4 := hu1.keep (w.heap.size) (4) (.int .i64 n3) (by simp [go_sem, *])
  have c1_5 := hu1.keep (w.heap.size) (5) (.int .i64 d3) (by simp [go_sem, *])
  have c1_6 := hu1.keep (w.heap.size + 1) (0) (.int .i64 m1) (by simp [go_sem, *])
  have c1_7 := hu1.keep (w.heap.size + 1) (1) (.int .i64 c1) (by simp [go_sem, *])
  have c1_8 := hu1.keep (w.heap.size + 1) (2) (.int .i64 m2) (by simp [go_sem, *])
  have c1_9 := hu1.keep (w.heap.size + 1) (3) (.int .i64 c2) (by simp [go_sem, *])
  have c1_10 := hu1.keep (w.heap.size + 1) (4) (.int .i64 m3) (by simp [go_sem, *])
  have c1_11 := hu1.keep (w.heap.size + 1) (5) (.int .i64 c3) (by simp [go_sem, *])
  have l1_0 : w.heap.size < w1.heap.size := World.block_lt_of_cell? _ _ c1_0
  have m1_0 : w.heap.size < w1.heap.size + 1 := by omega
  have n1_0 : w.heap.size < w1.heap.size + 1 + 1 := by omega
  have x1_0 : ¬ w1.heap.size = w.heap.size := by omega
  have y1_0 : ¬ w1.heap.size + 1 = w.heap.size := by omega
  have l1_1 : w.heap.size + 1 < w1.heap.size := World.block_lt_of_cell? _ _ c1_6
  have m1_1 : w.heap.size + 1 < w1.heap.size + 1 := by omega
  have n1_1 : w.heap.size + 1 < w1.heap.size + 1 + 1 := by omega
  have x1_1 : ¬ w1.heap.size = w.heap.size + 1 := by omega
  have y1_1 : ¬ w1.heap.size + 1 = w.heap.size + 1 := by omega
  have HU1 : Hid (Up w w1) := Lib.hid (by ((repeat (first | (with_reducible exact Up.refl _) | (with_reducible refine Up.trans ?_ hu1) | (with_reducible refine Up.alloc ?_ _ _) | (with_reducible refine Up.setCell ?_ ?_ _) | (with_reducible refine Up.drewN ?_ _) | (with_reducible refine Up.drew ?_))); all_goals (first | (simp; done) | (simp; omega) | omega)))
  clear hu1
  unfold gotB
  go_wp2_with fail
  refine (H2.out _).mono ?_
  rintro e w2 ⟨rfl, hu2⟩
  try unfold got2
  have c2_0 := hu2.keep (w.heap.size) (0) (.int .i64 n1) (by simp [go_sem, *])
  have c2_1 := hu2.keep (w.heap.size) (1) (.int .i64 d1) (by simp [go_sem, *])
  have c2_2 := hu2.keep (w.heap.size) (2) (.int .i64 n2) (by simp [go_sem, *])
  have c2_3 := hu2.keep (w.heap.size) (3) (.int .i64 d2) (by simp [go_sem, *])
  have c2_4 := hu2.keep (w.heap.size) (4) (.int .i64 n3) (by simp [go_sem, *])
  have c2_5 := hu2.keep (w.heap.size) (5) (.int .i64 d3) (by simp [go_sem, *])
  have c2_6 := hu2.keep (w.heap.size + 1) (0) (.int .i64 m1) (by simp [go_sem, *])
  have c2_7 := hu2.keep (w.heap.size + 1) (1) (.int .i64 c1) (by simp [go_sem, *])
  have c2_8 := hu2.keep (w.heap.size + 1) (2) (.int .i64 m2) (by simp [go_sem, *])
  have c2_9 := hu2.keep (w.heap.size + 1) (3) (.int .i64 c2) (by simp [go_sem, *])
  have c2_10 := hu2.keep (w.heap.size + 1) (4) (.int .i64 m3) (by simp [go_sem, *])
  have c2_11 := hu2.keep (w.heap.size + 1) (5) (.int .i64 c3) (by simp [go_sem, *])
  have c2_12 := hu2.keep (w1.heap.size) (0) (.int .i64 X1) (by simp [go_sem, *])
  have c2_13 := hu2.keep (w1.heap.size) (1) (.int .i64 X2) (by simp [go_sem, *])
  have c2_14 := hu2.keep (w1.heap.size) (2) (.int .i64 X3) (by simp [go_sem, *])
  have c2_15 := hu2.keep (w1.heap.size) (3) (.int .i64 X4) (by simp [go_sem, *])
  have c2_16 := hu2.keep (w1.heap.size) (4) (.int .i64 X5) (by simp [go_sem, *])
  have c2_17 := hu2.keep (w1.heap.size) (5) (.int .i64 X6) (by simp [go_sem, *])
  have l2_0 : w.heap.size < w2.heap.size := World.block_lt_of_cell? _ _ c2_0
  have m2_0 : w.heap.size < w2.heap.size + 1 := by omega
  have n2_0 : w.heap.size < w2.heap.size + 1 + 1 := by omega
  have x2_0 : ¬ w2.heap.size = w.heap.size := by omega
  have y2_0 : ¬ w2.heap.size + 1 = w.heap.size := by omega
  have l2_1 : w.heap.size + 1 < w2.heap.size := World.block_lt_of_cell? _ _ c2_6
  have m2_1 : w.heap.size + 1 < w2.heap.size + 1 := by omega
  have n2_1 : w.heap.size + 1 < w2.heap.size + 1 + 1 := by omega
  have x2_1 : ¬ w2.heap.size = w.heap.size + 1 := by omega
  have y2_1 : ¬ w2.heap.size + 1 = w.heap.size + 1 := by omega
  have l2_2 : w1.heap.size < w2.heap.size := World.block_lt_of_cell? _ _ c2_12
  have m2_2 : w1.heap.size < w2.heap.size + 1 := by omega
  have n2_2 : w1.heap.size < w2.heap.size + 1 + 1 := by omega
  have x2_2 : ¬ w2.heap.size = w1.heap.size := by omega
  have y2_2 : ¬ w2.heap.size + 1 = w1.heap.size := by omega
  have HU2 : Hid (Up w w2) := Lib.hid (by ((repeat (first | (with_reducible exact Up.refl _) | (with_reducible exact HU1.out) | (with_reducible refine Up.trans ?_ hu2) | (with_reducible refine Up.alloc ?_ _ _) | (with_reducible refine Up.setCell ?_ ?_ _) | (with_reducible refine Up.drewN ?_ _) | (with_reducible refine Up.drew ?_))); all_goals (first | (simp; done) | (simp; omega) | omega)))
  clear hu2 c1_0 c1_1 c1_2 c1_3 c1_4 c1_5 c1_6 c1_7 c1_8 c1_9 c1_10 c1_11
  unfold gotB
  go_wp2_with fail
  refine (awakeb_up _).mono ?_
  rintro e w5 ⟨rfl, hu5⟩
  go_wp2
  go_ret
  refine ⟨rfl, Up.grown ?_⟩
  ((repeat (first | (with_reducible exact Up.refl _) | (with_reducible exact HU2.out) | (with_reducible refine Up.trans ?_ hu5) | (with_reducible refine Up.alloc ?_ _ _) | (with_reducible refine Up.setCell ?_ ?_ _) | (with_reducible refine Up.drewN ?_ _) | (with_reducible refine Up.drew ?_))); all_goals (first | (simp; done) | (simp; omega) | omega))

set_option maxRecDepth 100000 in
theorem boundsAdds_lifted (os : Os) (started : os.Started) (H : Type) (enc : TypeId × Value → H) :
    ReturnsInHanded {} Try.checked os 8 .any (Rows.boundsAddsSpec.pre6 enc Try.prog Try.f8 Rows.boundsAddsRow.domain false) (Rows.boundsAddsSpec.post enc Try.prog Try.f8 false true false false) := by
  refine returnsInHanded_of_change (C := Try.checked) boundsAdds_own started (by kernel_rfl) Try.func8
    (ChangeSpec.witness6 (enc := enc) (C := Try.checked) false ⟨#[], #[.agg #[.int .i64 0, .int .i64 0, .int .i64 0, .int .i64 0, .int .i64 0, .int .i64 0], .agg #[.int .i64 0, .int .i64 0, .int .i64 0, .int .i64 0, .int .i64 0, .int .i64 0]], []⟩ 8 (by kernel_rfl) (by kernel_rfl) (by kernel_rfl) (by kernel_rfl)) ?_
  intro W base args ds gs before hval0 hW hcnd _
  have hval : ∀ (j : Nat) t v, Try.f8.params[j]? = some t → args[j]? = some v → Value.okWide Try.prog W .any base t v := hval0
  have hW' := hW
  obtain ⟨p, q, hA0, hV, rfl, hfz, hnd⟩ := hW
  have hA : DataW.TrodAll enc Try.prog W 0 (fun _ => true) true Try.f8.params.toList args.toList ds p := hA0
  rw [Try.params8] at hA hval
  obtain ⟨v0, vs0, d0, ds0, p0, q0, hargs, rfl, rfl, h0, r0⟩ := trodAll_cons hA
  obtain ⟨v1, vs1, d1, ds1, p1, q1, rfl, rfl, rfl, h1, r1⟩ := trodAll_cons r0
  obtain ⟨rfl, rfl, rfl⟩ := trodAll_nil r1
  obtain rfl : args = #[v0, v1] := by cases args; simp_all
  obtain ⟨rfl, rfl⟩ := trodVars_none hV
  obtain ⟨a00, a01, a02, a03, a04, a05, rfl, rfl, rfl, k00, k01, k02, k03, k04, k05⟩ := open_bounds (hval 0 25 v0 rfl rfl) h0
  obtain ⟨a10, a11, a12, a13, a14, a15, rfl, rfl, rfl, k10, k11, k12, k13, k14, k15⟩ := open_bounds (hval 1 25 v1 rfl rfl) h1
  clear hA0 hval0
  simp only [List.append_nil] at hW'
  refine (boundsAdds_walk a00 a01 a02 a03 a04 a05 a10 a11 a12 a13 a14 a15 k00 k01 k02 k03 k04 k05 k10 k11 k12 k13 k14 k15 W).mono fun e W' ⟨he, hg⟩ => ?_
  subst he
  exact ⟨_, rfl, post_of_same (pa := []) (pv := []) hW' (fun _ _ _ => (trodAll_cons_mk (shut_bool Try.underlying4 _) trodAll_mk0)) (fun sp _ => (trodAll_cons_mk (shut_bounds k00 k01 k02 k03 k04 k05) (trodAll_cons_mk (shut_bounds k10 k11 k12 k13 k14 k15) trodAll_mk0))) (fun _ _ => rfl) rfl
    (hg.frame _) hg.2.1 (ok_one (by kernel_rfl) rfl (okWide_bool_mk Try.underlying4 _))⟩

theorem boundsAdds_over : Rows.boundsAddsRow.holds Try.pinned (OpenSpec.ofChange Rows.boundsAddsSpec) :=
  OpenClaim.holds_of_wide 8 Try.f8 rfl rfl rfl rfl rfl rfl rfl ⟨rfl, rfl, rfl, rfl, rfl⟩ rfl rfl rfl rfl rfl (by kernel_rfl) Try.func8 (by kernel_rfl)
    (of_decide_eq_true (by kernel_rfl)) (by unfold Func.isWrapper; first | (rw [if_pos (by decide +kernel)]; kernel_rfl) | (rw [if_neg (by decide +kernel)]; exact ⟨rfl, rfl⟩))
    (fun os started H enc _ => boundsAdds_lifted os started H enc)

theorem boundsAdds_holds : Rows.BoundsAddsSaid :=
  boundsAdds_over
#print axioms boundsAdds_holds
end Go.Proofs.Ytgafcpklocccdaa
