/- Proved: for all rational numbers a and b the law RatioAdds returns true: ratio.Add and ratio.Sub answer as the reference does. Conditions: none. -/
import Derived.Test.YtgkoccnnafilnaaRows
import Derived.WalkKit
import Derived.ProofKit
import Derived.OpenShut
import Derived.Lib.SmallJoins
import Derived.Test.YtgkoccnnafilnaaRRSum
import Derived.Deep.RegionHeld3
namespace Go.Proofs.Ytgkoccnnafilnaa
open Go.ChangeShapes Go.WideShapes Go.ChangeAt Go.RowKit Go.Joins
set_option linter.unusedVariables false

theorem ratioAdds_own : ownKnob Try.prog.godebug = none := by kernel_rfl
theorem ratioAdds_cellsr : Try.prog.cellsOf 23 = 2 := by kernel_rfl

set_option maxHeartbeats 4000000 in
set_option maxRecDepth 100000 in
theorem ratioAdds_walk (n d m c : Int) (w0 : (Lit.int .i64 n).wf = true) (w1 : (Lit.int .i64 d).wf = true) (w2 : (Lit.int .i64 m).wf = true) (w3 : (Lit.int .i64 c).wf = true) (w : World) :
    Calls Try.prog 6 #[.agg #[.int .i64 n, .int .i64 d], .agg #[.int .i64 m, .int .i64 c]] w fun e w' => e = .returned (.bool true) ∧ Grown w w' := by
  have h0 := in_of_wf w0
  have h1 := in_of_wf w1
  have h2 := in_of_wf w2
  have h3 := in_of_wf w3
  clear w0 w1 w2 w3
  have H1 := Lib.hid (fun W => addr_up n d m c h0 h1 h2 h3 W)
  have H2 := Lib.hid (fun W => rsum_up n d m c false h0 h1 h2 h3 W)
  have H3 := Lib.hid (fun W => subr_up n d m c h0 h1 h2 h3 W)
  have H4 := Lib.hid (fun W => rsum_up n d m c true h0 h1 h2 h3 W)
  rw [sz_false] at H2
  rw [sz_true, ← Int.sub_eq_add_neg] at H4
  generalize vN (validB n d && validB m c) (n * c + m * d) (d * c) = N1 at *
  generalize vD (validB n d && validB m c) (n * c + m * d) (d * c) = D1 at *
  generalize vB (validB n d && validB m c) (n * c + m * d) (d * c) = B1 at *
  generalize vN (validB n d && validB m c) (n * c - m * d) (d * c) = N2 at *
  generalize vD (validB n d && validB m c) (n * c - m * d) (d * c) = D2 at *
  generalize vB (validB n d && validB m c) (n * c - m * d) (d * c) = B2 at *
  clear h0 h1 h2 h3
  go_enter Try.func6, Try.ntmps6
  go_wp2_with fail
  refine (H1.out _).mono ?_
  rintro e w1 ⟨rfl, hu1⟩
  try unfold got2
  have c1_0 := hu1.keep (w.heap.size) (0) (.int .i64 n) (by simp [go_sem, *])
  have c1_1 := hu1.keep (w.heap.size) (1) (.int .i64 d) (by simp [go_sem, *])
  have c1_2 := hu1.keep (w.heap.size + 1) (0) (.int .i64 m) (by simp [go_sem, *])
  have c1_3 := hu1.keep (w.heap.size + 1) (1) (.int .i64 c) (by simp [go_sem, *])
  have l1_0 : w.heap.size < w1.heap.size := World.block_lt_of_cell? _ _ c1_0
  have m1_0 : w.heap.size < w1.heap.size + 1 := by omega
  have n1_0 : w.heap.size < w1.heap.size + 1 + 1 := by omega
  have x1_0 : ¬ w1.heap.size = w.heap.size := by omega
  have y1_0 : ¬ w1.heap.size + 1 = w.heap.size := by omega
  have l1_1 : w.heap.size + 1 < w1.heap.size := World.block_lt_of_cell? _ _ c1_2
  have m1_1 : w.heap.size + 1 < w1.heap.size + 1 := by omega
  have n1_1 : w.heap.size + 1 < w1.heap.size + 1 + 1 := by omega
  have x1_1 : ¬ w1.heap.size = w.heap.size + 1 := by omega
  have y1_1 : ¬ w1.heap.size + 1 = w.heap.size + 1 := by omega
  have HU1 : Hid (Up w w1) := Lib.hid (by ((repeat (first | (with_reducible exact Up.refl _) | (with_reducible refine Up.trans ?_ hu1) | (with_reducible refine Up.alloc ?_ _ _) | (with_reducible refine Up.setCell ?_ ?_ _) | (with_reducible refine Up.drewN ?_ _) | (with_reducible refine Up.drew ?_))); all_goals (first | (simp; done) | (simp; omega) | omega)))
  clear hu1
  unfold gotR
  go_wp2_with fail
  refine (H2.out _).mono ?_
  rintro e w2 ⟨rfl, hu2⟩
  try unfold got2
  have c2_0 := hu2.keep (w.heap.size) (0) (.int .i64 n) (by simp [go_sem, *])
  have c2_1 := hu2.keep (w.heap.size) (1) (.int .i64 d) (by simp [go_sem, *])
  have c2_2 := hu2.keep (w.heap.size + 1) (0) (.int .i64 m) (by simp [go_sem, *])
  have c2_3 := hu2.keep (w.heap.size + 1) (1) (.int .i64 c) (by simp [go_sem, *])
  have c2_4 := hu2.keep (w1.heap.size) (0) (.int .i64 N1) (by simp [go_sem, *])
  have c2_5 := hu2.keep (w1.heap.size) (1) (.int .i64 D1) (by simp [go_sem, *])
  have l2_0 : w.heap.size < w2.heap.size := World.block_lt_of_cell? _ _ c2_0
  have m2_0 : w.heap.size < w2.heap.size + 1 := by omega
  have n2_0 : w.heap.size < w2.heap.size + 1 + 1 := by omega
  have x2_0 : ¬ w2.heap.size = w.heap.size := by omega
  have y2_0 : ¬ w2.heap.size + 1 = w.heap.size := by omega
  have l2_1 : w.heap.size + 1 < w2.heap.size := World.block_lt_of_cell? _ _ c2_2
  have m2_1 : w.heap.size + 1 < w2.heap.size + 1 := by omega
  have n2_1 : w.heap.size + 1 < w2.heap.size + 1 + 1 := by omega
  have x2_1 : ¬ w2.heap.size = w.heap.size + 1 := by omega
  have y2_1 : ¬ w2.heap.size + 1 = w.heap.size + 1 := by omega
  have l2_2 : w1.heap.size < w2.heap.size := World.block_lt_of_cell? _ _ c2_4
  have m2_2 : w1.heap.size < w2.heap.size + 1 := by omega
  have n2_2 : w1.heap.size < w2.heap.size + 1 + 1 := by omega
  have x2_2 : ¬ w2.heap.size = w1.heap.size := by omega
  have y2_2 : ¬ w2.heap.size + 1 = w1.heap.size := by omega
  have HU2 : Hid (Up w w2) := Lib.hid (by ((repeat (first | (with_reducible exact Up.refl _) | (with_reducible exact HU1.out) | (with_reducible refine Up.trans ?_ hu2) | (with_reducible refine Up.alloc ?_ _ _) | (with_reducible refine Up.setCell ?_ ?_ _) | (with_reducible refine Up.drewN ?_ _) | (with_reducible refine Up.drew ?_))); all_goals (first | (simp; done) | (simp; omega) | omega)))
  clear hu2 c1_0 c1_1 c1_2 c1_3
  unfold gotR
  go_wp2_with fail
  refine (H3.out _).mono ?_
  rintro e w3 ⟨rfl, hu3⟩
  try unfold got2
  have c3_0 := hu3.keep (w.heap.size) (0) (.int .i64 n) (by simp [go_sem, *])
  have c3_1 := hu3.keep (w.heap.size) (1) (.int .i64 d) (by simp [go_sem, *])
  have c3_2 := hu3.keep (w.heap.size + 1) (0) (.int .i64 m) (by simp [go_sem, *])
  have c3_3 := hu3.keep (w.heap.size + 1) (1) (.int .i64 c) (by simp [go_sem, *])
  have c3_4 := hu3.keep (w1.heap.size) (0) (.int .i64 N1) (by simp [go_sem, *])
  have c3_5 := hu3.keep (w1.heap.size) (1) (.int .i64 D1) (by simp [go_sem, *])
  have c3_6 := hu3.keep (w2.heap.size) (0) (.int .i64 N1) (by simp [go_sem, *])
  have c3_7 := hu3.keep (w2.heap.size) (1) (.int .i64 D1) (by simp [go_sem, *])
  have l3_0 : w.heap.size < w3.heap.size := World.block_lt_of_cell? _ _ c3_0
  have m3_0 : w.heap.size < w3.heap.size + 1 := by omega
  have n3_0 : w.heap.size < w3.heap.size + 1 + 1 := by omega
  have x3_0 : ¬ w3.heap.size = w.heap.size := by omega
  have y3_0 : ¬ w3.heap.size + 1 = w.heap.size := by omega
  have l3_1 : w.heap.size + 1 < w3.heap.size := World.block_lt_of_cell? _ _ c3_2
  have m3_1 : w.heap.size + 1 < w3.heap.size + 1 := by omega
  have n3_1 : w.heap.size + 1 < w3.heap.size + 1 + 1 := by omega
  have x3_1 : ¬ w3.heap.size = w.heap.size + 1 := by omega
  have y3_1 : ¬ w3.heap.size + 1 = w.heap.size + 1 := by omega
  have l3_2 : w1.heap.size < w3.heap.size := World.block_lt_of_cell? _ _ c3_4
  have m3_2 : w1.heap.size < w3.heap.size + 1 := by omega
  have n3_2 : w1.heap.size < w3.heap.size + 1 + 1 := by omega
  have x3_2 : ¬ w3.heap.size = w1.heap.size := by omega
  have y3_2 : ¬ w3.heap.size + 1 = w1.heap.size := by omega
  have l3_3 : w2.heap.size < w3.heap.size := World.block_lt_of_cell? _ _ c3_6
  have m3_3 : w2.heap.size < w3.heap.size + 1 := by omega
  have n3_3 : w2.heap.size < w3.heap.size + 1 + 1 := by omega
  have x3_3 : ¬ w3.heap.size = w2.heap.size := by omega
  have y3_3 : ¬ w3.heap.size + 1 = w2.heap.size := by omega
  have HU3 : Hid (Up w w3) := Lib.hid (by ((repeat (first | (with_reducible exact Up.refl _) | (with_reducible exact HU2.out) | (with_reducible refine Up.trans ?_ hu3) | (with_reducible refine Up.alloc ?_ _ _) | (with_reducible refine Up.setCell ?_ ?_ _) | (with_reducible refine Up.drewN ?_ _) | (with_reducible refine Up.drew ?_))); all_goals (first | (simp; done) | (simp; omega) | omega)))
  clear hu3 c2_0 c2_1 c2_2 c2_3 c2_4 c2_5
  unfold gotR
  go_wp2_with fail
  refine (H4.out _).mono ?_
  rintro e w4 ⟨rfl, hu4⟩
  try unfold got2
  have c4_0 := hu4.keep (w.heap.size) (0) (.int .i64 n) (by simp [go_sem, *])
  have c4_1 := hu4.keep (w.heap.size) (1) (.int .i64 d) (by simp [go_sem, *])
  have c4_2 := hu4.keep (w.heap.size + 1) (0) (.int .i64 m) (by simp [go_sem, *])
  have c4_3 := hu4.keep (w.heap.size + 1) (1) (.int .i64 c) (by simp [go_sem, *])
  have c4_4 := hu4.keep (w1.heap.size) (0) (.int .i64 N1) (by simp [go_sem, *])
  have c4_5 := hu4.keep (w1.heap.size) (1) (.int .i64 D1) (by simp [go_sem, *])
  have c4_6 := hu4.keep (w2.heap.size) (0) (.int .i64 N1) (by simp [go_sem, *])
  have c4_7 := hu4.keep (w2.heap.size) (1) (.int .i64 D1) (by simp [go_sem, *])
  have c4_8 := hu4.keep (w3.heap.size) (0) (.int .i64 N2) (by simp [go_sem, *])
  have c4_9 := hu4.keep (w3.heap.size) (1) (.int .i64 D2) (by simp [go_sem, *])
  have l4_0 : w.heap.size < w4.heap.size := World.block_lt_of_cell? _ _ c4_0
  have m4_0 : w.heap.size < w4.heap.size + 1 := by omega
  have n4_0 : w.heap.size < w4.heap.size + 1 + 1 := by omega
  have x4_0 : ¬ w4.heap.size = w.heap.size := by omega
  have y4_0 : ¬ w4.heap.size + 1 = w.heap.size := by omega
  have l4_1 : w.heap.size + 1 < w4.heap.size := World.block_lt_of_cell? _ _ c4_2
  have m4_1 : w.heap.size + 1 < w4.heap.size + 1 := by omega
  have n4_1 : w.heap.size + 1 < w4.heap.size + 1 + 1 := by omega
  have x4_1 : ¬ w4.heap.size = w.heap.size + 1 := by omega
  have y4_1 : ¬ w4.heap.size + 1 = w.heap.size + 1 := by omega
  have l4_2 : w1.heap.size < w4.heap.size := World.block_lt_of_cell? _ _ c4_4
  have m4_2 : w1.heap.size < w4.heap.size + 1 := by omega
  have n4_2 : w1.heap.size < w4.heap.size + 1 + 1 := by omega
  have x4_2 : ¬ w4.heap.size = w1.heap.size := by omega
  have y4_2 : ¬ w4.heap.size + 1 = w1.heap.size := by omega
  have l4_3 : w2.heap.size < w4.heap.size := World.block_lt_of_cell? _ _ c4_6
  have m4_3 : w2.heap.size < w4.heap.size + 1 := by omega
  have n4_3 : w2.heap.size < w4.heap.size + 1 + 1 := by omega
  have x4_3 : ¬ w4.heap.size = w2.heap.size := by omega
  have y4_3 : ¬ w4.heap.size + 1 = w2.heap.size := by omega
  have l4_4 : w3.heap.size < w4.heap.size := World.block_lt_of_cell? _ _ c4_8
  have m4_4 : w3.heap.size < w4.heap.size + 1 := by omega
  have n4_4 : w3.heap.size < w4.heap.size + 1 + 1 := by omega
  have x4_4 : ¬ w4.heap.size = w3.heap.size := by omega
  have y4_4 : ¬ w4.heap.size + 1 = w3.heap.size := by omega
  have HU4 : Hid (Up w w4) := Lib.hid (by ((repeat (first | (with_reducible exact Up.refl _) | (with_reducible exact HU3.out) | (with_reducible refine Up.trans ?_ hu4) | (with_reducible refine Up.alloc ?_ _ _) | (with_reducible refine Up.setCell ?_ ?_ _) | (with_reducible refine Up.drewN ?_ _) | (with_reducible refine Up.drew ?_))); all_goals (first | (simp; done) | (simp; omega) | omega)))
  clear hu4 c3_0 c3_1 c3_2 c3_3 c3_4 c3_5 c3_6 c3_7
  unfold gotR
  go_wp2_with fail
  refine (awaker_up _).mono ?_
  rintro e w5 ⟨rfl, hu5⟩
  go_wp2
  go_ret
  refine ⟨rfl, Up.grown ?_⟩
  ((repeat (first | (with_reducible exact Up.refl _) | (with_reducible exact HU4.out) | (with_reducible refine Up.trans ?_ hu5) | (with_reducible refine Up.alloc ?_ _ _) | (with_reducible refine Up.setCell ?_ ?_ _) | (with_reducible refine Up.drewN ?_ _) | (with_reducible refine Up.drew ?_))); all_goals (first | (simp; done) | (simp; omega) | omega))

set_option maxRecDepth 100000 in
theorem ratioAdds_lifted (os : Os) (started : os.Started) (H : Type) (enc : TypeId × Value → H) :
    ReturnsInHanded {} Try.checked os 6 .any (Rows.ratioAddsSpec.pre6 enc Try.prog Try.f6 Rows.ratioAddsRow.domain false) (Rows.ratioAddsSpec.post enc Try.prog Try.f6 false true false false) := by
  refine returnsInHanded_of_change (C := Try.checked) ratioAdds_own started (by kernel_rfl) Try.func6
    (ChangeSpec.witness6 (enc := enc) (C := Try.checked) false ⟨#[], #[.agg #[.int .i64 0, .int .i64 0], .agg #[.int .i64 0, .int .i64 0]], []⟩ 8 (by kernel_rfl) (by kernel_rfl) (by kernel_rfl) (by kernel_rfl)) ?_
  intro W base args ds gs before hval0 hW hcnd _
  have hval : ∀ (j : Nat) t v, Try.f6.params[j]? = some t → args[j]? = some v → Value.okWide Try.prog W .any base t v := hval0
  have hW' := hW
  obtain ⟨p, q, hA0, hV, rfl, hfz, hnd⟩ := hW
  have hA : DataW.TrodAll enc Try.prog W 0 (fun _ => true) true Try.f6.params.toList args.toList ds p := hA0
  rw [Try.params6] at hA hval
  obtain ⟨v0, vs0, d0, ds0, p0, q0, hargs, rfl, rfl, h0, r0⟩ := trodAll_cons hA
  obtain ⟨v1, vs1, d1, ds1, p1, q1, rfl, rfl, rfl, h1, r1⟩ := trodAll_cons r0
  obtain ⟨rfl, rfl, rfl⟩ := trodAll_nil r1
  obtain rfl : args = #[v0, v1] := by cases args; simp_all
  obtain ⟨rfl, rfl⟩ := trodVars_none hV
  obtain ⟨ca0, cb0, ya0, yb0, m0, rfl, rfl, rfl, hya0, hyb0⟩ := open_agg2 Try.underlying23 (by kernel_rfl) ratioAdds_cellsr (hval 0 23 v0 rfl rfl) h0
  obtain ⟨a0, ea0, rfl, w0⟩ := DataW.trod_int Try.underlying2 hya0
  obtain ⟨b0, eb0, rfl, x0⟩ := DataW.trod_int Try.underlying2 hyb0
  simp at ea0 eb0
  subst ea0 eb0
  obtain ⟨ca1, cb1, ya1, yb1, m1, rfl, rfl, rfl, hya1, hyb1⟩ := open_agg2 Try.underlying23 (by kernel_rfl) ratioAdds_cellsr (hval 1 23 v1 rfl rfl) h1
  obtain ⟨a1, ea1, rfl, w1⟩ := DataW.trod_int Try.underlying2 hya1
  obtain ⟨b1, eb1, rfl, x1⟩ := DataW.trod_int Try.underlying2 hyb1
  simp at ea1 eb1
  subst ea1 eb1
  clear hA0 hval0
  simp only [List.append_nil] at hW'
  refine (ratioAdds_walk a0 b0 a1 b1 w0 x0 w1 x1 W).mono fun e W' ⟨he, hg⟩ => ?_
  subst he
  exact ⟨_, rfl, post_of_same (pa := []) (pv := []) hW' (fun _ _ _ => (trodAll_cons_mk (shut_bool Try.underlying4 _) trodAll_mk0)) (fun sp _ => (trodAll_cons_mk (shut_agg2 (y0 := (.lit (.int .i64 a0), [])) (y1 := (.lit (.int .i64 b0), [])) Try.underlying23 (by kernel_rfl) ratioAdds_cellsr ⟨1, by simp [DataW.trod, Try.underlying2, w0]⟩ ⟨1, by simp [DataW.trod, Try.underlying2, x0]⟩) (trodAll_cons_mk (shut_agg2 (y0 := (.lit (.int .i64 a1), [])) (y1 := (.lit (.int .i64 b1), [])) Try.underlying23 (by kernel_rfl) ratioAdds_cellsr ⟨1, by simp [DataW.trod, Try.underlying2, w1]⟩ ⟨1, by simp [DataW.trod, Try.underlying2, x1]⟩) trodAll_mk0))) (fun _ _ => rfl) rfl
    (hg.frame _) hg.2.1 (ok_one (by kernel_rfl) rfl (okWide_bool_mk Try.underlying4 _))⟩

theorem ratioAdds_over : Rows.ratioAddsRow.holds Try.pinned (OpenSpec.ofChange Rows.ratioAddsSpec) :=
  OpenClaim.holds_of_wide 6 Try.f6 rfl rfl rfl rfl rfl rfl rfl ⟨rfl, rfl, rfl, rfl, rfl⟩ rfl rfl rfl rfl rfl (by kernel_rfl) Try.func6 (by kernel_rfl)
    (of_decide_eq_true (by kernel_rfl)) (by unfold Func.isWrapper; first | (rw [if_pos (by decide +kernel)]; kernel_rfl) | (rw [if_neg (by decide +kernel)]; exact ⟨rfl, rfl⟩))
    (fun os started H enc _ => ratioAdds_lifted os started H enc)

theorem ratioAdds_holds : Rows.RatioAddsSaid :=
  ratioAdds_over
#print axioms ratioAdds_holds
end Go.Proofs.Ytgkoccnnafilnaa
