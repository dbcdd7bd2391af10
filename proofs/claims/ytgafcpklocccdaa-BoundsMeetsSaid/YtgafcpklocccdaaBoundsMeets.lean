/- Proved: for all answers a and b and every rational number v the law BoundsMeets returns true: bounds.Meet answers as the reference does, and holds what both hold. Conditions: none. -/
import Derived.Test.YtgafcpklocccdaaRows
import Derived.WalkKit
import Derived.ProofKit
import Derived.OpenShut
import Derived.Lib.SmallJoins
import Derived.Test.YtgafcpklocccdaaBFrame
import Derived.Test.YtgafcpklocccdaaBWhole
import Derived.Test.YtgafcpklocccdaaBHolds
import Derived.Test.YtgafcpklocccdaaBMeet
import Derived.Test.YtgafcpklocccdaaBRMeet
namespace Go.Proofs.Ytgafcpklocccdaa
open Go.ChangeShapes Go.WideShapes Go.ChangeAt Go.RowKit Go.Joins
set_option linter.unusedVariables false

theorem boundsMeets_own : ownKnob Try.prog.godebug = none := by kernel_rfl
theorem boundsMeets_cellsr : Try.prog.cellsOf 23 = 2 := by kernel_rfl

set_option maxHeartbeats 4000000 in
set_option maxRecDepth 100000 in
theorem boundsMeets_walk (n1 d1 n2 d2 n3 d3 m1 c1 m2 c2 m3 c3 n d : Int) (wn1 : (Lit.int .i64 n1).wf = true) (wd1 : (Lit.int .i64 d1).wf = true) (wn2 : (Lit.int .i64 n2).wf = true) (wd2 : (Lit.int .i64 d2).wf = true) (wn3 : (Lit.int .i64 n3).wf = true) (wd3 : (Lit.int .i64 d3).wf = true) (wm1 : (Lit.int .i64 m1).wf = true) (wc1 : (Lit.int .i64 c1).wf = true) (wm2 : (Lit.int .i64 m2).wf = true) (wc2 : (Lit.int .i64 c2).wf = true) (wm3 : (Lit.int .i64 m3).wf = true) (wc3 : (Lit.int .i64 c3).wf = true) (wn : (Lit.int .i64 n).wf = true) (wd : (Lit.int .i64 d).wf = true) (w : World) :
    Calls Try.prog 10 #[.agg #[.int .i64 n1, .int .i64 d1, .int .i64 n2, .int .i64 d2, .int .i64 n3, .int .i64 d3], .agg #[.int .i64 m1, .int .i64 c1, .int .i64 m2, .int .i64 c2, .int .i64 m3, .int .i64 c3], .agg #[.int .i64 n, .int .i64 d]] w fun e w' => e = .returned (.bool true) ∧ Grown w w' := by
  have in1 := in_of_wf wn1
  have id1 := in_of_wf wd1
  have in2 := in_of_wf wn2
  have id2 := in_of_wf wd2
  have in3 := in_of_wf wn3
  have id3 := in_of_wf wd3
  have im1 := in_of_wf wm1
  have ic1 := in_of_wf wc1
  have im2 := in_of_wf wm2
  have ic2 := in_of_wf wc2
  have im3 := in_of_wf wm3
  have ic3 := in_of_wf wc3
  have in_n := in_of_wf wn
  have id_d := in_of_wf wd
  clear wn1 wd1 wn2 wd2 wn3 wd3 wm1 wc1 wm2 wc2 wm3 wc3 wn wd
  have H1 := Lib.hid (fun W => bmeet_up n1 d1 n2 d2 n3 d3 m1 c1 m2 c2 m3 c3 in1 id1 in2 id2 in3 id3 im1 ic1 im2 ic2 im3 ic3 W)
  have H2 := Lib.hid (fun W => rbmeet_up n1 d1 n2 d2 n3 d3 m1 c1 m2 c2 m3 c3 in1 id1 in2 id2 in3 id3 im1 ic1 im2 ic2 im3 ic3 W)
  obtain ⟨X1, X2, X3, X4, X5, X6, ok, eE, j1, j2, j3, j4, j5, j6, ht⟩ := meetE_form n1 d1 n2 d2 n3 d3 m1 c1 m2 c2 m3 c3 n d in1 id1 in2 id2 in3 id3 im1 ic1 im3 ic3
  rw [eE] at H1 H2
  have HT := Lib.hid ht
  have H3 := Lib.hid (fun W => bholds_up n1 d1 n2 d2 n3 d3 n d in1 id1 in2 id2 in3 id3 in_n id_d W)
  have H4 := Lib.hid (fun W => bholds_up m1 c1 m2 c2 m3 c3 n d im1 ic1 im2 ic2 im3 ic3 in_n id_d W)
  have H5 := Lib.hid (fun W => bholds_up X1 X2 X3 X4 X5 X6 n d j1 j2 j3 j4 j5 j6 in_n id_d W)
  generalize hoB n1 d1 n2 d2 n3 d3 n d = h3 at *
  generalize hoB m1 c1 m2 c2 m3 c3 n d = h4 at *
  generalize hoB X1 X2 X3 X4 X5 X6 n d = h5 at *
  clear ht eE in1 id1 in2 id2 in3 id3 im1 ic1 im2 ic2 im3 ic3 in_n id_d j1 j2 j3 j4 j5 j6
  cases h3
  case false =>
    go_enter Try.func10, Try.ntmps10
    go_wp2_with fail
    refine (H1.out _).mono ?_
    rintro e w1 ⟨rfl, hu1⟩
    try unfold got2
    have c1_0 := hu1.keep (w.heap.size) (0) (.int .i64 n1) (by simp [go_sem, *])
    have c1_1 := hu1.keep (w.heap.size) (1) (.int .i64 d1) (by simp [go_sem, *])
    have c1_2 := hu1.keep (w.heap.size) (2) (.int .i64 n2) (by simp [go_sem, *])
    have c1_3 := hu1.keep (w.heap.size) (3) (.int .i64 d2) (by simp [go_sem, *])
    have c1_4 := hu1.keep (w.heap.size) (4) (.int .i64 n3) (by simp [go_sem, *])
    have c1_5 := hu1.keep (w.heap.size) (5) (.int .i64 d3) (by simp [go_sem, *])
    have c1_6 := hu1.keep (w.heap.size + 1) (0) (.int .i64 m1) (by simp [go_sem, *])
    have c1_7 := hu1.keep (w.heap.size + 1) (1) (.int .i64 c1) (by simp [go_sem, *])
    have c1_8 := hu1.keep (w.heap.size + 1) (2) (.int .i64 m2) (by simp [go_sem, *])
    have c1_9 := hu1.keep (w.heap.size + 1) (3) (.int .i64 c2) (by simp [go_sem, *])
    have c1_10 := hu1.keep (w.heap.size + 1) (4) (.int .i64 m3) (by simp [go_sem, *])
    have c1_11 := hu1.keep (w.heap.size + 1) (5) (.int .i64 c3) (by simp [go_sem, *])
    have c1_12 := hu1.keep (w.heap.size + 1 + 1) (0) (.int .i64 n) (by simp [go_sem, *])
    have c1_13 := hu1.keep (w.heap.size + 1 + 1) (1) (.int .i64 d) (by simp [go_sem, *])
    have l1_0 : w.heap.size < w1.heap.size := World.block_lt_of_cell? _ _ c1_0
    have m1_0 : w.heap.size < w1.heap.size + 1 := by omega
    have n1_0 : w.heap.size < w1.heap.size + 1 + 1 := by omega
    have x1_0 : ¬ w1.heap.size = w.heap.size := by omega
    have y1_0 : ¬ w1.heap.size + 1 = w.heap.size := by omega
    have l1_1 : w.heap.size + 1 < w1.heap.size := World.block_lt_of_cell? _ _ c1_6
    have m1_1 : w.heap.size + 1 < w1.heap.size + 1 := by omega
    have n1_1 : w.heap.size + 1 < w1.heap.size + 1 + 1 := by omega
    have x1_1 : ¬ w1.heap.size = w.heap.size + 1 := by omega
    have y1_1 : ¬ w1.heap.size + 1 = w.heap.size + 1 := by omega
    have l1_2 : w.heap.size + 1 + 1 < w1.heap.size := World.block_lt_of_cell? _ _ c1_12
    have m1_2 : w.heap.size + 1 + 1 < w1.heap.size + 1 := by omega
    have n1_2 : w.heap.size + 1 + 1 < w1.heap.size + 1 + 1 := by omega
    have x1_2 : ¬ w1.heap.size = w.heap.size + 1 + 1 := by omega
    have y1_2 : ¬ w1.heap.size + 1 = w.heap.size + 1 + 1 := by omega
    have HU1 : Hid (Up w w1) := Lib.hid (by ((repeat (first | (with_reducible exact Up.refl _) | (with_reducible refine Up.trans ?_ hu1) | (with_reducible refine Up.alloc ?_ _ _) | (with_reducible refine Up.setCell ?_ ?_ _) | (with_reducible refine Up.drewN ?_ _) | (with_reducible refine Up.drew ?_))); all_goals (first | (simp; done) | (simp; omega) | omega)))
    clear hu1
    unfold gotB
    go_wp2_with fail
    refine (H2.out _).mono ?_
    rintro e w2 ⟨rfl, hu2⟩
    try unfold got2
    have c2_0 := hu2.keep (w.heap.size) (0) (.int .i64 n1) (by simp [go_sem, *])
    have c2_1 := hu2.keep (w.heap.size) (1) (.int .i64 d1) (by simp [go_sem, *])
    have c2_2 := hu2.keep (w.heap.size) (2) (.int .i64 n2) (by simp [go_sem, *])
    have c2_3 := hu2.keep (w.heap.size) (3) (.int .i64 d2) (by simp [go_sem, *])
    have c2_4 := hu2.keep (w.heap.size) (4) (.int .i64 n3) (by simp [go_sem, *])
    have c2_5 := hu2.keep (w.heap.size) (5) (.int .i64 d3) (by simp [go_sem, *])
    have c2_6 := hu2.keep (w.heap.size + 1) (0) (.int .i64 m1) (by simp [go_sem, *])
    have c2_7 := hu2.keep (w.heap.size + 1) (1) (.int .i64 c1) (by simp [go_sem, *])
    have c2_8 := hu2.keep (w.heap.size + 1) (2) (.int .i64 m2) (by simp [go_sem, *])
    have c2_9 := hu2.keep (w.heap.size + 1) (3) (.int .i64 c2) (by simp [go_sem, *])
    have c2_10 := hu2.keep (w.heap.size + 1) (4) (.int .i64 m3) (by simp [go_sem, *])
    have c2_11 := hu2.keep (w.heap.size + 1) (5) (.int .i64 c3) (by simp [go_sem, *])
    have c2_12 := hu2.keep (w.heap.size + 1 + 1) (0) (.int .i64 n) (by simp [go_sem, *])
    have c2_13 := hu2.keep (w.heap.size + 1 + 1) (1) (.int .i64 d) (by simp [go_sem, *])
    have c2_14 := hu2.keep (w1.heap.size) (0) (.int .i64 X1) (by simp [go_sem, *])
    have c2_15 := hu2.keep (w1.heap.size) (1) (.int .i64 X2) (by simp [go_sem, *])
    have c2_16 := hu2.keep (w1.heap.size) (2) (.int .i64 X3) (by simp [go_sem, *])
    have c2_17 := hu2.keep (w1.heap.size) (3) (.int .i64 X4) (by simp [go_sem, *])
    have c2_18 := hu2.keep (w1.heap.size) (4) (.int .i64 X5) (by simp [go_sem, *])
    have c2_19 := hu2.keep (w1.heap.size) (5) (.int .i64 X6) (by simp [go_sem, *])
    have l2_0 : w.heap.size < w2.heap.size := World.block_lt_of_cell? _ _ c2_0
    have m2_0 : w.heap.size < w2.heap.size + 1 := by omega
    have n2_0 : w.heap.size < w2.heap.size + 1 + 1 := by omega
    have x2_0 : ¬ w2.heap.size = w.heap.size := by omega
    have y2_0 : ¬ w2.heap.size + 1 = w.heap.size := by omega
    have l2_1 : w.heap.size + 1 < w2.heap.size := World.block_lt_of_cell? _ _ c2_6
    have m2_1 : w.heap.size + 1 < w2.heap.size + 1 := by omega
    have n2_1 : w.heap.size + 1 < w2.heap.size + 1 + 1 := by omega
    have x2_1 : ¬ w2.heap.size = w.heap.size + 1 := by omega
    have y2_1 : ¬ w2.heap.size + 1 = w.heap.size + 1 := by omega
    have l2_2 : w.heap.size + 1 + 1 < w2.heap.size := World.block_lt_of_cell? _ _ c2_12
    have m2_2 : w.heap.size + 1 + 1 < w2.heap.size + 1 := by omega
    have n2_2 : w.heap.size + 1 + 1 < w2.heap.size + 1 + 1 := by omega
    have x2_2 : ¬ w2.heap.size = w.heap.size + 1 + 1 := by omega
    have y2_2 : ¬ w2.heap.size + 1 = w.heap.size + 1 + 1 := by omega
    have l2_3 : w1.heap.size < w2.heap.size := World.block_lt_of_cell? _ _ c2_14
    have m2_3 : w1.heap.size < w2.heap.size + 1 := by omega
    have n2_3 : w1.heap.size < w2.heap.size + 1 + 1 := by omega
    have x2_3 : ¬ w2.heap.size = w1.heap.size := by omega
    have y2_3 : ¬ w2.heap.size + 1 = w1.heap.size := by omega
    have HU2 : Hid (Up w w2) := Lib.hid (by ((repeat (first | (with_reducible exact Up.refl _) | (with_reducible exact HU1.out) | (with_reducible refine Up.trans ?_ hu2) | (with_reducible refine Up.alloc ?_ _ _) | (with_reducible refine Up.setCell ?_ ?_ _) | (with_reducible refine Up.drewN ?_ _) | (with_reducible refine Up.drew ?_))); all_goals (first | (simp; done) | (simp; omega) | omega)))
    clear hu2 c1_0 c1_1 c1_2 c1_3 c1_4 c1_5 c1_6 c1_7 c1_8 c1_9 c1_10 c1_11 c1_12 c1_13
    unfold gotB
    go_wp2_with fail
    refine (H3.out _).mono ?_
    rintro e w3 ⟨rfl, hu3⟩
    try unfold got2
    have c3_0 := hu3.keep (w.heap.size) (0) (.int .i64 n1) (by simp [go_sem, *])
    have c3_1 := hu3.keep (w.heap.size) (1) (.int .i64 d1) (by simp [go_sem, *])
    have c3_2 := hu3.keep (w.heap.size) (2) (.int .i64 n2) (by simp [go_sem, *])
    have c3_3 := hu3.keep (w.heap.size) (3) (.int .i64 d2) (by simp [go_sem, *])
    have c3_4 := hu3.keep (w.heap.size) (4) (.int .i64 n3) (by simp [go_sem, *])
    have c3_5 := hu3.keep (w.heap.size) (5) (.int .i64 d3) (by simp [go_sem, *])
    have c3_6 := hu3.keep (w.heap.size + 1) (0) (.int .i64 m1) (by simp [go_sem, *])
    have c3_7 := hu3.keep (w.heap.size + 1) (1) (.int .i64 c1) (by simp [go_sem, *])
    have c3_8 := hu3.keep (w.heap.size + 1) (2) (.int .i64 m2) (by simp [go_sem, *])
    have c3_9 := hu3.keep (w.heap.size + 1) (3) (.int .i64 c2) (by simp [go_sem, *])
    have c3_10 := hu3.keep (w.heap.size + 1) (4) (.int .i64 m3) (by simp [go_sem, *])
    have c3_11 := hu3.keep (w.heap.size + 1) (5) (.int .i64 c3) (by simp [go_sem, *])
    have c3_12 := hu3.keep (w.heap.size + 1 + 1) (0) (.int .i64 n) (by simp [go_sem, *])
    have c3_13 := hu3.keep (w.heap.size + 1 + 1) (1) (.int .i64 d) (by simp [go_sem, *])
    have c3_14 := hu3.keep (w1.heap.size) (0) (.int .i64 X1) (by simp [go_sem, *])
    have c3_15 := hu3.keep (w1.heap.size) (1) (.int .i64 X2) (by simp [go_sem, *])
    have c3_16 := hu3.keep (w1.heap.size) (2) (.int .i64 X3) (by simp [go_sem, *])
    have c3_17 := hu3.keep (w1.heap.size) (3) (.int .i64 X4) (by simp [go_sem, *])
    have c3_18 := hu3.keep (w1.heap.size) (4) (.int .i64 X5) (by simp [go_sem, *])
    have c3_19 := hu3.keep (w1.heap.size) (5) (.int .i64 X6) (by simp [go_sem, *])
    have l3_0 : w.heap.size < w3.heap.size := World.block_lt_of_cell? _ _ c3_0
    have m3_0 : w.heap.size < w3.heap.size + 1 := by omega
    have n3_0 : w.heap.size < w3.heap.size + 1 + 1 := by omega
    have x3_0 : ¬ w3.heap.size = w.heap.size := by omega
    have y3_0 : ¬ w3.heap.size + 1 = w.heap.size := by omega
    have l3_1 : w.heap.size + 1 < w3.heap.size := World.block_lt_of_cell? _ _ c3_6
    have m3_1 : w.heap.size + 1 < w3.heap.size + 1 := by omega
    have n3_1 : w.heap.size + 1 < w3.heap.size + 1 + 1 := by omega
    have x3_1 : ¬ w3.heap.size = w.heap.size + 1 := by omega
    have y3_1 : ¬ w3.heap.size + 1 = w.heap.size + 1 := by omega
    have l3_2 : w.heap.size + 1 + 1 < w3.heap.size := World.block_lt_of_cell? _ _ c3_12
    have m3_2 : w.heap.size + 1 + 1 < w3.heap.size + 1 := by omega
    have n3_2 : w.heap.size + 1 + 1 < w3.heap.size + 1 + 1 := by omega
    have x3_2 : ¬ w3.heap.size = w.heap.size + 1 + 1 := by omega
    have y3_2 : ¬ w3.heap.size + 1 = w.heap.size + 1 + 1 := by omega
    have l3_3 : w1.heap.size < w3.heap.size := World.block_lt_of_cell? _ _ c3_14
    have m3_3 : w1.heap.size < w3.heap.size + 1 := by omega
    have n3_3 : w1.heap.size < w3.heap.size + 1 + 1 := by omega
    have x3_3 : ¬ w3.heap.size = w1.heap.size := by omega
    have y3_3 : ¬ w3.heap.size + 1 = w1.heap.size := by omega
    have HU3 : Hid (Up w w3) := Lib.hid (by ((repeat (first | (with_reducible exact Up.refl _) | (with_reducible exact HU2.out) | (with_reducible refine Up.trans ?_ hu3) | (with_reducible refine Up.alloc ?_ _ _) | (with_reducible refine Up.setCell ?_ ?_ _) | (with_reducible refine Up.drewN ?_ _) | (with_reducible refine Up.drew ?_))); all_goals (first | (simp; done) | (simp; omega) | omega)))
    clear hu3 c2_0 c2_1 c2_2 c2_3 c2_4 c2_5 c2_6 c2_7 c2_8 c2_9 c2_10 c2_11 c2_12 c2_13 c2_14 c2_15 c2_16 c2_17 c2_18 c2_19
    go_wp2_with fail
    refine (awakeb_up _).mono ?_
    rintro e w9 ⟨rfl, hu9⟩
    go_wp2
    go_ret
    refine ⟨rfl, Up.grown ?_⟩
    ((repeat (first | (with_reducible exact Up.refl _) | (with_reducible exact HU3.out) | (with_reducible refine Up.trans ?_ hu9) | (with_reducible refine Up.alloc ?_ _ _) | (with_reducible refine Up.setCell ?_ ?_ _) | (with_reducible refine Up.drewN ?_ _) | (with_reducible refine Up.drew ?_))); all_goals (first | (simp; done) | (simp; omega) | omega))
  cases h4
  case false =>
    go_enter Try.func10, Try.ntmps10
    go_wp2_with fail
    refine (H1.out _).mono ?_
    rintro e w1 ⟨rfl, hu1⟩
    try unfold got2
    have c1_0 := hu1.keep (w.heap.size) (0) (.int .i64 n1) (by simp [go_sem, *])
    have c1_1 := hu1.keep (w.heap.size) (1) (.int .i64 d1) (by simp [go_sem, *])
    have c1_2 := hu1.keep (w.heap.size) (2) (.int .i64 n2) (by simp [go_sem, *])
    have c1_3 := hu1.keep (w.heap.size) (3) (.int .i64 d2) (by simp [go_sem, *])
    have c1_4 := hu1.keep (w.heap.size) (4) (.int .i64 n3) (by simp [go_sem, *])
    have c1_5 := hu1.keep (w.heap.size) (5) (.int .i64 d3) (by simp [go_sem, *])
    have c1_6 := hu1.keep (w.heap.size + 1) (0) (.int .i64 m1) (by simp [go_sem, *])
    have c1_7 := hu1.keep (w.heap.size + 1) (1) (.int .i64 c1) (by simp [go_sem, *])
    have c1_8 := hu1.keep (w.heap.size + 1) (2) (.int .i64 m2) (by simp [go_sem, *])
    have c1_9 := hu1.keep (w.heap.size + 1) (3) (.int .i64 c2) (by simp [go_sem, *])
    have c1_10 := hu1.keep (w.heap.size + 1) (4) (.int .i64 m3) (by simp [go_sem, *])
    have c1_11 := hu1.keep (w.heap.size + 1) (5) (.int .i64 c3) (by simp [go_sem, *])
    have c1_12 := hu1.keep (w.heap.size + 1 + 1) (0) (.int .i64 n) (by simp [go_sem, *])
    have c1_13 := hu1.keep (w.heap.size + 1 + 1) (1) (.int .i64 d) (by simp [go_sem, *])
    have l1_0 : w.heap.size < w1.heap.size := World.block_lt_of_cell? _ _ c1_0
    have m1_0 : w.heap.size < w1.heap.size + 1 := by omega
    have n1_0 : w.heap.size < w1.heap.size + 1 + 1 := by omega
    have x1_0 : ¬ w1.heap.size = w.heap.size := by omega
    have y1_0 : ¬ w1.heap.size + 1 = w.heap.size := by omega
    have l1_1 : w.heap.size + 1 < w1.heap.size := World.block_lt_of_cell? _ _ c1_6
    have m1_1 : w.heap.size + 1 < w1.heap.size + 1 := by omega
    have n1_1 : w.heap.size + 1 < w1.heap.size + 1 + 1 := by omega
    have x1_1 : ¬ w1.heap.size = w.heap.size + 1 := by omega
    have y1_1 : ¬ w1.heap.size + 1 = w.heap.size + 1 := by omega
    have l1_2 : w.heap.size + 1 + 1 < w1.heap.size := World.block_lt_of_cell? _ _ c1_12
    have m1_2 : w.heap.size + 1 + 1 < w1.heap.size + 1 := by omega
    have n1_2 : w.heap.size + 1 + 1 < w1.heap.size + 1 + 1 := by omega
    have x1_2 : ¬ w1.heap.size = w.heap.size + 1 + 1 := by omega
    have y1_2 : ¬ w1.heap.size + 1 = w.heap.size + 1 + 1 := by omega
    have HU1 : Hid (Up w w1) := Lib.hid (by ((repeat (first | (with_reducible exact Up.refl _) | (with_reducible refine Up.trans ?_ hu1) | (with_reducible refine Up.alloc ?_ _ _) | (with_reducible refine Up.setCell ?_ ?_ _) | (with_reducible refine Up.drewN ?_ _) | (with_reducible refine Up.drew ?_))); all_goals (first | (simp; done) | (simp; omega) | omega)))
    clear hu1
    unfold gotB
    go_wp2_with fail
    refine (H2.out _).mono ?_
    rintro e w2 ⟨rfl, hu2⟩
    try unfold got2
    have c2_0 := hu2.keep (w.heap.size) (0) (.int .i64 n1) (by simp [go_sem, *])
    have c2_1 := hu2.keep (w.heap.size) (1) (.int .i64 d1) (by simp [go_sem, *])
    have c2_2 := hu2.keep (w.heap.size) (2) (.int .i64 n2) (by simp [go_sem, *])
    have c2_3 := hu2.keep (w.heap.size) (3) (.int .i64 d2) (by simp [go_sem, *])
    have c2_4 := hu2.keep (w.heap.size) (4) (.int .i64 n3) (by simp [go_sem, *])
    have c2_5 := hu2.keep (w.heap.size) (5) (.int .i64 d3) (by simp [go_sem, *])
    have c2_6 := hu2.keep (w.heap.size + 1) (0) (.int .i64 m1) (by simp [go_sem, *])
    have c2_7 := hu2.keep (w.heap.size + 1) (1) (.int .i64 c1) (by simp [go_sem, *])
    have c2_8 := hu2.keep (w.heap.size + 1) (2) (.int .i64 m2) (by simp [go_sem, *])
    have c2_9 := hu2.keep (w.heap.size + 1) (3) (.int .i64 c2) (by simp [go_sem, *])
    have c2_10 := hu2.keep (w.heap.size + 1) (4) (.int .i64 m3) (by simp [go_sem, *])
    have c2_11 := hu2.keep (w.heap.size + 1) (5) (.int .i64 c3) (by simp [go_sem, *])
    have c2_12 := hu2.keep (w.heap.size + 1 + 1) (0) (.int .i64 n) (by simp [go_sem, *])
    have c2_13 := hu2.keep (w.heap.size + 1 + 1) (1) (.int .i64 d) (by simp [go_sem, *])
    have c2_14 := hu2.keep (w1.heap.size) (0) (.int .i64 X1) (by simp [go_sem, *])
    have c2_15 := hu2.keep (w1.heap.size) (1) (.int .i64 X2) (by simp [go_sem, *])
    have c2_16 := hu2.keep (w1.heap.size) (2) (.int .i64 X3) (by simp [go_sem, *])
    have c2_17 := hu2.keep (w1.heap.size) (3) (.int .i64 X4) (by simp [go_sem, *])
    have c2_18 := hu2.keep (w1.heap.size) (4) (.int .i64 X5) (by simp [go_sem, *])
    have c2_19 := hu2.keep (w1.heap.size) (5) (.int .i64 X6) (by simp [go_sem, *])
    have l2_0 : w.heap.size < w2.heap.size := World.block_lt_of_cell? _ _ c2_0
    have m2_0 : w.heap.size < w2.heap.size + 1 := by omega
    have n2_0 : w.heap.size < w2.heap.size + 1 + 1 := by omega
    have x2_0 : ¬ w2.heap.size = w.heap.size := by omega
    have y2_0 : ¬ w2.heap.size + 1 = w.heap.size := by omega
    have l2_1 : w.heap.size + 1 < w2.heap.size := World.block_lt_of_cell? _ _ c2_6
    have m2_1 : w.heap.size + 1 < w2.heap.size + 1 := by omega
    have n2_1 : w.heap.size + 1 < w2.heap.size + 1 + 1 := by omega
    have x2_1 : ¬ w2.heap.size = w.heap.size + 1 := by omega
    have y2_1 : ¬ w2.heap.size + 1 = w.heap.size + 1 := by omega
    have l2_2 : w.heap.size + 1 + 1 < w2.heap.size := World.block_lt_of_cell? _ _ c2_12
    have m2_2 : w.heap.size + 1 + 1 < w2.heap.size + 1 := by omega
    have n2_2 : w.heap.size + 1 + 1 < w2.heap.size + 1 + 1 := by omega
    have x2_2 : ¬ w2.heap.size = w.heap.size + 1 + 1 := by omega
    have y2_2 : ¬ w2.heap.size + 1 = w.heap.size + 1 + 1 := by omega
    have l2_3 : w1.heap.size < w2.heap.size := World.block_lt_of_cell? _ _ c2_14
    have m2_3 : w1.heap.size < w2.heap.size + 1 := by omega
    have n2_3 : w1.heap.size < w2.heap.size + 1 + 1 := by omega
    have x2_3 : ¬ w2.heap.size = w1.heap.size := by omega
    have y2_3 : ¬ w2.heap.size + 1 = w1.heap.size := by omega
    have HU2 : Hid (Up w w2) := Lib.hid (by ((repeat (first | (with_reducible exact Up.refl _) | (with_reducible exact HU1.out) | (with_reducible refine Up.trans ?_ hu2) | (with_reducible refine Up.alloc ?_ _ _) | (with_reducible refine Up.setCell ?_ ?_ _) | (with_reducible refine Up.drewN ?_ _) | (with_reducible refine Up.drew ?_))); all_goals (first | (simp; done) | (simp; omega) | omega)))
    clear hu2 c1_0 c1_1 c1_2 c1_3 c1_4 c1_5 c1_6 c1_7 c1_8 c1_9 c1_10 c1_11 c1_12 c1_13
    unfold gotB
    go_wp2_with fail
    refine (H3.out _).mono ?_
    rintro e w3 ⟨rfl, hu3⟩
    try unfold got2
    have c3_0 := hu3.keep (w.heap.size) (0) (.int .i64 n1) (by simp [go_sem, *])
    have c3_1 := hu3.keep (w.heap.size) (1) (.int .i64 d1) (by simp [go_sem, *])
    have c3_2 := hu3.keep (w.heap.size) (2) (.int .i64 n2) (by simp [go_sem, *])
    have c3_3 := hu3.keep (w.heap.size) (3) (.int .i64 d2) (by simp [go_sem, *])
    have c3_4 := hu3.keep (w.heap.size) (4) (.int .i64 n3) (by simp [go_sem, *])
    have c3_5 := hu3.keep (w.heap.size) (5) (.int .i64 d3) (by simp [go_sem, *])
    have c3_6 := hu3.keep (w.heap.size + 1) (0) (.int .i64 m1) (by simp [go_sem, *])
    have c3_7 := hu3.keep (w.heap.size + 1) (1) (.int .i64 c1) (by simp [go_sem, *])
    have c3_8 := hu3.keep (w.heap.size + 1) (2) (.int .i64 m2) (by simp [go_sem, *])
    have c3_9 := hu3.keep (w.heap.size + 1) (3) (.int .i64 c2) (by simp [go_sem, *])
    have c3_10 := hu3.keep (w.heap.size + 1) (4) (.int .i64 m3) (by simp [go_sem, *])
    have c3_11 := hu3.keep (w.heap.size + 1) (5) (.int .i64 c3) (by simp [go_sem, *])
    have c3_12 := hu3.keep (w.heap.size + 1 + 1) (0) (.int .i64 n) (by simp [go_sem, *])
    have c3_13 := hu3.keep (w.heap.size + 1 + 1) (1) (.int .i64 d) (by simp [go_sem, *])
    have c3_14 := hu3.keep (w1.heap.size) (0) (.int .i64 X1) (by simp [go_sem, *])
    have c3_15 := hu3.keep (w1.heap.size) (1) (.int .i64 X2) (by simp [go_sem, *])
    have c3_16 := hu3.keep (w1.heap.size) (2) (.int .i64 X3) (by simp [go_sem, *])
    have c3_17 := hu3.keep (w1.heap.size) (3) (.int .i64 X4) (by simp [go_sem, *])
    have c3_18 := hu3.keep (w1.heap.size) (4) (.int .i64 X5) (by simp [go_sem, *])
    have c3_19 := hu3.keep (w1.heap.size) (5) (.int .i64 X6) (by simp [go_sem, *])
    have l3_0 : w.heap.size < w3.heap.size := World.block_lt_of_cell? _ _ c3_0
    have m3_0 : w.heap.size < w3.heap.size + 1 := by omega
    have n3_0 : w.heap.size < w3.heap.size + 1 + 1 := by omega
    have x3_0 : ¬ w3.heap.size = w.heap.size := by omega
    have y3_0 : ¬ w3.heap.size + 1 = w.heap.size := by omega
    have l3_1 : w.heap.size + 1 < w3.heap.size := World.block_lt_of_cell? _ _ c3_6
    have m3_1 : w.heap.size + 1 < w3.heap.size + 1 := by omega
    have n3_1 : w.heap.size + 1 < w3.heap.size + 1 + 1 := by omega
    have x3_1 : ¬ w3.heap.size = w.heap.size + 1 := by omega
    have y3_1 : ¬ w3.heap.size + 1 = w.heap.size + 1 := by omega
    have l3_2 : w.heap.size + 1 + 1 < w3.heap.size := World.block_lt_of_cell? _ _ c3_12
    have m3_2 : w.heap.size + 1 + 1 < w3.heap.size + 1 := by omega
    have n3_2 : w.heap.size + 1 + 1 < w3.heap.size + 1 + 1 := by omega
    have x3_2 : ¬ w3.heap.size = w.heap.size + 1 + 1 := by omega
    have y3_2 : ¬ w3.heap.size + 1 = w.heap.size + 1 + 1 := by omega
    have l3_3 : w1.heap.size < w3.heap.size := World.block_lt_of_cell? _ _ c3_14
    have m3_3 : w1.heap.size < w3.heap.size + 1 := by omega
    have n3_3 : w1.heap.size < w3.heap.size + 1 + 1 := by omega
    have x3_3 : ¬ w3.heap.size = w1.heap.size := by omega
    have y3_3 : ¬ w3.heap.size + 1 = w1.heap.size := by omega
    have HU3 : Hid (Up w w3) := Lib.hid (by ((repeat (first | (with_reducible exact Up.refl _) | (with_reducible exact HU2.out) | (with_reducible refine Up.trans ?_ hu3) | (with_reducible refine Up.alloc ?_ _ _) | (with_reducible refine Up.setCell ?_ ?_ _) | (with_reducible refine Up.drewN ?_ _) | (with_reducible refine Up.drew ?_))); all_goals (first | (simp; done) | (simp; omega) | omega)))
    clear hu3 c2_0 c2_1 c2_2 c2_3 c2_4 c2_5 c2_6 c2_7 c2_8 c2_9 c2_10 c2_11 c2_12 c2_13 c2_14 c2_15 c2_16 c2_17 c2_18 c2_19
    go_wp2_with fail
    refine (H4.out _).mono ?_
    rintro e w4 ⟨rfl, hu4⟩
    try unfold got2
    have c4_0 := hu4.keep (w.heap.size) (0) (.int .i64 n1) (by simp [go_sem, *])
    have c4_1 := hu4.keep (w.heap.size) (1) (.int .i64 d1) (by simp [go_sem, *])
    have c4_2 := hu4.keep (w.heap.size) (2) (.int .i64 n2) (by simp [go_sem, *])
    have c4_3 := hu4.keep (w.heap.size) (3) (.int .i64 d2) (by simp [go_sem, *])
    have c4_4 := hu4.keep (w.heap.size) (4) (.int .i64 n3) (by simp [go_sem, *])
    have c4_5 := hu4.keep (w.heap.size) (5) (.int .i64 d3) (by simp [go_sem, *])
    have c4_6 := hu4.keep (w.heap.size + 1) (0) (.int .i64 m1) (by simp [go_sem, *])
    have c4_7 := hu4.keep (w.heap.size + 1) (1) (.int .i64 c1) (by simp [go_sem, *])
    have c4_8 := hu4.keep (w.heap.size + 1) (2) (.int .i64 m2) (by simp [go_sem, *])
    have c4_9 := hu4.keep (w.heap.size + 1) (3) (.int .i64 c2) (by simp [go_sem, *])
    have c4_10 := hu4.keep (w.heap.size + 1) (4) (.int .i64 m3) (by simp [go_sem, *])
    have c4_11 := hu4.keep (w.heap.size + 1) (5) (.int .i64 c3) (by simp [go_sem, *])
    have c4_12 := hu4.keep (w.heap.size + 1 + 1) (0) (.int .i64 n) (by simp [go_sem, *])
    have c4_13 := hu4.keep (w.heap.size + 1 + 1) (1) (.int .i64 d) (by simp [go_sem, *])
    have c4_14 := hu4.keep (w1.heap.size) (0) (.int .i64 X1) (by simp [go_sem, *])
    have c4_15 := hu4.keep (w1.heap.size) (1) (.int .i64 X2) (by simp [go_sem, *])
    have c4_16 := hu4.keep (w1.heap.size) (2) (.int .i64 X3) (by simp [go_sem, *])
    have c4_17 := hu4.keep (w1.heap.size) (3) (.int .i64 X4) (by simp [go_sem, *])
    have c4_18 := hu4.keep (w1.heap.size) (4) (.int .i64 X5) (by simp [go_sem, *])
    have c4_19 := hu4.keep (w1.heap.size) (5) (.int .i64 X6) (by simp [go_sem, *])
    have l4_0 : w.heap.size < w4.heap.size := World.block_lt_of_cell? _ _ c4_0
    have m4_0 : w.heap.size < w4.heap.size + 1 := by omega
    have n4_0 : w.heap.size < w4.heap.size + 1 + 1 := by omega
    have x4_0 : ¬ w4.heap.size = w.heap.size := by omega
    have y4_0 : ¬ w4.heap.size + 1 = w.heap.size := by omega
    have l4_1 : w.heap.size + 1 < w4.heap.size := World.block_lt_of_cell? _ _ c4_6
    have m4_1 : w.heap.size + 1 < w4.heap.size + 1 := by omega
    have n4_1 : w.heap.size + 1 < w4.heap.size + 1 + 1 := by omega
    have x4_1 : ¬ w4.heap.size = w.heap.size + 1 := by omega
    have y4_1 : ¬ w4.heap.size + 1 = w.heap.size + 1 := by omega
    have l4_2 : w.heap.size + 1 + 1 < w4.heap.size := World.block_lt_of_cell? _ _ c4_12
    have m4_2 : w.heap.size + 1 + 1 < w4.heap.size + 1 := by omega
    have n4_2 : w.heap.size + 1 + 1 < w4.heap.size + 1 + 1 := by omega
    have x4_2 : ¬ w4.heap.size = w.heap.size + 1 + 1 := by omega
    have y4_2 : ¬ w4.heap.size + 1 = w.heap.size + 1 + 1 := by omega
    have l4_3 : w1.heap.size < w4.heap.size := World.block_lt_of_cell? _ _ c4_14
    have m4_3 : w1.heap.size < w4.heap.size + 1 := by omega
    have n4_3 : w1.heap.size < w4.heap.size + 1 + 1 := by omega
    have x4_3 : ¬ w4.heap.size = w1.heap.size := by omega
    have y4_3 : ¬ w4.heap.size + 1 = w1.heap.size := by omega
    have HU4 : Hid (Up w w4) := Lib.hid (by ((repeat (first | (with_reducible exact Up.refl _) | (with_reducible exact HU3.out) | (with_reducible refine Up.trans ?_ hu4) | (with_reducible refine Up.alloc ?_ _ _) | (with_reducible refine Up.setCell ?_ ?_ _) | (with_reducible refine Up.drewN ?_ _) | (with_reducible refine Up.drew ?_))); all_goals (first | (simp; done) | (simp; omega) | omega)))
    clear hu4 c3_0 c3_1 c3_2 c3_3 c3_4 c3_5 c3_6 c3_7 c3_8 c3_9 c3_10 c3_11 c3_12 c3_13 c3_14 c3_15 c3_16 c3_17 c3_18 c3_19
    go_wp2_with fail
    refine (awakeb_up _).mono ?_
    rintro e w9 ⟨rfl, hu9⟩
    go_wp2
    go_ret
    refine ⟨rfl, Up.grown ?_⟩
    ((repeat (first | (with_reducible exact Up.refl _) | (with_reducible exact HU4.out) | (with_reducible refine Up.trans ?_ hu9) | (with_reducible refine Up.alloc ?_ _ _) | (with_reducible refine Up.setCell ?_ ?_ _) | (with_reducible refine Up.drewN ?_ _) | (with_reducible refine Up.drew ?_))); all_goals (first | (simp; done) | (simp; omega) | omega))
  obtain ⟨rfl, rfl⟩ := HT.out rfl rfl
  clear HT
  go_enter Try.func10, Try.ntmps10
  go_wp2_with fail
  refine (H1.out _).mono ?_
  rintro e w1 ⟨rfl, hu1⟩
  try unfold got2
  have c1_0 := hu1.keep (w.heap.size) (0) (.int .i64 n1) (by simp [go_sem, *])
  have c1_1 := hu1.keep (w.heap.size) (1) (.int .i64 d1) (by simp [go_sem, *])
  have c1_2 := hu1.keep (w.heap.size) (2) (.int .i64 n2) (by simp [go_sem, *])
  have c1_3 := hu1.keep (w.heap.size) (3) (.int .i64 d2) (by simp [go_sem, *])
  have c1_4 := hu1.keep (w.heap.size) (4) (.int .i64 n3) (by simp [go_sem, *])
  have c1_5 := hu1.keep (w.heap.size) (5) (.int .i64 d3) (by simp [go_sem, *])
  have c1_6 := hu1.keep (w.heap.size + 1) (0) (.int .i64 m1) (by simp [go_sem, *])
  have c1_7 := hu1.keep (w.heap.size + 1) (1) (.int .i64 c1) (by simp [go_sem, *])
  have c1_8 := hu1.keep (w.heap.size + 1) (2) (.int .i64 m2) (by simp [go_sem, *])
  have c1_9 := hu1.keep (w.heap.size + 1) (3) (.int .i64 c2) (by simp [go_sem, *])
  have c1_10 := hu1.keep (w.heap.size + 1) (4) (.int .i64 m3) (by simp [go_sem, *])
  have c1_11 := hu1.keep (w.heap.size + 1) (5) (.int .i64 c3) (by simp [go_sem, *])
  have c1_12 := hu1.keep (w.heap.size + 1 + 1) (0) (.int .i64 n) (by simp [go_sem, *])
  have c1_13 := hu1.keep (w.heap.size + 1 + 1) (1) (.int .i64 d) (by simp [go_sem, *])
  have l1_0 : w.heap.size < w1.heap.size := World.block_lt_of_cell? _ _ c1_0
  have m1_0 : w.heap.size < w1.heap.size + 1 := by omega
  have n1_0 : w.heap.size < w1.heap.size + 1 + 1 := by omega
  have x1_0 : ¬ w1.heap.size = w.heap.size := by omega
  have y1_0 : ¬ w1.heap.size + 1 = w.heap.size := by omega
  have l1_1 : w.heap.size + 1 < w1.heap.size := World.block_lt_of_cell? _ _ c1_6
  have m1_1 : w.heap.size + 1 < w1.heap.size + 1 := by omega
  have n1_1 : w.heap.size + 1 < w1.heap.size + 1 + 1 := by omega
  have x1_1 : ¬ w1.heap.size = w.heap.size + 1 := by omega
  have y1_1 : ¬ w1.heap.size + 1 = w.heap.size + 1 := by omega
  have l1_2 : w.heap.size + 1 + 1 < w1.heap.size := World.block_lt_of_cell? _ _ c1_12
  have m1_2 : w.heap.size + 1 + 1 < w1.heap.size + 1 := by omega
  have n1_2 : w.heap.size + 1 + 1 < w1.heap.size + 1 + 1 := by omega
  have x1_2 : ¬ w1.heap.size = w.heap.size + 1 + 1 := by omega
  have y1_2 : ¬ w1.heap.size + 1 = w.heap.size + 1 + 1 := by omega
  have HU1 : Hid (Up w w1) := Lib.hid (by ((repeat (first | (with_reducible exact Up.refl _) | (with_reducible refine Up.trans ?_ hu1) | (with_reducible refine Up.alloc ?_ _ _) | (with_reducible refine Up.setCell ?_ ?_ _) | (with_reducible refine Up.drewN ?_ _) | (with_reducible refine Up.drew ?_))); all_goals (first | (simp; done) | (simp; omega) | omega)))
  clear hu1
  unfold gotB
  go_wp2_with fail
  refine (H2.out _).mono ?_
  rintro e w2 ⟨rfl, hu2⟩
  try unfold got2
  have c2_0 := hu2.keep (w.heap.size) (0) (.int .i64 n1) (by simp [go_sem, *])
  have c2_1 := hu2.keep (w.heap.size) (1) (.int .i64 d1) (by simp [go_sem, *])
  have c2_2 := hu2.keep (w.heap.size) (2) (.int .i64 n2) (by simp [go_sem, *])
  have c2_3 := hu2.keep (w.heap.size) (3) (.int .i64 d2) (by simp [go_sem, *])
  have c2_4 := hu2.keep (w.heap.size) (4) (.int .i64 n3) (by simp [go_sem, *])
  have c2_5 := hu2.keep (w.heap.size) (5) (.int .i64 d3) (by simp [go_sem, *])
  have c2_6 := hu2.keep (w.heap.size + 1) (0) (.int .i64 m1) (by simp [go_sem, *])
  have c2_7 := hu2.keep (w.heap.size + 1) (1) (.int .i64 c1) (by simp [go_sem, *])
  have c2_8 := hu2.keep (w.heap.size + 1) (2) (.int .i64 m2) (by simp [go_sem, *])
  have c2_9 := hu2.keep (w.heap.size + 1) (3) (.int .i64 c2) (by simp [go_sem, *])
  have c2_10 := hu2.keep (w.heap.size + 1) (4) (.int .i64 m3) (by simp [go_sem, *])
  have c2_11 := hu2.keep (w.heap.size + 1) (5) (.int .i64 c3) (by simp [go_sem, *])
  have c2_12 := hu2.keep (w.heap.size + 1 + 1) (0) (.int .i64 n) (by simp [go_sem, *])
  have c2_13 := hu2.keep (w.heap.size + 1 + 1) (1) (.int .i64 d) (by simp [go_sem, *])
  have c2_14 := hu2.keep (w1.heap.size) (0) (.int .i64 X1) (by simp [go_sem, *])
  have c2_15 := hu2.keep (w1.heap.size) (1) (.int .i64 X2) (by simp [go_sem, *])
  have c2_16 := hu2.keep (w1.heap.size) (2) (.int .i64 X3) (by simp [go_sem, *])
  have c2_17 := hu2.keep (w1.heap.size) (3) (.int .i64 X4) (by simp [go_sem, *])
  have c2_18 := hu2.keep (w1.heap.size) (4) (.int .i64 X5) (by simp [go_sem, *])
  have c2_19 := hu2.keep (w1.heap.size) (5) (.int .i64 X6) (by simp [go_sem, *])
  have l2_0 : w.heap.size < w2.heap.size := World.block_lt_of_cell? _ _ c2_0
  have m2_0 : w.heap.size < w2.heap.size + 1 := by omega
  have n2_0 : w.heap.size < w2.heap.size + 1 + 1 := by omega
  have x2_0 : ¬ w2.heap.size = w.heap.size := by omega
  have y2_0 : ¬ w2.heap.size + 1 = w.heap.size := by omega
  have l2_1 : w.heap.size + 1 < w2.heap.size := World.block_lt_of_cell? _ _ c2_6
  have m2_1 : w.heap.size + 1 < w2.heap.size + 1 := by omega
  have n2_1 : w.heap.size + 1 < w2.heap.size + 1 + 1 := by omega
  have x2_1 : ¬ w2.heap.size = w.heap.size + 1 := by omega
  have y2_1 : ¬ w2.heap.size + 1 = w.heap.size + 1 := by omega
  have l2_2 : w.heap.size + 1 + 1 < w2.heap.size := World.block_lt_of_cell? _ _ c2_12
  have m2_2 : w.heap.size + 1 + 1 < w2.heap.size + 1 := by omega
  have n2_2 : w.heap.size + 1 + 1 < w2.heap.size + 1 + 1 := by omega
  have x2_2 : ¬ w2.heap.size = w.heap.size + 1 + 1 := by omega
  have y2_2 : ¬ w2.heap.size + 1 = w.heap.size + 1 + 1 := by omega
  have l2_3 : w1.heap.size < w2.heap.size := World.block_lt_of_cell? _ _ c2_14
  have m2_3 : w1.heap.size < w2.heap.size + 1 := by omega
  have n2_3 : w1.heap.size < w2.heap.size + 1 + 1 := by omega
  have x2_3 : ¬ w2.heap.size = w1.heap.size := by omega
  have y2_3 : ¬ w2.heap.size + 1 = w1.heap.size := by omega
  have HU2 : Hid (Up w w2) := Lib.hid (by ((repeat (first | (with_reducible exact Up.refl _) | (with_reducible exact HU1.out) | (with_reducible refine Up.trans ?_ hu2) | (with_reducible refine Up.alloc ?_ _ _) | (with_reducible refine Up.setCell ?_ ?_ _) | (with_reducible refine Up.drewN ?_ _) | (with_reducible refine Up.drew ?_))); all_goals (first | (simp; done) | (simp; omega) | omega)))
  clear hu2 c1_0 c1_1 c1_2 c1_3 c1_4 c1_5 c1_6 c1_7 c1_8 c1_9 c1_10 c1_11 c1_12 c1_13
  unfold gotB
  go_wp2_with fail
  refine (H3.out _).mono ?_
  rintro e w3 ⟨rfl, hu3⟩
  try unfold got2
  have c3_0 := hu3.keep (w.heap.size) (0) (.int .i64 n1) (by simp [go_sem, *])
  have c3_1 := hu3.keep (w.heap.size) (1) (.int .i64 d1) (by simp [go_sem, *])
  have c3_2 := hu3.keep (w.heap.size) (2) (.int .i64 n2) (by simp [go_sem, *])
  have c3_3 := hu3.keep (w.heap.size) (3) (.int .i64 d2) (by simp [go_sem, *])
  have c3_4 := hu3.keep (w.heap.size) (4) (.int .i64 n3) (by simp [go_sem, *])
  have c3_5 := hu3.keep (w.heap.size) (5) (.int .i64 d3) (by simp [go_sem, *])
  have c3_6 := hu3.keep (w.heap.size + 1) (0) (.int .i64 m1) (by simp [go_sem, *])
  have c3_7 := hu3.keep (w.heap.size + 1) (1) (.int .i64 c1) (by simp [go_sem, *])
  have c3_8 := hu3.keep (w.heap.size + 1) (2) (.int .i64 m2) (by simp [go_sem, *])
  have c3_9 := hu3.keep (w.heap.size + 1) (3) (.int .i64 c2) (by simp [go_sem, *])
  have c3_10 := hu3.keep (w.heap.size + 1) (4) (.int .i64 m3) (by simp [go_sem, *])
  have c3_11 := hu3.keep (w.heap.size + 1) (5) (.int .i64 c3) (by simp [go_sem, *])
  have c3_12 := hu3.keep (w.heap.size + 1 + 1) (0) (.int .i64 n) (by simp [go_sem, *])
  have c3_13 := hu3.keep (w.heap.size + 1 + 1) (1) (.int .i64 d) (by simp [go_sem, *])
  have c3_14 := hu3.keep (w1.heap.size) (0) (.int .i64 X1) (by simp [go_sem, *])
  have c3_15 := hu3.keep (w1.heap.size) (1) (.int .i64 X2) (by simp [go_sem, *])
  have c3_16 := hu3.keep (w1.heap.size) (2) (.int .i64 X3) (by simp [go_sem, *])
  have c3_17 := hu3.keep (w1.heap.size) (3) (.int .i64 X4) (by simp [go_sem, *])
  have c3_18 := hu3.keep (w1.heap.size) (4) (.int .i64 X5) (by simp [go_sem, *])
  have c3_19 := hu3.keep (w1.heap.size) (5) (.int .i64 X6) (by simp [go_sem, *])
  have l3_0 : w.heap.size < w3.heap.size := World.block_lt_of_cell? _ _ c3_0
  have m3_0 : w.heap.size < w3.heap.size + 1 := by omega
  have n3_0 : w.heap.size < w3.heap.size + 1 + 1 := by omega
  have x3_0 : ¬ w3.heap.size = w.heap.size := by omega
  have y3_0 : ¬ w3.heap.size + 1 = w.heap.size := by omega
  have l3_1 : w.heap.size + 1 < w3.heap.size := World.block_lt_of_cell? _ _ c3_6
  have m3_1 : w.heap.size + 1 < w3.heap.size + 1 := by omega
  have n3_1 : w.heap.size + 1 < w3.heap.size + 1 + 1 := by omega
  have x3_1 : ¬ w3.heap.size = w.heap.size + 1 := by omega
  have y3_1 : ¬ w3.heap.size + 1 = w.heap.size + 1 := by omega
  have l3_2 : w.heap.size + 1 + 1 < w3.heap.size := World.block_lt_of_cell? _ _ c3_12
  have m3_2 : w.heap.size + 1 + 1 < w3.heap.size + 1 := by omega
  have n3_2 : w.heap.size + 1 + 1 < w3.heap.size + 1 + 1 := by omega
  have x3_2 : ¬ w3.heap.size = w.heap.size + 1 + 1 := by omega
  have y3_2 : ¬ w3.heap.size + 1 = w.heap.size + 1 + 1 := by omega
  have l3_3 : w1.heap.size < w3.heap.size := World.block_lt_of_cell? _ _ c3_14
  have m3_3 : w1.heap.size < w3.heap.size + 1 := by omega
  have n3_3 : w1.heap.size < w3.heap.size + 1 + 1 := by omega
  have x3_3 : ¬ w3.heap.size = w1.heap.size := by omega
  have y3_3 : ¬ w3.heap.size + 1 = w1.heap.size := by omega
  have HU3 : Hid (Up w w3) := Lib.hid (by ((repeat (first | (with_reducible exact Up.refl _) | (with_reducible exact HU2.out) | (with_reducible refine Up.trans ?_ hu3) | (with_reducible refine Up.alloc ?_ _ _) | (with_reducible refine Up.setCell ?_ ?_ _) | (with_reducible refine Up.drewN ?_ _) | (with_reducible refine Up.drew ?_))); all_goals (first | (simp; done) | (simp; omega) | omega)))
  clear hu3 c2_0 c2_1 c2_2 c2_3 c2_4 c2_5 c2_6 c2_7 c2_8 c2_9 c2_10 c2_11 c2_12 c2_13 c2_14 c2_15 c2_16 c2_17 c2_18 c2_19
  go_wp2_with fail
  refine (H4.out _).mono ?_
  rintro e w4 ⟨rfl, hu4⟩
  try unfold got2
  have c4_0 := hu4.keep (w.heap.size) (0) (.int .i64 n1) (by simp [go_sem, *])
  have c4_1 := hu4.keep (w.heap.size) (1) (.int .i64 d1) (by simp [go_sem, *])
  have c4_2 := hu4.keep (w.heap.size) (2) (.int .i64 n2) (by simp [go_sem, *])
  have c4_3 := hu4.keep (w.heap.size) (3) (.int .i64 d2) (by simp [go_sem, *])
  have c4_4 := hu4.keep (w.heap.size) (4) (.int .i64 n3) (by simp [go_sem, *])
  have c4_5 := hu4.keep (w.heap.size) (5) (.int .i64 d3) (by simp [go_sem, *])
  have c4_6 := hu4.keep (w.heap.size + 1) (0) (.int .i64 m1) (by simp [go_sem, *])
  have c4_7 := hu4.keep (w.heap.size + 1) (1) (.int .i64 c1) (by simp [go_sem, *])
  have c4_8 := hu4.keep (w.heap.size + 1) (2) (.int .i64 m2) (by simp [go_sem, *])
  have c4_9 := hu4.keep (w.heap.size + 1) (3) (.int .i64 c2) (by simp [go_sem, *])
  have c4_10 := hu4.keep (w.heap.size + 1) (4) (.int .i64 m3) (by simp [go_sem, *])
  have c4_11 := hu4.keep (w.heap.size + 1) (5) (.int .i64 c3) (by simp [go_sem, *])
  have c4_12 := hu4.keep (w.heap.size + 1 + 1) (0) (.int .i64 n) (by simp [go_sem, *])
  have c4_13 := hu4.keep (w.heap.size + 1 + 1) (1) (.int .i64 d) (by simp [go_sem, *])
  have c4_14 := hu4.keep (w1.heap.size) (0) (.int .i64 X1) (by simp [go_sem, *])
  have c4_15 := hu4.keep (w1.heap.size) (1) (.int .i64 X2) (by simp [go_sem, *])
  have c4_16 := hu4.keep (w1.heap.size) (2) (.int .i64 X3) (by simp [go_sem, *])
  have c4_17 := hu4.keep (w1.heap.size) (3) (.int .i64 X4) (by simp [go_sem, *])
  have c4_18 := hu4.keep (w1.heap.size) (4) (.int .i64 X5) (by simp [go_sem, *])
  have c4_19 := hu4.keep (w1.heap.size) (5) (.int .i64 X6) (by simp [go_sem, *])
  have l4_0 : w.heap.size < w4.heap.size := World.block_lt_of_cell? _ _ c4_0
  have m4_0 : w.heap.size < w4.heap.size + 1 := by omega
  have n4_0 : w.heap.size < w4.heap.size + 1 + 1 := by omega
  have x4_0 : ¬ w4.heap.size = w.heap.size := by omega
  have y4_0 : ¬ w4.heap.size + 1 = w.heap.size := by omega
  have l4_1 : w.heap.size + 1 < w4.heap.size := World.block_lt_of_cell? _ _ c4_6
  have m4_1 : w.heap.size + 1 < w4.heap.size + 1 := by omega
  have n4_1 : w.heap.size + 1 < w4.heap.size + 1 + 1 := by omega
  have x4_1 : ¬ w4.heap.size = w.heap.size + 1 := by omega
  have y4_1 : ¬ w4.heap.size + 1 = w.heap.size + 1 := by omega
  have l4_2 : w.heap.size + 1 + 1 < w4.heap.size := World.block_lt_of_cell? _ _ c4_12
  have m4_2 : w.heap.size + 1 + 1 < w4.heap.size + 1 := by omega
  have n4_2 : w.heap.size + 1 + 1 < w4.heap.size + 1 + 1 := by omega
  have x4_2 : ¬ w4.heap.size = w.heap.size + 1 + 1 := by omega
  have y4_2 : ¬ w4.heap.size + 1 = w.heap.size + 1 + 1 := by omega
  have l4_3 : w1.heap.size < w4.heap.size := World.block_lt_of_cell? _ _ c4_14
  have m4_3 : w1.heap.size < w4.heap.size + 1 := by omega
  have n4_3 : w1.heap.size < w4.heap.size + 1 + 1 := by omega
  have x4_3 : ¬ w4.heap.size = w1.heap.size := by omega
  have y4_3 : ¬ w4.heap.size + 1 = w1.heap.size := by omega
  have HU4 : Hid (Up w w4) := Lib.hid (by ((repeat (first | (with_reducible exact Up.refl _) | (with_reducible exact HU3.out) | (with_reducible refine Up.trans ?_ hu4) | (with_reducible refine Up.alloc ?_ _ _) | (with_reducible refine Up.setCell ?_ ?_ _) | (with_reducible refine Up.drewN ?_ _) | (with_reducible refine Up.drew ?_))); all_goals (first | (simp; done) | (simp; omega) | omega)))
  clear hu4 c3_0 c3_1 c3_2 c3_3 c3_4 c3_5 c3_6 c3_7 c3_8 c3_9 c3_10 c3_11 c3_12 c3_13 c3_14 c3_15 c3_16 c3_17 c3_18 c3_19
  go_wp2_with fail
  refine (H5.out _).mono ?_
  rintro e w5 ⟨rfl, hu5⟩
  try unfold got2
  have c5_0 := hu5.keep (w.heap.size) (0) (.int .i64 n1) (by simp [go_sem, *])
  have c5_1 := hu5.keep (w.heap.size) (1) (.int .i64 d1) (by simp [go_sem, *])
  have c5_2 := hu5.keep (w.heap.size) (2) (.int .i64 n2) (by simp [go_sem, *])
  have c5_3 := hu5.keep (w.heap.size) (3) (.int .i64 d2) (by simp [go_sem, *])
  have c5_4 := hu5.keep (w.heap.size) (4) (.int .i64 n3) (by simp [go_sem, *])
  have c5_5 := hu5.keep (w.heap.size) (5) (.int .i64 d3) (by simp [go_sem, *])
  have c5_6 := hu5.keep (w.heap.size + 1) (0) (.int .i64 m1) (by simp [go_sem, *])
  have c5_7 := hu5.keep (w.heap.size + 1) (1) (.int .i64 c1) (by simp [go_sem, *])
  have c5_8 := hu5.keep (w.heap.size + 1) (2) (.int .i64 m2) (by simp [go_sem, *])
  have c5_9 := hu5.keep (w.heap.size + 1) (3) (.int .i64 c2) (by simp [go_sem, *])
  have c5_10 := hu5.keep (w.heap.size + 1) (4) (.int .i64 m3) (by simp [go_sem, *])
  have c5_11 := hu5.keep (w.heap.size + 1) (5) (.int .i64 c3) (by simp [go_sem, *])
  have c5_12 := hu5.keep (w.heap.size + 1 + 1) (0) (.int .i64 n) (by simp [go_sem, *])
  have c5_13 := hu5.keep (w.heap.size + 1 + 1) (1) (.int .i64 d) (by simp [go_sem, *])
  have c5_14 := hu5.keep (w1.heap.size) (0) (.int .i64 X1) (by simp [go_sem, *])
  have c5_15 := hu5.keep (w1.heap.size) (1) (.int .i64 X2) (by simp [go_sem, *])
  have c5_16 := hu5.keep (w1.heap.size) (2) (.int .i64 X3) (by simp [go_sem, *])
  have c5_17 := hu5.keep (w1.heap.size) (3) (.int .i64 X4) (by simp [go_sem, *])
  have c5_18 := hu5.keep (w1.heap.size) (4) (.int .i64 X5) (by simp [go_sem, *])
  have c5_19 := hu5.keep (w1.heap.size) (5) (.int .i64 X6) (by simp [go_sem, *])
  have l5_0 : w.heap.size < w5.heap.size := World.block_lt_of_cell? _ _ c5_0
  have m5_0 : w.heap.size < w5.heap.size + 1 := by omega
  have n5_0 : w.heap.size < w5.heap.size + 1 + 1 := by omega
  have x5_0 : ¬ w5.heap.size = w.heap.size := by omega
  have y5_0 : ¬ w5.heap.size + 1 = w.heap.size := by omega
  have l5_1 : w.heap.size + 1 < w5.heap.size := World.block_lt_of_cell? _ _ c5_6
  have m5_1 : w.heap.size + 1 < w5.heap.size + 1 := by omega
  have n5_1 : w.heap.size + 1 < w5.heap.size + 1 + 1 := by omega
  have x5_1 : ¬ w5.heap.size = w.heap.size + 1 := by omega
  have y5_1 : ¬ w5.heap.size + 1 = w.heap.size + 1 := by omega
  have l5_2 : w.heap.size + 1 + 1 < w5.heap.size := World.block_lt_of_cell? _ _ c5_12
  have m5_2 : w.heap.size + 1 + 1 < w5.heap.size + 1 := by omega
  have n5_2 : w.heap.size + 1 + 1 < w5.heap.size + 1 + 1 := by omega
  have x5_2 : ¬ w5.heap.size = w.heap.size + 1 + 1 := by omega
  have y5_2 : ¬ w5.heap.size + 1 = w.heap.size + 1 + 1 := by omega
  have l5_3 : w1.heap.size < w5.heap.size := World.block_lt_of_cell? _ _ c5_14
  have m5_3 : w1.heap.size < w5.heap.size + 1 := by omega
  have n5_3 : w1.heap.size < w5.heap.size + 1 + 1 := by omega
  have x5_3 : ¬ w5.heap.size = w1.heap.size := by omega
  have y5_3 : ¬ w5.heap.size + 1 = w1.heap.size := by omega
  have HU5 : Hid (Up w w5) := Lib.hid (by ((repeat (first | (with_reducible exact Up.refl _) | (with_reducible exact HU4.out) | (with_reducible refine Up.trans ?_ hu5) | (with_reducible refine Up.alloc ?_ _ _) | (with_reducible refine Up.setCell ?_ ?_ _) | (with_reducible refine Up.drewN ?_ _) | (with_reducible refine Up.drew ?_))); all_goals (first | (simp; done) | (simp; omega) | omega)))
  clear hu5 c4_0 c4_1 c4_2 c4_3 c4_4 c4_5 c4_6 c4_7 c4_8 c4_9 c4_10 c4_11 c4_12 c4_13 c4_14 c4_15 c4_16 c4_17 c4_18 c4_19
  go_wp2_with fail
  refine (awakeb_up _).mono ?_
  rintro e w9 ⟨rfl, hu9⟩
  go_wp2
  go_ret
  refine ⟨rfl, Up.grown ?_⟩
  ((repeat (first | (with_reducible exact Up.refl _) | (with_reducible exact HU5.out) | (with_reducible refine Up.trans ?_ hu9) | (with_reducible refine Up.alloc ?_ _ _) | (with_reducible refine Up.setCell ?_ ?_ _) | (with_reducible refine Up.drewN ?_ _) | (with_reducible refine Up.drew ?_))); all_goals (first | (simp; done) | (simp; omega) | omega))

set_option maxRecDepth 100000 in
theorem boundsMeets_lifted (os : Os) (started : os.Started) (H : Type) (enc : TypeId × Value → H) :
    ReturnsInHanded {} Try.checked os 10 .any (Rows.boundsMeetsSpec.pre6 enc Try.prog Try.f10 Rows.boundsMeetsRow.domain false) (Rows.boundsMeetsSpec.post enc Try.prog Try.f10 false true false false) := by
  refine returnsInHanded_of_change (C := Try.checked) boundsMeets_own started (by kernel_rfl) Try.func10
    (ChangeSpec.witness6 (enc := enc) (C := Try.checked) false ⟨#[], #[.agg #[.int .i64 0, .int .i64 0, .int .i64 0, .int .i64 0, .int .i64 0, .int .i64 0], .agg #[.int .i64 0, .int .i64 0, .int .i64 0, .int .i64 0, .int .i64 0, .int .i64 0], .agg #[.int .i64 0, .int .i64 0]], []⟩ 8 (by kernel_rfl) (by kernel_rfl) (by kernel_rfl) (by kernel_rfl)) ?_
  intro W base args ds gs before hval0 hW hcnd _
  have hval : ∀ (j : Nat) t v, Try.f10.params[j]? = some t → args[j]? = some v → Value.okWide Try.prog W .any base t v := hval0
  have hW' := hW
  obtain ⟨p, q, hA0, hV, rfl, hfz, hnd⟩ := hW
  have hA : DataW.TrodAll enc Try.prog W 0 (fun _ => true) true Try.f10.params.toList args.toList ds p := hA0
  rw [Try.params10] at hA hval
  obtain ⟨v0, vs0, d0, ds0, p0, q0, hargs, rfl, rfl, h0, r0⟩ := trodAll_cons hA
  obtain ⟨v1, vs1, d1, ds1, p1, q1, rfl, rfl, rfl, h1, r1⟩ := trodAll_cons r0
  obtain ⟨v2, vs2, d2, ds2, p2, q2, rfl, rfl, rfl, h2, r2⟩ := trodAll_cons r1
  obtain ⟨rfl, rfl, rfl⟩ := trodAll_nil r2
  obtain rfl : args = #[v0, v1, v2] := by cases args; simp_all
  obtain ⟨rfl, rfl⟩ := trodVars_none hV
  obtain ⟨a00, a01, a02, a03, a04, a05, rfl, rfl, rfl, k00, k01, k02, k03, k04, k05⟩ := open_bounds (hval 0 25 v0 rfl rfl) h0
  obtain ⟨a10, a11, a12, a13, a14, a15, rfl, rfl, rfl, k10, k11, k12, k13, k14, k15⟩ := open_bounds (hval 1 25 v1 rfl rfl) h1
  obtain ⟨ca2, cb2, ya2, yb2, m2, rfl, rfl, rfl, hya2, hyb2⟩ := open_agg2 Try.underlying23 (by kernel_rfl) boundsMeets_cellsr (hval 2 23 v2 rfl rfl) h2
  obtain ⟨a2, ea2, rfl, w2⟩ := DataW.trod_int Try.underlying2 hya2
  obtain ⟨b2, eb2, rfl, x2⟩ := DataW.trod_int Try.underlying2 hyb2
  simp at ea2 eb2
  subst ea2 eb2
  clear hA0 hval0
  simp only [List.append_nil] at hW'
  refine (boundsMeets_walk a00 a01 a02 a03 a04 a05 a10 a11 a12 a13 a14 a15 a2 b2 k00 k01 k02 k03 k04 k05 k10 k11 k12 k13 k14 k15 w2 x2 W).mono fun e W' ⟨he, hg⟩ => ?_
  subst he
  exact ⟨_, rfl, post_of_same (pa := []) (pv := []) hW' (fun _ _ _ => (trodAll_cons_mk (shut_bool Try.underlying4 _) trodAll_mk0)) (fun sp _ => (trodAll_cons_mk (shut_bounds k00 k01 k02 k03 k04 k05) (trodAll_cons_mk (shut_bounds k10 k11 k12 k13 k14 k15) (trodAll_cons_mk (shut_agg2 (y0 := (.lit (.int .i64 a2), [])) (y1 := (.lit (.int .i64 b2), [])) Try.underlying23 (by kernel_rfl) boundsMeets_cellsr ⟨1, by simp [DataW.trod, Try.underlying2, w2]⟩ ⟨1, by simp [DataW.trod, Try.underlying2, x2]⟩) trodAll_mk0)))) (fun _ _ => rfl) rfl
    (hg.frame _) hg.2.1 (ok_one (by kernel_rfl) rfl (okWide_bool_mk Try.underlying4 _))⟩

theorem boundsMeets_over : Rows.boundsMeetsRow.holds Try.pinned (OpenSpec.ofChange Rows.boundsMeetsSpec) :=
  OpenClaim.holds_of_wide 10 Try.f10 rfl rfl rfl rfl rfl rfl rfl ⟨rfl, rfl, rfl, rfl, rfl⟩ rfl rfl rfl rfl rfl (by kernel_rfl) Try.func10 (by kernel_rfl)
    (of_decide_eq_true (by kernel_rfl)) (by unfold Func.isWrapper; first | (rw [if_pos (by decide +kernel)]; kernel_rfl) | (rw [if_neg (by decide +kernel)]; exact ⟨rfl, rfl⟩))
    (fun os started H enc _ => boundsMeets_lifted os started H enc)

theorem boundsMeets_holds : Rows.BoundsMeetsSaid :=
  boundsMeets_over
#print axioms boundsMeets_holds
end Go.Proofs.Ytgafcpklocccdaa
