/- What Meet of the reference of package bounds returns, where the first Lo is less, and the first Hi is greater. -/
import Derived.Test.YtgafcpklocccdaaBValid
import Derived.Test.YtgafcpklocccdaaBMeetM
import Derived.Test.YtgafcpklocccdaaBKeep
namespace Go.Proofs.Ytgafcpklocccdaa
open Go.RowKit

set_option maxHeartbeats 4000000 in
set_option maxRecDepth 100000 in
theorem rmeet_0 (n1 d1 n2 d2 n3 d3 m1 c1 m2 c2 m3 c3 : Int) (in1 : In n1) (id1 : In d1) (in2 : In n2) (id2 : In d2) (in3 : In n3) (id3 : In d3) (im1 : In m1) (ic1 : In c1) (im2 : In m2) (ic2 : In c2) (im3 : In m3) (ic3 : In c3) (va : bvB n1 d1 n2 d2 n3 d3 = true) (vb : bvB m1 c1 m2 c2 m3 c3 = true) (s1 : decide (cmpR n1 d1 m1 c1 < 0) = true) (s2 : decide (0 < cmpR n3 d3 m3 c3) = true) (w : World) :
    Calls Try.prog 28 #[.agg #[.int .i64 n1, .int .i64 d1, .int .i64 n2, .int .i64 d2, .int .i64 n3, .int .i64 d3], .agg #[.int .i64 m1, .int .i64 c1, .int .i64 m2, .int .i64 c2, .int .i64 m3, .int .i64 c3]] w fun e w' => e = meet2 m1 c1 n2 d2 m3 c3 ∧ Up w w' := by
  have H1 := Lib.hid (fun W => rbvalid_up n1 d1 n2 d2 n3 d3 in1 id1 in2 id2 in3 id3 W)
  have H2 := Lib.hid (fun W => rbvalid_up m1 c1 m2 c2 m3 c3 im1 ic1 im2 ic2 im3 ic3 W)
  rw [va] at H1
  rw [vb] at H2
  have H3 := Lib.hid (fun W => rcomparer_up m1 c1 n1 d1 im1 ic1 in1 id1 W)
  have H4 := Lib.hid (fun W => rcomparer_up m3 c3 n3 d3 im3 ic3 in3 id3 W)
  rw [← cmpR_anti_pos] at s1
  rw [← cmpR_anti_neg] at s2
  have H5 := Lib.hid (fun W => rcomparer_up m1 c1 m3 c3 im1 ic1 im3 ic3 W)
  have H6 := Lib.hid (fun W => rcomparer_up n2 d2 m1 c1 in2 id2 im1 ic1 W)
  have H7 := Lib.hid (fun W => rcomparer_up m1 c1 m3 c3 im1 ic1 im3 ic3 W)
  have H8 := Lib.hid (fun W => rcomparer_up n2 d2 m3 c3 in2 id2 im3 ic3 W)
  by_cases t5 : 0 < cmpR m1 c1 m3 c3
  · have t := decide_eq_true t5
    have HE := Lib.hid (meet2_yes (l := m1) (lD := c1) (e := n2) (eD := d2) (h := m3) (hD := c3) t)
    rw [HE.out]
    generalize cmpR m1 c1 n1 d1 = x3 at *
    generalize cmpR m3 c3 n3 d3 = x4 at *
    clear in1 id1 in2 id2 in3 id3 im1 ic1 im2 ic2 im3 ic3 va vb
    generalize cmpR m1 c1 m3 c3 = x5 at *
    clear t5 HE
    go_enter Try.func28, Try.ntmps28
    go_wp2_with fail
    refine (H1.out _).mono ?_
    rintro e w1 ⟨rfl, hu1⟩
    try unfold got2
    have c1_0 := hu1.keep (w.heap.size) (0) (.int .i64 n1) (by simp [go_sem, *])
    have c1_1 := hu1.keep (w.heap.size) (1) (.int .i64 d1) (by simp [go_sem, *])
    have c1_2 := hu1.keep (w.heap.size) (2) (.int .i64 n2) (by simp [go_sem, *])
    have c1_3 := hu1.keep (w.heap.size) (3) (.int .i64 d2) (by simp [go_sem, *])
    have c1_4 := hu1.keep (w.heap.size) (4) (.int .i64 n3) (by simp [go_sem, *])
    have c1_5 := hu1.keep (w.heap.size) (5) (.int .i64 d3) (by simp [go_sem, *])
    have c1_6 := hu1.keep (w.heap.size + 1) (0) (.int .i64 m1) (by simp [go_sem, *])
    have c1_7 := hu1.keep (w.heap.size + 1) (1) (.int .i64 c1) (by simp [go_sem, *])
    have c1_8 := hu1.keep (w.heap.size + 1) (2) (.int .i64 m2) (by simp [go_sem, *])
    have c1_9 := hu1.keep (w.heap.size + 1) (3) (.int .i64 c2) (by simp [go_sem, *])
    have c1_10 := hu1.keep (w.heap.size + 1) (4) (.int .i64 m3) (by simp [go_sem, *])
    have c1_11 := hu1.keep (w.heap.size + 1) (5) (.int .i64 c3) (by simp [go_sem, *])
    have c1_12 := hu1.keep (w.heap.size + 1 + 1) (0) (.int .i64 0) (by simp [go_sem, *])
    have c1_13 := hu1.keep (w.heap.size + 1 + 1) (1) (.int .i64 0) (by simp [go_sem, *])
    have c1_14 := hu1.keep (w.heap.size + 1 + 1) (2) (.int .i64 0) (by simp [go_sem, *])
    have c1_15 := hu1.keep (w.heap.size + 1 + 1) (3) (.int .i64 0) (by simp [go_sem, *])
    have c1_16 := hu1.keep (w.heap.size + 1 + 1) (4) (.int .i64 0) (by simp [go_sem, *])
    have c1_17 := hu1.keep (w.heap.size + 1 + 1) (5) (.int .i64 0) (by simp [go_sem, *])
    have l1_0 : w.heap.size < w1.heap.size := World.block_lt_of_cell? _ _ c1_0
    have m1_0 : w.heap.size < w1.heap.size + 1 := by omega
    have n1_0 : w.heap.size < w1.heap.size + 1 + 1 := by omega
    have x1_0 : ¬ w1.heap.size = w.heap.size := by omega
    have y1_0 : ¬ w1.heap.size + 1 = w.heap.size := by omega
    have l1_1 : w.heap.size + 1 < w1.heap.size := World.block_lt_of_cell? _ _ c1_6
    have m1_1 : w.heap.size + 1 < w1.heap.size + 1 := by omega
    have n1_1 : w.heap.size + 1 < w1.heap.size + 1 + 1 := by omega
    have x1_1 : ¬ w1.heap.size = w.heap.size + 1 := by omega
    have y1_1 : ¬ w1.heap.size + 1 = w.heap.size + 1 := by omega
    have l1_2 : w.heap.size + 1 + 1 < w1.heap.size := World.block_lt_of_cell? _ _ c1_12
    have m1_2 : w.heap.size + 1 + 1 < w1.heap.size + 1 := by omega
    have n1_2 : w.heap.size + 1 + 1 < w1.heap.size + 1 + 1 := by omega
    have x1_2 : ¬ w1.heap.size = w.heap.size + 1 + 1 := by omega
    have y1_2 : ¬ w1.heap.size + 1 = w.heap.size + 1 + 1 := by omega
    have HU1 : Hid (Up w w1) := Lib.hid (by ((repeat (first | (with_reducible exact Up.refl _) | (with_reducible refine Up.trans ?_ hu1) | (with_reducible refine Up.alloc ?_ _ _) | (with_reducible refine Up.setCell ?_ ?_ _) | (with_reducible refine Up.drewN ?_ _) | (with_reducible refine Up.drew ?_))); all_goals (first | (simp; done) | (simp; omega) | omega)))
    clear hu1
    go_wp2_with fail
    refine (H2.out _).mono ?_
    rintro e w2 ⟨rfl, hu2⟩
    try unfold got2
    have c2_0 := hu2.keep (w.heap.size) (0) (.int .i64 n1) (by simp [go_sem, *])
    have c2_1 := hu2.keep (w.heap.size) (1) (.int .i64 d1) (by simp [go_sem, *])
    have c2_2 := hu2.keep (w.heap.size) (2) (.int .i64 n2) (by simp [go_sem, *])
    have c2_3 := hu2.keep (w.heap.size) (3) (.int .i64 d2) (by simp [go_sem, *])
    have c2_4 := hu2.keep (w.heap.size) (4) (.int .i64 n3) (by simp [go_sem, *])
    have c2_5 := hu2.keep (w.heap.size) (5) (.int .i64 d3) (by simp [go_sem, *])
    have c2_6 := hu2.keep (w.heap.size + 1) (0) (.int .i64 m1) (by simp [go_sem, *])
    have c2_7 := hu2.keep (w.heap.size + 1) (1) (.int .i64 c1) (by simp [go_sem, *])
    have c2_8 := hu2.keep (w.heap.size + 1) (2) (.int .i64 m2) (by simp [go_sem, *])
    have c2_9 := hu2.keep (w.heap.size + 1) (3) (.int .i64 c2) (by simp [go_sem, *])
    have c2_10 := hu2.keep (w.heap.size + 1) (4) (.int .i64 m3) (by simp [go_sem, *])
    have c2_11 := hu2.keep (w.heap.size + 1) (5) (.int .i64 c3) (by simp [go_sem, *])
    have c2_12 := hu2.keep (w.heap.size + 1 + 1) (0) (.int .i64 0) (by simp [go_sem, *])
    have c2_13 := hu2.keep (w.heap.size + 1 + 1) (1) (.int .i64 0) (by simp [go_sem, *])
    have c2_14 := hu2.keep (w.heap.size + 1 + 1) (2) (.int .i64 0) (by simp [go_sem, *])
    have c2_15 := hu2.keep (w.heap.size + 1 + 1) (3) (.int .i64 0) (by simp [go_sem, *])
    have c2_16 := hu2.keep (w.heap.size + 1 + 1) (4) (.int .i64 0) (by simp [go_sem, *])
    have c2_17 := hu2.keep (w.heap.size + 1 + 1) (5) (.int .i64 0) (by simp [go_sem, *])
    have l2_0 : w.heap.size < w2.heap.size := World.block_lt_of_cell? _ _ c2_0
    have m2_0 : w.heap.size < w2.heap.size + 1 := by omega
    have n2_0 : w.heap.size < w2.heap.size + 1 + 1 := by omega
    have x2_0 : ¬ w2.heap.size = w.heap.size := by omega
    have y2_0 : ¬ w2.heap.size + 1 = w.heap.size := by omega
    have l2_1 : w.heap.size + 1 < w2.heap.size := World.block_lt_of_cell? _ _ c2_6
    have m2_1 : w.heap.size + 1 < w2.heap.size + 1 := by omega
    have n2_1 : w.heap.size + 1 < w2.heap.size + 1 + 1 := by omega
    have x2_1 : ¬ w2.heap.size = w.heap.size + 1 := by omega
    have y2_1 : ¬ w2.heap.size + 1 = w.heap.size + 1 := by omega
    have l2_2 : w.heap.size + 1 + 1 < w2.heap.size := World.block_lt_of_cell? _ _ c2_12
    have m2_2 : w.heap.size + 1 + 1 < w2.heap.size + 1 := by omega
    have n2_2 : w.heap.size + 1 + 1 < w2.heap.size + 1 + 1 := by omega
    have x2_2 : ¬ w2.heap.size = w.heap.size + 1 + 1 := by omega
    have y2_2 : ¬ w2.heap.size + 1 = w.heap.size + 1 + 1 := by omega
    have HU2 : Hid (Up w w2) := Lib.hid (by ((repeat (first | (with_reducible exact Up.refl _) | (with_reducible exact HU1.out) | (with_reducible refine Up.trans ?_ hu2) | (with_reducible refine Up.alloc ?_ _ _) | (with_reducible refine Up.setCell ?_ ?_ _) | (with_reducible refine Up.drewN ?_ _) | (with_reducible refine Up.drew ?_))); all_goals (first | (simp; done) | (simp; omega) | omega)))
    clear hu2 c1_0 c1_1 c1_2 c1_3 c1_4 c1_5 c1_6 c1_7 c1_8 c1_9 c1_10 c1_11 c1_12 c1_13 c1_14 c1_15 c1_16 c1_17
    go_wp2_with fail
    refine (H3.out _).mono ?_
    rintro e w3 ⟨rfl, hu3⟩
    try unfold got2
    have c3_0 := hu3.keep (w.heap.size) (0) (.int .i64 n1) (by simp [go_sem, *])
    have c3_1 := hu3.keep (w.heap.size) (1) (.int .i64 d1) (by simp [go_sem, *])
    have c3_2 := hu3.keep (w.heap.size) (2) (.int .i64 n2) (by simp [go_sem, *])
    have c3_3 := hu3.keep (w.heap.size) (3) (.int .i64 d2) (by simp [go_sem, *])
    have c3_4 := hu3.keep (w.heap.size) (4) (.int .i64 n3) (by simp [go_sem, *])
    have c3_5 := hu3.keep (w.heap.size) (5) (.int .i64 d3) (by simp [go_sem, *])
    have c3_6 := hu3.keep (w.heap.size + 1) (0) (.int .i64 m1) (by simp [go_sem, *])
    have c3_7 := hu3.keep (w.heap.size + 1) (1) (.int .i64 c1) (by simp [go_sem, *])
    have c3_8 := hu3.keep (w.heap.size + 1) (2) (.int .i64 m2) (by simp [go_sem, *])
    have c3_9 := hu3.keep (w.heap.size + 1) (3) (.int .i64 c2) (by simp [go_sem, *])
    have c3_10 := hu3.keep (w.heap.size + 1) (4) (.int .i64 m3) (by simp [go_sem, *])
    have c3_11 := hu3.keep (w.heap.size + 1) (5) (.int .i64 c3) (by simp [go_sem, *])
    have c3_12 := hu3.keep (w.heap.size + 1 + 1) (0) (.int .i64 0) (by simp [go_sem, *])
    have c3_13 := hu3.keep (w.heap.size + 1 + 1) (1) (.int .i64 0) (by simp [go_sem, *])
    have c3_14 := hu3.keep (w.heap.size + 1 + 1) (2) (.int .i64 0) (by simp [go_sem, *])
    have c3_15 := hu3.keep (w.heap.size + 1 + 1) (3) (.int .i64 0) (by simp [go_sem, *])
    have c3_16 := hu3.keep (w.heap.size + 1 + 1) (4) (.int .i64 0) (by simp [go_sem, *])
    have c3_17 := hu3.keep (w.heap.size + 1 + 1) (5) (.int .i64 0) (by simp [go_sem, *])
    have c3_18 := hu3.keep (w2.heap.size) (0) (.int .i64 n1) (by simp [go_sem, *])
    have c3_19 := hu3.keep (w2.heap.size) (1) (.int .i64 d1) (by simp [go_sem, *])
    have c3_20 := hu3.keep (w2.heap.size) (2) (.int .i64 n2) (by simp [go_sem, *])
    have c3_21 := hu3.keep (w2.heap.size) (3) (.int .i64 d2) (by simp [go_sem, *])
    have c3_22 := hu3.keep (w2.heap.size) (4) (.int .i64 n3) (by simp [go_sem, *])
    have c3_23 := hu3.keep (w2.heap.size) (5) (.int .i64 d3) (by simp [go_sem, *])
    have l3_0 : w.heap.size < w3.heap.size := World.block_lt_of_cell? _ _ c3_0
    have m3_0 : w.heap.size < w3.heap.size + 1 := by omega
    have n3_0 : w.heap.size < w3.heap.size + 1 + 1 := by omega
    have x3_0 : ¬ w3.heap.size = w.heap.size := by omega
    have y3_0 : ¬ w3.heap.size + 1 = w.heap.size := by omega
    have l3_1 : w.heap.size + 1 < w3.heap.size := World.block_lt_of_cell? _ _ c3_6
    have m3_1 : w.heap.size + 1 < w3.heap.size + 1 := by omega
    have n3_1 : w.heap.size + 1 < w3.heap.size + 1 + 1 := by omega
    have x3_1 : ¬ w3.heap.size = w.heap.size + 1 := by omega
    have y3_1 : ¬ w3.heap.size + 1 = w.heap.size + 1 := by omega
    have l3_2 : w.heap.size + 1 + 1 < w3.heap.size := World.block_lt_of_cell? _ _ c3_12
    have m3_2 : w.heap.size + 1 + 1 < w3.heap.size + 1 := by omega
    have n3_2 : w.heap.size + 1 + 1 < w3.heap.size + 1 + 1 := by omega
    have x3_2 : ¬ w3.heap.size = w.heap.size + 1 + 1 := by omega
    have y3_2 : ¬ w3.heap.size + 1 = w.heap.size + 1 + 1 := by omega
    have l3_3 : w2.heap.size < w3.heap.size := World.block_lt_of_cell? _ _ c3_18
    have m3_3 : w2.heap.size < w3.heap.size + 1 := by omega
    have n3_3 : w2.heap.size < w3.heap.size + 1 + 1 := by omega
    have x3_3 : ¬ w3.heap.size = w2.heap.size := by omega
    have y3_3 : ¬ w3.heap.size + 1 = w2.heap.size := by omega
    have HU3 : Hid (Up w w3) := Lib.hid (by ((repeat (first | (with_reducible exact Up.refl _) | (with_reducible exact HU2.out) | (with_reducible refine Up.trans ?_ hu3) | (with_reducible refine Up.alloc ?_ _ _) | (with_reducible refine Up.setCell ?_ ?_ _) | (with_reducible refine Up.drewN ?_ _) | (with_reducible refine Up.drew ?_))); all_goals (first | (simp; done) | (simp; omega) | omega)))
    clear hu3 c2_0 c2_1 c2_2 c2_3 c2_4 c2_5 c2_6 c2_7 c2_8 c2_9 c2_10 c2_11 c2_12 c2_13 c2_14 c2_15 c2_16 c2_17
    have y30 := HU3.out.ownGe (show w.heap.size ≤ w2.heap.size by omega) 0
    have y31 := HU3.out.ownGe (show w.heap.size ≤ w2.heap.size by omega) 1
    have y32 := HU3.out.ownGe (show w.heap.size ≤ w2.heap.size by omega) 2
    have y33 := HU3.out.ownGe (show w.heap.size ≤ w2.heap.size by omega) 3
    have y34 := HU3.out.ownGe (show w.heap.size ≤ w2.heap.size by omega) 4
    have y35 := HU3.out.ownGe (show w.heap.size ≤ w2.heap.size by omega) 5
    go_wp2_with fail
    refine (H4.out _).mono ?_
    rintro e w4 ⟨rfl, hu4⟩
    try unfold got2
    have c4_0 := hu4.keep (w.heap.size) (0) (.int .i64 n1) (by simp [go_sem, *])
    have c4_1 := hu4.keep (w.heap.size) (1) (.int .i64 d1) (by simp [go_sem, *])
    have c4_2 := hu4.keep (w.heap.size) (2) (.int .i64 n2) (by simp [go_sem, *])
    have c4_3 := hu4.keep (w.heap.size) (3) (.int .i64 d2) (by simp [go_sem, *])
    have c4_4 := hu4.keep (w.heap.size) (4) (.int .i64 n3) (by simp [go_sem, *])
    have c4_5 := hu4.keep (w.heap.size) (5) (.int .i64 d3) (by simp [go_sem, *])
    have c4_6 := hu4.keep (w.heap.size + 1) (0) (.int .i64 m1) (by simp [go_sem, *])
    have c4_7 := hu4.keep (w.heap.size + 1) (1) (.int .i64 c1) (by simp [go_sem, *])
    have c4_8 := hu4.keep (w.heap.size + 1) (2) (.int .i64 m2) (by simp [go_sem, *])
    have c4_9 := hu4.keep (w.heap.size + 1) (3) (.int .i64 c2) (by simp [go_sem, *])
    have c4_10 := hu4.keep (w.heap.size + 1) (4) (.int .i64 m3) (by simp [go_sem, *])
    have c4_11 := hu4.keep (w.heap.size + 1) (5) (.int .i64 c3) (by simp [go_sem, *])
    have c4_12 := hu4.keep (w.heap.size + 1 + 1) (0) (.int .i64 0) (by simp [go_sem, *])
    have c4_13 := hu4.keep (w.heap.size + 1 + 1) (1) (.int .i64 0) (by simp [go_sem, *])
    have c4_14 := hu4.keep (w.heap.size + 1 + 1) (2) (.int .i64 0) (by simp [go_sem, *])
    have c4_15 := hu4.keep (w.heap.size + 1 + 1) (3) (.int .i64 0) (by simp [go_sem, *])
    have c4_16 := hu4.keep (w.heap.size + 1 + 1) (4) (.int .i64 0) (by simp [go_sem, *])
    have c4_17 := hu4.keep (w.heap.size + 1 + 1) (5) (.int .i64 0) (by simp [go_sem, *])
    have c4_18 := hu4.keep (w2.heap.size) (0) (.int .i64 m1) (by simp [go_sem, *])
    have c4_19 := hu4.keep (w2.heap.size) (1) (.int .i64 c1) (by simp [go_sem, *])
    have c4_20 := hu4.keep (w2.heap.size) (2) (.int .i64 n2) (by simp [go_sem, *])
    have c4_21 := hu4.keep (w2.heap.size) (3) (.int .i64 d2) (by simp [go_sem, *])
    have c4_22 := hu4.keep (w2.heap.size) (4) (.int .i64 n3) (by simp [go_sem, *])
    have c4_23 := hu4.keep (w2.heap.size) (5) (.int .i64 d3) (by simp [go_sem, *])
    have l4_0 : w.heap.size < w4.heap.size := World.block_lt_of_cell? _ _ c4_0
    have m4_0 : w.heap.size < w4.heap.size + 1 := by omega
    have n4_0 : w.heap.size < w4.heap.size + 1 + 1 := by omega
    have x4_0 : ¬ w4.heap.size = w.heap.size := by omega
    have y4_0 : ¬ w4.heap.size + 1 = w.heap.size := by omega
    have l4_1 : w.heap.size + 1 < w4.heap.size := World.block_lt_of_cell? _ _ c4_6
    have m4_1 : w.heap.size + 1 < w4.heap.size + 1 := by omega
    have n4_1 : w.heap.size + 1 < w4.heap.size + 1 + 1 := by omega
    have x4_1 : ¬ w4.heap.size = w.heap.size + 1 := by omega
    have y4_1 : ¬ w4.heap.size + 1 = w.heap.size + 1 := by omega
    have l4_2 : w.heap.size + 1 + 1 < w4.heap.size := World.block_lt_of_cell? _ _ c4_12
    have m4_2 : w.heap.size + 1 + 1 < w4.heap.size + 1 := by omega
    have n4_2 : w.heap.size + 1 + 1 < w4.heap.size + 1 + 1 := by omega
    have x4_2 : ¬ w4.heap.size = w.heap.size + 1 + 1 := by omega
    have y4_2 : ¬ w4.heap.size + 1 = w.heap.size + 1 + 1 := by omega
    have l4_3 : w2.heap.size < w4.heap.size := World.block_lt_of_cell? _ _ c4_18
    have m4_3 : w2.heap.size < w4.heap.size + 1 := by omega
    have n4_3 : w2.heap.size < w4.heap.size + 1 + 1 := by omega
    have x4_3 : ¬ w4.heap.size = w2.heap.size := by omega
    have y4_3 : ¬ w4.heap.size + 1 = w2.heap.size := by omega
    have HU4 : Hid (Up w w4) := Lib.hid (by ((repeat (first | (with_reducible exact Up.refl _) | (with_reducible exact HU3.out) | (with_reducible refine Up.trans ?_ hu4) | (with_reducible refine Up.alloc ?_ _ _) | (with_reducible refine Up.setCell ?_ ?_ _) | (with_reducible refine Up.drewN ?_ _) | (with_reducible refine Up.drew ?_))); all_goals (first | (simp; done) | (simp; omega) | omega)))
    clear hu4 c3_0 c3_1 c3_2 c3_3 c3_4 c3_5 c3_6 c3_7 c3_8 c3_9 c3_10 c3_11 c3_12 c3_13 c3_14 c3_15 c3_16 c3_17 c3_18 c3_19 c3_20 c3_21 c3_22 c3_23
    have y40 := HU4.out.ownGe (show w.heap.size ≤ w2.heap.size by omega) 0
    have y41 := HU4.out.ownGe (show w.heap.size ≤ w2.heap.size by omega) 1
    have y42 := HU4.out.ownGe (show w.heap.size ≤ w2.heap.size by omega) 2
    have y43 := HU4.out.ownGe (show w.heap.size ≤ w2.heap.size by omega) 3
    have y44 := HU4.out.ownGe (show w.heap.size ≤ w2.heap.size by omega) 4
    have y45 := HU4.out.ownGe (show w.heap.size ≤ w2.heap.size by omega) 5
    go_wp2_with fail
    refine (H5.out _).mono ?_
    rintro e w5 ⟨rfl, hu5⟩
    try unfold got2
    have c5_0 := hu5.keep (w.heap.size) (0) (.int .i64 n1) (by simp [go_sem, *])
    have c5_1 := hu5.keep (w.heap.size) (1) (.int .i64 d1) (by simp [go_sem, *])
    have c5_2 := hu5.keep (w.heap.size) (2) (.int .i64 n2) (by simp [go_sem, *])
    have c5_3 := hu5.keep (w.heap.size) (3) (.int .i64 d2) (by simp [go_sem, *])
    have c5_4 := hu5.keep (w.heap.size) (4) (.int .i64 n3) (by simp [go_sem, *])
    have c5_5 := hu5.keep (w.heap.size) (5) (.int .i64 d3) (by simp [go_sem, *])
    have c5_6 := hu5.keep (w.heap.size + 1) (0) (.int .i64 m1) (by simp [go_sem, *])
    have c5_7 := hu5.keep (w.heap.size + 1) (1) (.int .i64 c1) (by simp [go_sem, *])
    have c5_8 := hu5.keep (w.heap.size + 1) (2) (.int .i64 m2) (by simp [go_sem, *])
    have c5_9 := hu5.keep (w.heap.size + 1) (3) (.int .i64 c2) (by simp [go_sem, *])
    have c5_10 := hu5.keep (w.heap.size + 1) (4) (.int .i64 m3) (by simp [go_sem, *])
    have c5_11 := hu5.keep (w.heap.size + 1) (5) (.int .i64 c3) (by simp [go_sem, *])
    have c5_12 := hu5.keep (w.heap.size + 1 + 1) (0) (.int .i64 0) (by simp [go_sem, *])
    have c5_13 := hu5.keep (w.heap.size + 1 + 1) (1) (.int .i64 0) (by simp [go_sem, *])
    have c5_14 := hu5.keep (w.heap.size + 1 + 1) (2) (.int .i64 0) (by simp [go_sem, *])
    have c5_15 := hu5.keep (w.heap.size + 1 + 1) (3) (.int .i64 0) (by simp [go_sem, *])
    have c5_16 := hu5.keep (w.heap.size + 1 + 1) (4) (.int .i64 0) (by simp [go_sem, *])
    have c5_17 := hu5.keep (w.heap.size + 1 + 1) (5) (.int .i64 0) (by simp [go_sem, *])
    have c5_18 := hu5.keep (w2.heap.size) (0) (.int .i64 m1) (by simp [go_sem, *])
    have c5_19 := hu5.keep (w2.heap.size) (1) (.int .i64 c1) (by simp [go_sem, *])
    have c5_20 := hu5.keep (w2.heap.size) (2) (.int .i64 n2) (by simp [go_sem, *])
    have c5_21 := hu5.keep (w2.heap.size) (3) (.int .i64 d2) (by simp [go_sem, *])
    have c5_22 := hu5.keep (w2.heap.size) (4) (.int .i64 m3) (by simp [go_sem, *])
    have c5_23 := hu5.keep (w2.heap.size) (5) (.int .i64 c3) (by simp [go_sem, *])
    have l5_0 : w.heap.size < w5.heap.size := World.block_lt_of_cell? _ _ c5_0
    have m5_0 : w.heap.size < w5.heap.size + 1 := by omega
    have n5_0 : w.heap.size < w5.heap.size + 1 + 1 := by omega
    have x5_0 : ¬ w5.heap.size = w.heap.size := by omega
    have y5_0 : ¬ w5.heap.size + 1 = w.heap.size := by omega
    have l5_1 : w.heap.size + 1 < w5.heap.size := World.block_lt_of_cell? _ _ c5_6
    have m5_1 : w.heap.size + 1 < w5.heap.size + 1 := by omega
    have n5_1 : w.heap.size + 1 < w5.heap.size + 1 + 1 := by omega
    have x5_1 : ¬ w5.heap.size = w.heap.size + 1 := by omega
    have y5_1 : ¬ w5.heap.size + 1 = w.heap.size + 1 := by omega
    have l5_2 : w.heap.size + 1 + 1 < w5.heap.size := World.block_lt_of_cell? _ _ c5_12
    have m5_2 : w.heap.size + 1 + 1 < w5.heap.size + 1 := by omega
    have n5_2 : w.heap.size + 1 + 1 < w5.heap.size + 1 + 1 := by omega
    have x5_2 : ¬ w5.heap.size = w.heap.size + 1 + 1 := by omega
    have y5_2 : ¬ w5.heap.size + 1 = w.heap.size + 1 + 1 := by omega
    have l5_3 : w2.heap.size < w5.heap.size := World.block_lt_of_cell? _ _ c5_18
    have m5_3 : w2.heap.size < w5.heap.size + 1 := by omega
    have n5_3 : w2.heap.size < w5.heap.size + 1 + 1 := by omega
    have x5_3 : ¬ w5.heap.size = w2.heap.size := by omega
    have y5_3 : ¬ w5.heap.size + 1 = w2.heap.size := by omega
    have HU5 : Hid (Up w w5) := Lib.hid (by ((repeat (first | (with_reducible exact Up.refl _) | (with_reducible exact HU4.out) | (with_reducible refine Up.trans ?_ hu5) | (with_reducible refine Up.alloc ?_ _ _) | (with_reducible refine Up.setCell ?_ ?_ _) | (with_reducible refine Up.drewN ?_ _) | (with_reducible refine Up.drew ?_))); all_goals (first | (simp; done) | (simp; omega) | omega)))
    clear hu5 c4_0 c4_1 c4_2 c4_3 c4_4 c4_5 c4_6 c4_7 c4_8 c4_9 c4_10 c4_11 c4_12 c4_13 c4_14 c4_15 c4_16 c4_17 c4_18 c4_19 c4_20 c4_21 c4_22 c4_23
    have y50 := HU5.out.ownGe (show w.heap.size ≤ w2.heap.size by omega) 0
    have y51 := HU5.out.ownGe (show w.heap.size ≤ w2.heap.size by omega) 1
    have y52 := HU5.out.ownGe (show w.heap.size ≤ w2.heap.size by omega) 2
    have y53 := HU5.out.ownGe (show w.heap.size ≤ w2.heap.size by omega) 3
    have y54 := HU5.out.ownGe (show w.heap.size ≤ w2.heap.size by omega) 4
    have y55 := HU5.out.ownGe (show w.heap.size ≤ w2.heap.size by omega) 5
    have z0 := own2 HU5.out 0
    have z1 := own2 HU5.out 1
    have z2 := own2 HU5.out 2
    have z3 := own2 HU5.out 3
    have z4 := own2 HU5.out 4
    have z5 := own2 HU5.out 5
    go_wp2_with fail
    refine bodyPost_ret (v := .tuple #[.agg #[.int .i64 0, .int .i64 0, .int .i64 0, .int .i64 0, .int .i64 0, .int .i64 0], .bool false]) (by simp [results, Try.results28, go_sem, c5_12, c5_13, c5_14, c5_15, c5_16, c5_17]) rfl ⟨?_, ?_⟩
    · rfl
    · ((repeat (first | (with_reducible exact Up.refl _) | (with_reducible exact HU5.out) | (with_reducible refine Up.alloc ?_ _ _) | (with_reducible refine Up.setCell ?_ ?_ _) | (with_reducible refine Up.drewN ?_ _) | (with_reducible refine Up.drew ?_))); all_goals (first | (simp; done) | (simp; omega) | omega))
  · have t := decide_eq_false t5
    have HE := Lib.hid (meet2_no (l := m1) (lD := c1) (e := n2) (eD := d2) (h := m3) (hD := c3) t)
    rw [HE.out]
    clear HE
    by_cases t6 : cmpR n2 d2 m1 c1 < 0
    case pos =>
      have u6 := decide_eq_true t6
      rw [u6, pk_true, pk_true]
      unfold meet3
      by_cases t7 : 0 < cmpR m1 c1 m3 c3
      case pos =>
        exact absurd t7 t5
      have u7 := decide_eq_false t7
      rw [u7, pk_false, pk_false]
      generalize cmpR m1 c1 n1 d1 = x3 at *
      generalize cmpR m3 c3 n3 d3 = x4 at *
      clear in1 id1 in2 id2 in3 id3 im1 ic1 im2 ic2 im3 ic3 va vb
      generalize cmpR m1 c1 m3 c3 = x5 at *
      generalize cmpR n2 d2 m1 c1 = x6 at *
      clear t5 t6 t7
      go_enter Try.func28, Try.ntmps28
      go_wp2_with fail
      refine (H1.out _).mono ?_
      rintro e w1 ⟨rfl, hu1⟩
      try unfold got2
      have c1_0 := hu1.keep (w.heap.size) (0) (.int .i64 n1) (by simp [go_sem, *])
      have c1_1 := hu1.keep (w.heap.size) (1) (.int .i64 d1) (by simp [go_sem, *])
      have c1_2 := hu1.keep (w.heap.size) (2) (.int .i64 n2) (by simp [go_sem, *])
      have c1_3 := hu1.keep (w.heap.size) (3) (.int .i64 d2) (by simp [go_sem, *])
      have c1_4 := hu1.keep (w.heap.size) (4) (.int .i64 n3) (by simp [go_sem, *])
      have c1_5 := hu1.keep (w.heap.size) (5) (.int .i64 d3) (by simp [go_sem, *])
      have c1_6 := hu1.keep (w.heap.size + 1) (0) (.int .i64 m1) (by simp [go_sem, *])
      have c1_7 := hu1.keep (w.heap.size + 1) (1) (.int .i64 c1) (by simp [go_sem, *])
      have c1_8 := hu1.keep (w.heap.size + 1) (2) (.int .i64 m2) (by simp [go_sem, *])
      have c1_9 := hu1.keep (w.heap.size + 1) (3) (.int .i64 c2) (by simp [go_sem, *])
      have c1_10 := hu1.keep (w.heap.size + 1) (4) (.int .i64 m3) (by simp [go_sem, *])
      have c1_11 := hu1.keep (w.heap.size + 1) (5) (.int .i64 c3) (by simp [go_sem, *])
      have c1_12 := hu1.keep (w.heap.size + 1 + 1) (0) (.int .i64 0) (by simp [go_sem, *])
      have c1_13 := hu1.keep (w.heap.size + 1 + 1) (1) (.int .i64 0) (by simp [go_sem, *])
      have c1_14 := hu1.keep (w.heap.size + 1 + 1) (2) (.int .i64 0) (by simp [go_sem, *])
      have c1_15 := hu1.keep (w.heap.size + 1 + 1) (3) (.int .i64 0) (by simp [go_sem, *])
      have c1_16 := hu1.keep (w.heap.size + 1 + 1) (4) (.int .i64 0) (by simp [go_sem, *])
      have c1_17 := hu1.keep (w.heap.size + 1 + 1) (5) (.int .i64 0) (by simp [go_sem, *])
      have l1_0 : w.heap.size < w1.heap.size := World.block_lt_of_cell? _ _ c1_0
      have m1_0 : w.heap.size < w1.heap.size + 1 := by omega
      have n1_0 : w.heap.size < w1.heap.size + 1 + 1 := by omega
      have x1_0 : ¬ w1.heap.size = w.heap.size := by omega
      have y1_0 : ¬ w1.heap.size + 1 = w.heap.size := by omega
      have l1_1 : w.heap.size + 1 < w1.heap.size := World.block_lt_of_cell? _ _ c1_6
      have m1_1 : w.heap.size + 1 < w1.heap.size + 1 := by omega
      have n1_1 : w.heap.size + 1 < w1.heap.size + 1 + 1 := by omega
      have x1_1 : ¬ w1.heap.size = w.heap.size + 1 := by omega
      have y1_1 : ¬ w1.heap.size + 1 = w.heap.size + 1 := by omega
      have l1_2 : w.heap.size + 1 + 1 < w1.heap.size := World.block_lt_of_cell? _ _ c1_12
      have m1_2 : w.heap.size + 1 + 1 < w1.heap.size + 1 := by omega
      have n1_2 : w.heap.size + 1 + 1 < w1.heap.size + 1 + 1 := by omega
      have x1_2 : ¬ w1.heap.size = w.heap.size + 1 + 1 := by omega
      have y1_2 : ¬ w1.heap.size + 1 = w.heap.size + 1 + 1 := by omega
      have HU1 : Hid (Up w w1) := Lib.hid (by ((repeat (first | (with_reducible exact Up.refl _) | (with_reducible refine Up.trans ?_ hu1) | (with_reducible refine Up.alloc ?_ _ _) | (with_reducible refine Up.setCell ?_ ?_ _) | (with_reducible refine Up.drewN ?_ _) | (with_reducible refine Up.drew ?_))); all_goals (first | (simp; done) | (simp; omega) | omega)))
      clear hu1
      go_wp2_with fail
      refine (H2.out _).mono ?_
      rintro e w2 ⟨rfl, hu2⟩
      try unfold got2
      have c2_0 := hu2.keep (w.heap.size) (0) (.int .i64 n1) (by simp [go_sem, *])
      have c2_1 := hu2.keep (w.heap.size) (1) (.int .i64 d1) (by simp [go_sem, *])
      have c2_2 := hu2.keep (w.heap.size) (2) (.int .i64 n2) (by simp [go_sem, *])
      have c2_3 := hu2.keep (w.heap.size) (3) (.int .i64 d2) (by simp [go_sem, *])
      have c2_4 := hu2.keep (w.heap.size) (4) (.int .i64 n3) (by simp [go_sem, *])
      have c2_5 := hu2.keep (w.heap.size) (5) (.int .i64 d3) (by simp [go_sem, *])
      have c2_6 := hu2.keep (w.heap.size + 1) (0) (.int .i64 m1) (by simp [go_sem, *])
      have c2_7 := hu2.keep (w.heap.size + 1) (1) (.int .i64 c1) (by simp [go_sem, *])
      have c2_8 := hu2.keep (w.heap.size + 1) (2) (.int .i64 m2) (by simp [go_sem, *])
      have c2_9 := hu2.keep (w.heap.size + 1) (3) (.int .i64 c2) (by simp [go_sem, *])
      have c2_10 := hu2.keep (w.heap.size + 1) (4) (.int .i64 m3) (by simp [go_sem, *])
      have c2_11 := hu2.keep (w.heap.size + 1) (5) (.int .i64 c3) (by simp [go_sem, *])
      have c2_12 := hu2.keep (w.heap.size + 1 + 1) (0) (.int .i64 0) (by simp [go_sem, *])
      have c2_13 := hu2.keep (w.heap.size + 1 + 1) (1) (.int .i64 0) (by simp [go_sem, *])
      have c2_14 := hu2.keep (w.heap.size + 1 + 1) (2) (.int .i64 0) (by simp [go_sem, *])
      have c2_15 := hu2.keep (w.heap.size + 1 + 1) (3) (.int .i64 0) (by simp [go_sem, *])
      have c2_16 := hu2.keep (w.heap.size + 1 + 1) (4) (.int .i64 0) (by simp [go_sem, *])
      have c2_17 := hu2.keep (w.heap.size + 1 + 1) (5) (.int .i64 0) (by simp [go_sem, *])
      have l2_0 : w.heap.size < w2.heap.size := World.block_lt_of_cell? _ _ c2_0
      have m2_0 : w.heap.size < w2.heap.size + 1 := by omega
      have n2_0 : w.heap.size < w2.heap.size + 1 + 1 := by omega
      have x2_0 : ¬ w2.heap.size = w.heap.size := by omega
      have y2_0 : ¬ w2.heap.size + 1 = w.heap.size := by omega
      have l2_1 : w.heap.size + 1 < w2.heap.size := World.block_lt_of_cell? _ _ c2_6
      have m2_1 : w.heap.size + 1 < w2.heap.size + 1 := by omega
      have n2_1 : w.heap.size + 1 < w2.heap.size + 1 + 1 := by omega
      have x2_1 : ¬ w2.heap.size = w.heap.size + 1 := by omega
      have y2_1 : ¬ w2.heap.size + 1 = w.heap.size + 1 := by omega
      have l2_2 : w.heap.size + 1 + 1 < w2.heap.size := World.block_lt_of_cell? _ _ c2_12
      have m2_2 : w.heap.size + 1 + 1 < w2.heap.size + 1 := by omega
      have n2_2 : w.heap.size + 1 + 1 < w2.heap.size + 1 + 1 := by omega
      have x2_2 : ¬ w2.heap.size = w.heap.size + 1 + 1 := by omega
      have y2_2 : ¬ w2.heap.size + 1 = w.heap.size + 1 + 1 := by omega
      have HU2 : Hid (Up w w2) := Lib.hid (by ((repeat (first | (with_reducible exact Up.refl _) | (with_reducible exact HU1.out) | (with_reducible refine Up.trans ?_ hu2) | (with_reducible refine Up.alloc ?_ _ _) | (with_reducible refine Up.setCell ?_ ?_ _) | (with_reducible refine Up.drewN ?_ _) | (with_reducible refine Up.drew ?_))); all_goals (first | (simp; done) | (simp; omega) | omega)))
      clear hu2 c1_0 c1_1 c1_2 c1_3 c1_4 c1_5 c1_6 c1_7 c1_8 c1_9 c1_10 c1_11 c1_12 c1_13 c1_14 c1_15 c1_16 c1_17
      go_wp2_with fail
      refine (H3.out _).mono ?_
      rintro e w3 ⟨rfl, hu3⟩
      try unfold got2
      have c3_0 := hu3.keep (w.heap.size) (0) (.int .i64 n1) (by simp [go_sem, *])
      have c3_1 := hu3.keep (w.heap.size) (1) (.int .i64 d1) (by simp [go_sem, *])
      have c3_2 := hu3.keep (w.heap.size) (2) (.int .i64 n2) (by simp [go_sem, *])
      have c3_3 := hu3.keep (w.heap.size) (3) (.int .i64 d2) (by simp [go_sem, *])
      have c3_4 := hu3.keep (w.heap.size) (4) (.int .i64 n3) (by simp [go_sem, *])
      have c3_5 := hu3.keep (w.heap.size) (5) (.int .i64 d3) (by simp [go_sem, *])
      have c3_6 := hu3.keep (w.heap.size + 1) (0) (.int .i64 m1) (by simp [go_sem, *])
      have c3_7 := hu3.keep (w.heap.size + 1) (1) (.int .i64 c1) (by simp [go_sem, *])
      have c3_8 := hu3.keep (w.heap.size + 1) (2) (.int .i64 m2) (by simp [go_sem, *])
      have c3_9 := hu3.keep (w.heap.size + 1) (3) (.int .i64 c2) (by simp [go_sem, *])
      have c3_10 := hu3.keep (w.heap.size + 1) (4) (.int .i64 m3) (by simp [go_sem, *])
      have c3_11 := hu3.keep (w.heap.size + 1) (5) (.int .i64 c3) (by simp [go_sem, *])
      have c3_12 := hu3.keep (w.heap.size + 1 + 1) (0) (.int .i64 0) (by simp [go_sem, *])
      have c3_13 := hu3.keep (w.heap.size + 1 + 1) (1) (.int .i64 0) (by simp [go_sem, *])
      have c3_14 := hu3.keep (w.heap.size + 1 + 1) (2) (.int .i64 0) (by simp [go_sem, *])
      have c3_15 := hu3.keep (w.heap.size + 1 + 1) (3) (.int .i64 0) (by simp [go_sem, *])
      have c3_16 := hu3.keep (w.heap.size + 1 + 1) (4) (.int .i64 0) (by simp [go_sem, *])
      have c3_17 := hu3.keep (w.heap.size + 1 + 1) (5) (.int .i64 0) (by simp [go_sem, *])
      have c3_18 := hu3.keep (w2.heap.size) (0) (.int .i64 n1) (by simp [go_sem, *])
      have c3_19 := hu3.keep (w2.heap.size) (1) (.int .i64 d1) (by simp [go_sem, *])
      have c3_20 := hu3.keep (w2.heap.size) (2) (.int .i64 n2) (by simp [go_sem, *])
      have c3_21 := hu3.keep (w2.heap.size) (3) (.int .i64 d2) (by simp [go_sem, *])
      have c3_22 := hu3.keep (w2.heap.size) (4) (.int .i64 n3) (by simp [go_sem, *])
      have c3_23 := hu3.keep (w2.heap.size) (5) (.int .i64 d3) (by simp [go_sem, *])
      have l3_0 : w.heap.size < w3.heap.size := World.block_lt_of_cell? _ _ c3_0
      have m3_0 : w.heap.size < w3.heap.size + 1 := by omega
      have n3_0 : w.heap.size < w3.heap.size + 1 + 1 := by omega
      have x3_0 : ¬ w3.heap.size = w.heap.size := by omega
      have y3_0 : ¬ w3.heap.size + 1 = w.heap.size := by omega
      have l3_1 : w.heap.size + 1 < w3.heap.size := World.block_lt_of_cell? _ _ c3_6
      have m3_1 : w.heap.size + 1 < w3.heap.size + 1 := by omega
      have n3_1 : w.heap.size + 1 < w3.heap.size + 1 + 1 := by omega
      have x3_1 : ¬ w3.heap.size = w.heap.size + 1 := by omega
      have y3_1 : ¬ w3.heap.size + 1 = w.heap.size + 1 := by omega
      have l3_2 : w.heap.size + 1 + 1 < w3.heap.size := World.block_lt_of_cell? _ _ c3_12
      have m3_2 : w.heap.size + 1 + 1 < w3.heap.size + 1 := by omega
      have n3_2 : w.heap.size + 1 + 1 < w3.heap.size + 1 + 1 := by omega
      have x3_2 : ¬ w3.heap.size = w.heap.size + 1 + 1 := by omega
      have y3_2 : ¬ w3.heap.size + 1 = w.heap.size + 1 + 1 := by omega
      have l3_3 : w2.heap.size < w3.heap.size := World.block_lt_of_cell? _ _ c3_18
      have m3_3 : w2.heap.size < w3.heap.size + 1 := by omega
      have n3_3 : w2.heap.size < w3.heap.size + 1 + 1 := by omega
      have x3_3 : ¬ w3.heap.size = w2.heap.size := by omega
      have y3_3 : ¬ w3.heap.size + 1 = w2.heap.size := by omega
      have HU3 : Hid (Up w w3) := Lib.hid (by ((repeat (first | (with_reducible exact Up.refl _) | (with_reducible exact HU2.out) | (with_reducible refine Up.trans ?_ hu3) | (with_reducible refine Up.alloc ?_ _ _) | (with_reducible refine Up.setCell ?_ ?_ _) | (with_reducible refine Up.drewN ?_ _) | (with_reducible refine Up.drew ?_))); all_goals (first | (simp; done) | (simp; omega) | omega)))
      clear hu3 c2_0 c2_1 c2_2 c2_3 c2_4 c2_5 c2_6 c2_7 c2_8 c2_9 c2_10 c2_11 c2_12 c2_13 c2_14 c2_15 c2_16 c2_17
      have y30 := HU3.out.ownGe (show w.heap.size ≤ w2.heap.size by omega) 0
      have y31 := HU3.out.ownGe (show w.heap.size ≤ w2.heap.size by omega) 1
      have y32 := HU3.out.ownGe (show w.heap.size ≤ w2.heap.size by omega) 2
      have y33 := HU3.out.ownGe (show w.heap.size ≤ w2.heap.size by omega) 3
      have y34 := HU3.out.ownGe (show w.heap.size ≤ w2.heap.size by omega) 4
      have y35 := HU3.out.ownGe (show w.heap.size ≤ w2.heap.size by omega) 5
      go_wp2_with fail
      refine (H4.out _).mono ?_
      rintro e w4 ⟨rfl, hu4⟩
      try unfold got2
      have c4_0 := hu4.keep (w.heap.size) (0) (.int .i64 n1) (by simp [go_sem, *])
      have c4_1 := hu4.keep (w.heap.size) (1) (.int .i64 d1) (by simp [go_sem, *])
      have c4_2 := hu4.keep (w.heap.size) (2) (.int .i64 n2) (by simp [go_sem, *])
      have c4_3 := hu4.keep (w.heap.size) (3) (.int .i64 d2) (by simp [go_sem, *])
      have c4_4 := hu4.keep (w.heap.size) (4) (.int .i64 n3) (by simp [go_sem, *])
      have c4_5 := hu4.keep (w.heap.size) (5) (.int .i64 d3) (by simp [go_sem, *])
      have c4_6 := hu4.keep (w.heap.size + 1) (0) (.int .i64 m1) (by simp [go_sem, *])
      have c4_7 := hu4.keep (w.heap.size + 1) (1) (.int .i64 c1) (by simp [go_sem, *])
      have c4_8 := hu4.keep (w.heap.size + 1) (2) (.int .i64 m2) (by simp [go_sem, *])
      have c4_9 := hu4.keep (w.heap.size + 1) (3) (.int .i64 c2) (by simp [go_sem, *])
      have c4_10 := hu4.keep (w.heap.size + 1) (4) (.int .i64 m3) (by simp [go_sem, *])
      have c4_11 := hu4.keep (w.heap.size + 1) (5) (.int .i64 c3) (by simp [go_sem, *])
      have c4_12 := hu4.keep (w.heap.size + 1 + 1) (0) (.int .i64 0) (by simp [go_sem, *])
      have c4_13 := hu4.keep (w.heap.size + 1 + 1) (1) (.int .i64 0) (by simp [go_sem, *])
      have c4_14 := hu4.keep (w.heap.size + 1 + 1) (2) (.int .i64 0) (by simp [go_sem, *])
      have c4_15 := hu4.keep (w.heap.size + 1 + 1) (3) (.int .i64 0) (by simp [go_sem, *])
      have c4_16 := hu4.keep (w.heap.size + 1 + 1) (4) (.int .i64 0) (by simp [go_sem, *])
      have c4_17 := hu4.keep (w.heap.size + 1 + 1) (5) (.int .i64 0) (by simp [go_sem, *])
      have c4_18 := hu4.keep (w2.heap.size) (0) (.int .i64 m1) (by simp [go_sem, *])
      have c4_19 := hu4.keep (w2.heap.size) (1) (.int .i64 c1) (by simp [go_sem, *])
      have c4_20 := hu4.keep (w2.heap.size) (2) (.int .i64 n2) (by simp [go_sem, *])
      have c4_21 := hu4.keep (w2.heap.size) (3) (.int .i64 d2) (by simp [go_sem, *])
      have c4_22 := hu4.keep (w2.heap.size) (4) (.int .i64 n3) (by simp [go_sem, *])
      have c4_23 := hu4.keep (w2.heap.size) (5) (.int .i64 d3) (by simp [go_sem, *])
      have l4_0 : w.heap.size < w4.heap.size := World.block_lt_of_cell? _ _ c4_0
      have m4_0 : w.heap.size < w4.heap.size + 1 := by omega
      have n4_0 : w.heap.size < w4.heap.size + 1 + 1 := by omega
      have x4_0 : ¬ w4.heap.size = w.heap.size := by omega
      have y4_0 : ¬ w4.heap.size + 1 = w.heap.size := by omega
      have l4_1 : w.heap.size + 1 < w4.heap.size := World.block_lt_of_cell? _ _ c4_6
      have m4_1 : w.heap.size + 1 < w4.heap.size + 1 := by omega
      have n4_1 : w.heap.size + 1 < w4.heap.size + 1 + 1 := by omega
      have x4_1 : ¬ w4.heap.size = w.heap.size + 1 := by omega
      have y4_1 : ¬ w4.heap.size + 1 = w.heap.size + 1 := by omega
      have l4_2 : w.heap.size + 1 + 1 < w4.heap.size := World.block_lt_of_cell? _ _ c4_12
      have m4_2 : w.heap.size + 1 + 1 < w4.heap.size + 1 := by omega
      have n4_2 : w.heap.size + 1 + 1 < w4.heap.size + 1 + 1 := by omega
      have x4_2 : ¬ w4.heap.size = w.heap.size + 1 + 1 := by omega
      have y4_2 : ¬ w4.heap.size + 1 = w.heap.size + 1 + 1 := by omega
      have l4_3 : w2.heap.size < w4.heap.size := World.block_lt_of_cell? _ _ c4_18
      have m4_3 : w2.heap.size < w4.heap.size + 1 := by omega
      have n4_3 : w2.heap.size < w4.heap.size + 1 + 1 := by omega
      have x4_3 : ¬ w4.heap.size = w2.heap.size := by omega
      have y4_3 : ¬ w4.heap.size + 1 = w2.heap.size := by omega
      have HU4 : Hid (Up w w4) := Lib.hid (by ((repeat (first | (with_reducible exact Up.refl _) | (with_reducible exact HU3.out) | (with_reducible refine Up.trans ?_ hu4) | (with_reducible refine Up.alloc ?_ _ _) | (with_reducible refine Up.setCell ?_ ?_ _) | (with_reducible refine Up.drewN ?_ _) | (with_reducible refine Up.drew ?_))); all_goals (first | (simp; done) | (simp; omega) | omega)))
      clear hu4 c3_0 c3_1 c3_2 c3_3 c3_4 c3_5 c3_6 c3_7 c3_8 c3_9 c3_10 c3_11 c3_12 c3_13 c3_14 c3_15 c3_16 c3_17 c3_18 c3_19 c3_20 c3_21 c3_22 c3_23
      have y40 := HU4.out.ownGe (show w.heap.size ≤ w2.heap.size by omega) 0
      have y41 := HU4.out.ownGe (show w.heap.size ≤ w2.heap.size by omega) 1
      have y42 := HU4.out.ownGe (show w.heap.size ≤ w2.heap.size by omega) 2
      have y43 := HU4.out.ownGe (show w.heap.size ≤ w2.heap.size by omega) 3
      have y44 := HU4.out.ownGe (show w.heap.size ≤ w2.heap.size by omega) 4
      have y45 := HU4.out.ownGe (show w.heap.size ≤ w2.heap.size by omega) 5
      go_wp2_with fail
      refine (H5.out _).mono ?_
      rintro e w5 ⟨rfl, hu5⟩
      try unfold got2
      have c5_0 := hu5.keep (w.heap.size) (0) (.int .i64 n1) (by simp [go_sem, *])
      have c5_1 := hu5.keep (w.heap.size) (1) (.int .i64 d1) (by simp [go_sem, *])
      have c5_2 := hu5.keep (w.heap.size) (2) (.int .i64 n2) (by simp [go_sem, *])
      have c5_3 := hu5.keep (w.heap.size) (3) (.int .i64 d2) (by simp [go_sem, *])
      have c5_4 := hu5.keep (w.heap.size) (4) (.int .i64 n3) (by simp [go_sem, *])
      have c5_5 := hu5.keep (w.heap.size) (5) (.int .i64 d3) (by simp [go_sem, *])
      have c5_6 := hu5.keep (w.heap.size + 1) (0) (.int .i64 m1) (by simp [go_sem, *])
      have c5_7 := hu5.keep (w.heap.size + 1) (1) (.int .i64 c1) (by simp [go_sem, *])
      have c5_8 := hu5.keep (w.heap.size + 1) (2) (.int .i64 m2) (by simp [go_sem, *])
      have c5_9 := hu5.keep (w.heap.size + 1) (3) (.int .i64 c2) (by simp [go_sem, *])
      have c5_10 := hu5.keep (w.heap.size + 1) (4) (.int .i64 m3) (by simp [go_sem, *])
      have c5_11 := hu5.keep (w.heap.size + 1) (5) (.int .i64 c3) (by simp [go_sem, *])
      have c5_12 := hu5.keep (w.heap.size + 1 + 1) (0) (.int .i64 0) (by simp [go_sem, *])
      have c5_13 := hu5.keep (w.heap.size + 1 + 1) (1) (.int .i64 0) (by simp [go_sem, *])
      have c5_14 := hu5.keep (w.heap.size + 1 + 1) (2) (.int .i64 0) (by simp [go_sem, *])
      have c5_15 := hu5.keep (w.heap.size + 1 + 1) (3) (.int .i64 0) (by simp [go_sem, *])
      have c5_16 := hu5.keep (w.heap.size + 1 + 1) (4) (.int .i64 0) (by simp [go_sem, *])
      have c5_17 := hu5.keep (w.heap.size + 1 + 1) (5) (.int .i64 0) (by simp [go_sem, *])
      have c5_18 := hu5.keep (w2.heap.size) (0) (.int .i64 m1) (by simp [go_sem, *])
      have c5_19 := hu5.keep (w2.heap.size) (1) (.int .i64 c1) (by simp [go_sem, *])
      have c5_20 := hu5.keep (w2.heap.size) (2) (.int .i64 n2) (by simp [go_sem, *])
      have c5_21 := hu5.keep (w2.heap.size) (3) (.int .i64 d2) (by simp [go_sem, *])
      have c5_22 := hu5.keep (w2.heap.size) (4) (.int .i64 m3) (by simp [go_sem, *])
      have c5_23 := hu5.keep (w2.heap.size) (5) (.int .i64 c3) (by simp [go_sem, *])
      have l5_0 : w.heap.size < w5.heap.size := World.block_lt_of_cell? _ _ c5_0
      have m5_0 : w.heap.size < w5.heap.size + 1 := by omega
      have n5_0 : w.heap.size < w5.heap.size + 1 + 1 := by omega
      have x5_0 : ¬ w5.heap.size = w.heap.size := by omega
      have y5_0 : ¬ w5.heap.size + 1 = w.heap.size := by omega
      have l5_1 : w.heap.size + 1 < w5.heap.size := World.block_lt_of_cell? _ _ c5_6
      have m5_1 : w.heap.size + 1 < w5.heap.size + 1 := by omega
      have n5_1 : w.heap.size + 1 < w5.heap.size + 1 + 1 := by omega
      have x5_1 : ¬ w5.heap.size = w.heap.size + 1 := by omega
      have y5_1 : ¬ w5.heap.size + 1 = w.heap.size + 1 := by omega
      have l5_2 : w.heap.size + 1 + 1 < w5.heap.size := World.block_lt_of_cell? _ _ c5_12
      have m5_2 : w.heap.size + 1 + 1 < w5.heap.size + 1 := by omega
      have n5_2 : w.heap.size + 1 + 1 < w5.heap.size + 1 + 1 := by omega
      have x5_2 : ¬ w5.heap.size = w.heap.size + 1 + 1 := by omega
      have y5_2 : ¬ w5.heap.size + 1 = w.heap.size + 1 + 1 := by omega
      have l5_3 : w2.heap.size < w5.heap.size := World.block_lt_of_cell? _ _ c5_18
      have m5_3 : w2.heap.size < w5.heap.size + 1 := by omega
      have n5_3 : w2.heap.size < w5.heap.size + 1 + 1 := by omega
      have x5_3 : ¬ w5.heap.size = w2.heap.size := by omega
      have y5_3 : ¬ w5.heap.size + 1 = w2.heap.size := by omega
      have HU5 : Hid (Up w w5) := Lib.hid (by ((repeat (first | (with_reducible exact Up.refl _) | (with_reducible exact HU4.out) | (with_reducible refine Up.trans ?_ hu5) | (with_reducible refine Up.alloc ?_ _ _) | (with_reducible refine Up.setCell ?_ ?_ _) | (with_reducible refine Up.drewN ?_ _) | (with_reducible refine Up.drew ?_))); all_goals (first | (simp; done) | (simp; omega) | omega)))
      clear hu5 c4_0 c4_1 c4_2 c4_3 c4_4 c4_5 c4_6 c4_7 c4_8 c4_9 c4_10 c4_11 c4_12 c4_13 c4_14 c4_15 c4_16 c4_17 c4_18 c4_19 c4_20 c4_21 c4_22 c4_23
      have y50 := HU5.out.ownGe (show w.heap.size ≤ w2.heap.size by omega) 0
      have y51 := HU5.out.ownGe (show w.heap.size ≤ w2.heap.size by omega) 1
      have y52 := HU5.out.ownGe (show w.heap.size ≤ w2.heap.size by omega) 2
      have y53 := HU5.out.ownGe (show w.heap.size ≤ w2.heap.size by omega) 3
      have y54 := HU5.out.ownGe (show w.heap.size ≤ w2.heap.size by omega) 4
      have y55 := HU5.out.ownGe (show w.heap.size ≤ w2.heap.size by omega) 5
      go_wp2_with fail
      refine (H6.out _).mono ?_
      rintro e w6 ⟨rfl, hu6⟩
      try unfold got2
      have c6_0 := hu6.keep (w.heap.size) (0) (.int .i64 n1) (by simp [go_sem, *])
      have c6_1 := hu6.keep (w.heap.size) (1) (.int .i64 d1) (by simp [go_sem, *])
      have c6_2 := hu6.keep (w.heap.size) (2) (.int .i64 n2) (by simp [go_sem, *])
      have c6_3 := hu6.keep (w.heap.size) (3) (.int .i64 d2) (by simp [go_sem, *])
      have c6_4 := hu6.keep (w.heap.size) (4) (.int .i64 n3) (by simp [go_sem, *])
      have c6_5 := hu6.keep (w.heap.size) (5) (.int .i64 d3) (by simp [go_sem, *])
      have c6_6 := hu6.keep (w.heap.size + 1) (0) (.int .i64 m1) (by simp [go_sem, *])
      have c6_7 := hu6.keep (w.heap.size + 1) (1) (.int .i64 c1) (by simp [go_sem, *])
      have c6_8 := hu6.keep (w.heap.size + 1) (2) (.int .i64 m2) (by simp [go_sem, *])
      have c6_9 := hu6.keep (w.heap.size + 1) (3) (.int .i64 c2) (by simp [go_sem, *])
      have c6_10 := hu6.keep (w.heap.size + 1) (4) (.int .i64 m3) (by simp [go_sem, *])
      have c6_11 := hu6.keep (w.heap.size + 1) (5) (.int .i64 c3) (by simp [go_sem, *])
      have c6_12 := hu6.keep (w.heap.size + 1 + 1) (0) (.int .i64 0) (by simp [go_sem, *])
      have c6_13 := hu6.keep (w.heap.size + 1 + 1) (1) (.int .i64 0) (by simp [go_sem, *])
      have c6_14 := hu6.keep (w.heap.size + 1 + 1) (2) (.int .i64 0) (by simp [go_sem, *])
      have c6_15 := hu6.keep (w.heap.size + 1 + 1) (3) (.int .i64 0) (by simp [go_sem, *])
      have c6_16 := hu6.keep (w.heap.size + 1 + 1) (4) (.int .i64 0) (by simp [go_sem, *])
      have c6_17 := hu6.keep (w.heap.size + 1 + 1) (5) (.int .i64 0) (by simp [go_sem, *])
      have c6_18 := hu6.keep (w2.heap.size) (0) (.int .i64 m1) (by simp [go_sem, *])
      have c6_19 := hu6.keep (w2.heap.size) (1) (.int .i64 c1) (by simp [go_sem, *])
      have c6_20 := hu6.keep (w2.heap.size) (2) (.int .i64 n2) (by simp [go_sem, *])
      have c6_21 := hu6.keep (w2.heap.size) (3) (.int .i64 d2) (by simp [go_sem, *])
      have c6_22 := hu6.keep (w2.heap.size) (4) (.int .i64 m3) (by simp [go_sem, *])
      have c6_23 := hu6.keep (w2.heap.size) (5) (.int .i64 c3) (by simp [go_sem, *])
      have l6_0 : w.heap.size < w6.heap.size := World.block_lt_of_cell? _ _ c6_0
      have m6_0 : w.heap.size < w6.heap.size + 1 := by omega
      have n6_0 : w.heap.size < w6.heap.size + 1 + 1 := by omega
      have x6_0 : ¬ w6.heap.size = w.heap.size := by omega
      have y6_0 : ¬ w6.heap.size + 1 = w.heap.size := by omega
      have l6_1 : w.heap.size + 1 < w6.heap.size := World.block_lt_of_cell? _ _ c6_6
      have m6_1 : w.heap.size + 1 < w6.heap.size + 1 := by omega
      have n6_1 : w.heap.size + 1 < w6.heap.size + 1 + 1 := by omega
      have x6_1 : ¬ w6.heap.size = w.heap.size + 1 := by omega
      have y6_1 : ¬ w6.heap.size + 1 = w.heap.size + 1 := by omega
      have l6_2 : w.heap.size + 1 + 1 < w6.heap.size := World.block_lt_of_cell? _ _ c6_12
      have m6_2 : w.heap.size + 1 + 1 < w6.heap.size + 1 := by omega
      have n6_2 : w.heap.size + 1 + 1 < w6.heap.size + 1 + 1 := by omega
      have x6_2 : ¬ w6.heap.size = w.heap.size + 1 + 1 := by omega
      have y6_2 : ¬ w6.heap.size + 1 = w.heap.size + 1 + 1 := by omega
      have l6_3 : w2.heap.size < w6.heap.size := World.block_lt_of_cell? _ _ c6_18
      have m6_3 : w2.heap.size < w6.heap.size + 1 := by omega
      have n6_3 : w2.heap.size < w6.heap.size + 1 + 1 := by omega
      have x6_3 : ¬ w6.heap.size = w2.heap.size := by omega
      have y6_3 : ¬ w6.heap.size + 1 = w2.heap.size := by omega
      have HU6 : Hid (Up w w6) := Lib.hid (by ((repeat (first | (with_reducible exact Up.refl _) | (with_reducible exact HU5.out) | (with_reducible refine Up.trans ?_ hu6) | (with_reducible refine Up.alloc ?_ _ _) | (with_reducible refine Up.setCell ?_ ?_ _) | (with_reducible refine Up.drewN ?_ _) | (with_reducible refine Up.drew ?_))); all_goals (first | (simp; done) | (simp; omega) | omega)))
      clear hu6 c5_0 c5_1 c5_2 c5_3 c5_4 c5_5 c5_6 c5_7 c5_8 c5_9 c5_10 c5_11 c5_12 c5_13 c5_14 c5_15 c5_16 c5_17 c5_18 c5_19 c5_20 c5_21 c5_22 c5_23
      have y60 := HU6.out.ownGe (show w.heap.size ≤ w2.heap.size by omega) 0
      have y61 := HU6.out.ownGe (show w.heap.size ≤ w2.heap.size by omega) 1
      have y62 := HU6.out.ownGe (show w.heap.size ≤ w2.heap.size by omega) 2
      have y63 := HU6.out.ownGe (show w.heap.size ≤ w2.heap.size by omega) 3
      have y64 := HU6.out.ownGe (show w.heap.size ≤ w2.heap.size by omega) 4
      have y65 := HU6.out.ownGe (show w.heap.size ≤ w2.heap.size by omega) 5
      go_wp2_with fail
      refine (H7.out _).mono ?_
      rintro e w7 ⟨rfl, hu7⟩
      try unfold got2
      have c7_0 := hu7.keep (w.heap.size) (0) (.int .i64 n1) (by simp [go_sem, *])
      have c7_1 := hu7.keep (w.heap.size) (1) (.int .i64 d1) (by simp [go_sem, *])
      have c7_2 := hu7.keep (w.heap.size) (2) (.int .i64 n2) (by simp [go_sem, *])
      have c7_3 := hu7.keep (w.heap.size) (3) (.int .i64 d2) (by simp [go_sem, *])
      have c7_4 := hu7.keep (w.heap.size) (4) (.int .i64 n3) (by simp [go_sem, *])
      have c7_5 := hu7.keep (w.heap.size) (5) (.int .i64 d3) (by simp [go_sem, *])
      have c7_6 := hu7.keep (w.heap.size + 1) (0) (.int .i64 m1) (by simp [go_sem, *])
      have c7_7 := hu7.keep (w.heap.size + 1) (1) (.int .i64 c1) (by simp [go_sem, *])
      have c7_8 := hu7.keep (w.heap.size + 1) (2) (.int .i64 m2) (by simp [go_sem, *])
      have c7_9 := hu7.keep (w.heap.size + 1) (3) (.int .i64 c2) (by simp [go_sem, *])
      have c7_10 := hu7.keep (w.heap.size + 1) (4) (.int .i64 m3) (by simp [go_sem, *])
      have c7_11 := hu7.keep (w.heap.size + 1) (5) (.int .i64 c3) (by simp [go_sem, *])
      have c7_12 := hu7.keep (w.heap.size + 1 + 1) (0) (.int .i64 0) (by simp [go_sem, *])
      have c7_13 := hu7.keep (w.heap.size + 1 + 1) (1) (.int .i64 0) (by simp [go_sem, *])
      have c7_14 := hu7.keep (w.heap.size + 1 + 1) (2) (.int .i64 0) (by simp [go_sem, *])
      have c7_15 := hu7.keep (w.heap.size + 1 + 1) (3) (.int .i64 0) (by simp [go_sem, *])
      have c7_16 := hu7.keep (w.heap.size + 1 + 1) (4) (.int .i64 0) (by simp [go_sem, *])
      have c7_17 := hu7.keep (w.heap.size + 1 + 1) (5) (.int .i64 0) (by simp [go_sem, *])
      have c7_18 := hu7.keep (w2.heap.size) (0) (.int .i64 m1) (by simp [go_sem, *])
      have c7_19 := hu7.keep (w2.heap.size) (1) (.int .i64 c1) (by simp [go_sem, *])
      have c7_20 := hu7.keep (w2.heap.size) (2) (.int .i64 m1) (by simp [go_sem, *])
      have c7_21 := hu7.keep (w2.heap.size) (3) (.int .i64 c1) (by simp [go_sem, *])
      have c7_22 := hu7.keep (w2.heap.size) (4) (.int .i64 m3) (by simp [go_sem, *])
      have c7_23 := hu7.keep (w2.heap.size) (5) (.int .i64 c3) (by simp [go_sem, *])
      have l7_0 : w.heap.size < w7.heap.size := World.block_lt_of_cell? _ _ c7_0
      have m7_0 : w.heap.size < w7.heap.size + 1 := by omega
      have n7_0 : w.heap.size < w7.heap.size + 1 + 1 := by omega
      have x7_0 : ¬ w7.heap.size = w.heap.size := by omega
      have y7_0 : ¬ w7.heap.size + 1 = w.heap.size := by omega
      have l7_1 : w.heap.size + 1 < w7.heap.size := World.block_lt_of_cell? _ _ c7_6
      have m7_1 : w.heap.size + 1 < w7.heap.size + 1 := by omega
      have n7_1 : w.heap.size + 1 < w7.heap.size + 1 + 1 := by omega
      have x7_1 : ¬ w7.heap.size = w.heap.size + 1 := by omega
      have y7_1 : ¬ w7.heap.size + 1 = w.heap.size + 1 := by omega
      have l7_2 : w.heap.size + 1 + 1 < w7.heap.size := World.block_lt_of_cell? _ _ c7_12
      have m7_2 : w.heap.size + 1 + 1 < w7.heap.size + 1 := by omega
      have n7_2 : w.heap.size + 1 + 1 < w7.heap.size + 1 + 1 := by omega
      have x7_2 : ¬ w7.heap.size = w.heap.size + 1 + 1 := by omega
      have y7_2 : ¬ w7.heap.size + 1 = w.heap.size + 1 + 1 := by omega
      have l7_3 : w2.heap.size < w7.heap.size := World.block_lt_of_cell? _ _ c7_18
      have m7_3 : w2.heap.size < w7.heap.size + 1 := by omega
      have n7_3 : w2.heap.size < w7.heap.size + 1 + 1 := by omega
      have x7_3 : ¬ w7.heap.size = w2.heap.size := by omega
      have y7_3 : ¬ w7.heap.size + 1 = w2.heap.size := by omega
      have HU7 : Hid (Up w w7) := Lib.hid (by ((repeat (first | (with_reducible exact Up.refl _) | (with_reducible exact HU6.out) | (with_reducible refine Up.trans ?_ hu7) | (with_reducible refine Up.alloc ?_ _ _) | (with_reducible refine Up.setCell ?_ ?_ _) | (with_reducible refine Up.drewN ?_ _) | (with_reducible refine Up.drew ?_))); all_goals (first | (simp; done) | (simp; omega) | omega)))
      clear hu7 c6_0 c6_1 c6_2 c6_3 c6_4 c6_5 c6_6 c6_7 c6_8 c6_9 c6_10 c6_11 c6_12 c6_13 c6_14 c6_15 c6_16 c6_17 c6_18 c6_19 c6_20 c6_21 c6_22 c6_23
      have y70 := HU7.out.ownGe (show w.heap.size ≤ w2.heap.size by omega) 0
      have y71 := HU7.out.ownGe (show w.heap.size ≤ w2.heap.size by omega) 1
      have y72 := HU7.out.ownGe (show w.heap.size ≤ w2.heap.size by omega) 2
      have y73 := HU7.out.ownGe (show w.heap.size ≤ w2.heap.size by omega) 3
      have y74 := HU7.out.ownGe (show w.heap.size ≤ w2.heap.size by omega) 4
      have y75 := HU7.out.ownGe (show w.heap.size ≤ w2.heap.size by omega) 5
      have z0 := own2 HU7.out 0
      have z1 := own2 HU7.out 1
      have z2 := own2 HU7.out 2
      have z3 := own2 HU7.out 3
      have z4 := own2 HU7.out 4
      have z5 := own2 HU7.out 5
      go_wp2_with fail
      refine bodyPost_ret (v := .tuple #[.agg #[.int .i64 m1, .int .i64 c1, .int .i64 m1, .int .i64 c1, .int .i64 m3, .int .i64 c3], .bool true]) (by simp [results, Try.results28, go_sem, c7_12, c7_13, c7_14, c7_15, c7_16, c7_17]) rfl ⟨?_, ?_⟩
      · rfl
      · ((repeat (first | (with_reducible exact Up.refl _) | (with_reducible exact HU7.out) | (with_reducible refine Up.alloc ?_ _ _) | (with_reducible refine Up.setCell ?_ ?_ _) | (with_reducible refine Up.drewN ?_ _) | (with_reducible refine Up.drew ?_))); all_goals (first | (simp; done) | (simp; omega) | omega))
    have u6 := decide_eq_false t6
    rw [u6, pk_false, pk_false]
    unfold meet3
    by_cases t7 : 0 < cmpR n2 d2 m3 c3
    case pos =>
      have u7 := decide_eq_true t7
      rw [u7, pk_true, pk_true]
      generalize cmpR m1 c1 n1 d1 = x3 at *
      generalize cmpR m3 c3 n3 d3 = x4 at *
      clear in1 id1 in2 id2 in3 id3 im1 ic1 im2 ic2 im3 ic3 va vb
      generalize cmpR m1 c1 m3 c3 = x5 at *
      generalize cmpR n2 d2 m1 c1 = x6 at *
      generalize cmpR n2 d2 m3 c3 = x8 at *
      clear t5 t6 t7
      go_enter Try.func28, Try.ntmps28
      go_wp2_with fail
      refine (H1.out _).mono ?_
      rintro e w1 ⟨rfl, hu1⟩
      try unfold got2
      have c1_0 := hu1.keep (w.heap.size) (0) (.int .i64 n1) (by simp [go_sem, *])
      have c1_1 := hu1.keep (w.heap.size) (1) (.int .i64 d1) (by simp [go_sem, *])
      have c1_2 := hu1.keep (w.heap.size) (2) (.int .i64 n2) (by simp [go_sem, *])
      have c1_3 := hu1.keep (w.heap.size) (3) (.int .i64 d2) (by simp [go_sem, *])
      have c1_4 := hu1.keep (w.heap.size) (4) (.int .i64 n3) (by simp [go_sem, *])
      have c1_5 := hu1.keep (w.heap.size) (5) (.int .i64 d3) (by simp [go_sem, *])
      have c1_6 := hu1.keep (w.heap.size + 1) (0) (.int .i64 m1) (by simp [go_sem, *])
      have c1_7 := hu1.keep (w.heap.size + 1) (1) (.int .i64 c1) (by simp [go_sem, *])
      have c1_8 := hu1.keep (w.heap.size + 1) (2) (.int .i64 m2) (by simp [go_sem, *])
      have c1_9 := hu1.keep (w.heap.size + 1) (3) (.int .i64 c2) (by simp [go_sem, *])
      have c1_10 := hu1.keep (w.heap.size + 1) (4) (.int .i64 m3) (by simp [go_sem, *])
      have c1_11 := hu1.keep (w.heap.size + 1) (5) (.int .i64 c3) (by simp [go_sem, *])
      have c1_12 := hu1.keep (w.heap.size + 1 + 1) (0) (.int .i64 0) (by simp [go_sem, *])
      have c1_13 := hu1.keep (w.heap.size + 1 + 1) (1) (.int .i64 0) (by simp [go_sem, *])
      have c1_14 := hu1.keep (w.heap.size + 1 + 1) (2) (.int .i64 0) (by simp [go_sem, *])
      have c1_15 := hu1.keep (w.heap.size + 1 + 1) (3) (.int .i64 0) (by simp [go_sem, *])
      have c1_16 := hu1.keep (w.heap.size + 1 + 1) (4) (.int .i64 0) (by simp [go_sem, *])
      have c1_17 := hu1.keep (w.heap.size + 1 + 1) (5) (.int .i64 0) (by simp [go_sem, *])
      have l1_0 : w.heap.size < w1.heap.size := World.block_lt_of_cell? _ _ c1_0
      have m1_0 : w.heap.size < w1.heap.size + 1 := by omega
      have n1_0 : w.heap.size < w1.heap.size + 1 + 1 := by omega
      have x1_0 : ¬ w1.heap.size = w.heap.size := by omega
      have y1_0 : ¬ w1.heap.size + 1 = w.heap.size := by omega
      have l1_1 : w.heap.size + 1 < w1.heap.size := World.block_lt_of_cell? _ _ c1_6
      have m1_1 : w.heap.size + 1 < w1.heap.size + 1 := by omega
      have n1_1 : w.heap.size + 1 < w1.heap.size + 1 + 1 := by omega
      have x1_1 : ¬ w1.heap.size = w.heap.size + 1 := by omega
      have y1_1 : ¬ w1.heap.size + 1 = w.heap.size + 1 := by omega
      have l1_2 : w.heap.size + 1 + 1 < w1.heap.size := World.block_lt_of_cell? _ _ c1_12
      have m1_2 : w.heap.size + 1 + 1 < w1.heap.size + 1 := by omega
      have n1_2 : w.heap.size + 1 + 1 < w1.heap.size + 1 + 1 := by omega
      have x1_2 : ¬ w1.heap.size = w.heap.size + 1 + 1 := by omega
      have y1_2 : ¬ w1.heap.size + 1 = w.heap.size + 1 + 1 := by omega
      have HU1 : Hid (Up w w1) := Lib.hid (by ((repeat (first | (with_reducible exact Up.refl _) | (with_reducible refine Up.trans ?_ hu1) | (with_reducible refine Up.alloc ?_ _ _) | (with_reducible refine Up.setCell ?_ ?_ _) | (with_reducible refine Up.drewN ?_ _) | (with_reducible refine Up.drew ?_))); all_goals (first | (simp; done) | (simp; omega) | omega)))
      clear hu1
      go_wp2_with fail
      refine (H2.out _).mono ?_
      rintro e w2 ⟨rfl, hu2⟩
      try unfold got2
      have c2_0 := hu2.keep (w.heap.size) (0) (.int .i64 n1) (by simp [go_sem, *])
      have c2_1 := hu2.keep (w.heap.size) (1) (.int .i64 d1) (by simp [go_sem, *])
      have c2_2 := hu2.keep (w.heap.size) (2) (.int .i64 n2) (by simp [go_sem, *])
      have c2_3 := hu2.keep (w.heap.size) (3) (.int .i64 d2) (by simp [go_sem, *])
      have c2_4 := hu2.keep (w.heap.size) (4) (.int .i64 n3) (by simp [go_sem, *])
      have c2_5 := hu2.keep (w.heap.size) (5) (.int .i64 d3) (by simp [go_sem, *])
      have c2_6 := hu2.keep (w.heap.size + 1) (0) (.int .i64 m1) (by simp [go_sem, *])
      have c2_7 := hu2.keep (w.heap.size + 1) (1) (.int .i64 c1) (by simp [go_sem, *])
      have c2_8 := hu2.keep (w.heap.size + 1) (2) (.int .i64 m2) (by simp [go_sem, *])
      have c2_9 := hu2.keep (w.heap.size + 1) (3) (.int .i64 c2) (by simp [go_sem, *])
      have c2_10 := hu2.keep (w.heap.size + 1) (4) (.int .i64 m3) (by simp [go_sem, *])
      have c2_11 := hu2.keep (w.heap.size + 1) (5) (.int .i64 c3) (by simp [go_sem, *])
      have c2_12 := hu2.keep (w.heap.size + 1 + 1) (0) (.int .i64 0) (by simp [go_sem, *])
      have c2_13 := hu2.keep (w.heap.size + 1 + 1) (1) (.int .i64 0) (by simp [go_sem, *])
      have c2_14 := hu2.keep (w.heap.size + 1 + 1) (2) (.int .i64 0) (by simp [go_sem, *])
      have c2_15 := hu2.keep (w.heap.size + 1 + 1) (3) (.int .i64 0) (by simp [go_sem, *])
      have c2_16 := hu2.keep (w.heap.size + 1 + 1) (4) (.int .i64 0) (by simp [go_sem, *])
      have c2_17 := hu2.keep (w.heap.size + 1 + 1) (5) (.int .i64 0) (by simp [go_sem, *])
      have l2_0 : w.heap.size < w2.heap.size := World.block_lt_of_cell? _ _ c2_0
      have m2_0 : w.heap.size < w2.heap.size + 1 := by omega
      have n2_0 : w.heap.size < w2.heap.size + 1 + 1 := by omega
      have x2_0 : ¬ w2.heap.size = w.heap.size := by omega
      have y2_0 : ¬ w2.heap.size + 1 = w.heap.size := by omega
      have l2_1 : w.heap.size + 1 < w2.heap.size := World.block_lt_of_cell? _ _ c2_6
      have m2_1 : w.heap.size + 1 < w2.heap.size + 1 := by omega
      have n2_1 : w.heap.size + 1 < w2.heap.size + 1 + 1 := by omega
      have x2_1 : ¬ w2.heap.size = w.heap.size + 1 := by omega
      have y2_1 : ¬ w2.heap.size + 1 = w.heap.size + 1 := by omega
      have l2_2 : w.heap.size + 1 + 1 < w2.heap.size := World.block_lt_of_cell? _ _ c2_12
      have m2_2 : w.heap.size + 1 + 1 < w2.heap.size + 1 := by omega
      have n2_2 : w.heap.size + 1 + 1 < w2.heap.size + 1 + 1 := by omega
      have x2_2 : ¬ w2.heap.size = w.heap.size + 1 + 1 := by omega
      have y2_2 : ¬ w2.heap.size + 1 = w.heap.size + 1 + 1 := by omega
      have HU2 : Hid (Up w w2) := Lib.hid (by ((repeat (first | (with_reducible exact Up.refl _) | (with_reducible exact HU1.out) | (with_reducible refine Up.trans ?_ hu2) | (with_reducible refine Up.alloc ?_ _ _) | (with_reducible refine Up.setCell ?_ ?_ _) | (with_reducible refine Up.drewN ?_ _) | (with_reducible refine Up.drew ?_))); all_goals (first | (simp; done) | (simp; omega) | omega)))
      clear hu2 c1_0 c1_1 c1_2 c1_3 c1_4 c1_5 c1_6 c1_7 c1_8 c1_9 c1_10 c1_11 c1_12 c1_13 c1_14 c1_15 c1_16 c1_17
      go_wp2_with fail
      refine (H3.out _).mono ?_
      rintro e w3 ⟨rfl, hu3⟩
      try unfold got2
      have c3_0 := hu3.keep (w.heap.size) (0) (.int .i64 n1) (by simp [go_sem, *])
      have c3_1 := hu3.keep (w.heap.size) (1) (.int .i64 d1) (by simp [go_sem, *])
      have c3_2 := hu3.keep (w.heap.size) (2) (.int .i64 n2) (by simp [go_sem, *])
      have c3_3 := hu3.keep (w.heap.size) (3) (.int .i64 d2) (by simp [go_sem, *])
      have c3_4 := hu3.keep (w.heap.size) (4) (.int .i64 n3) (by simp [go_sem, *])
      have c3_5 := hu3.keep (w.heap.size) (5) (.int .i64 d3) (by simp [go_sem, *])
      have c3_6 := hu3.keep (w.heap.size + 1) (0) (.int .i64 m1) (by simp [go_sem, *])
      have c3_7 := hu3.keep (w.heap.size + 1) (1) (.int .i64 c1) (by simp [go_sem, *])
      have c3_8 := hu3.keep (w.heap.size + 1) (2) (.int .i64 m2) (by simp [go_sem, *])
      have c3_9 := hu3.keep (w.heap.size + 1) (3) (.int .i64 c2) (by simp [go_sem, *])
      have c3_10 := hu3.keep (w.heap.size + 1) (4) (.int .i64 m3) (by simp [go_sem, *])
      have c3_11 := hu3.keep (w.heap.size + 1) (5) (.int .i64 c3) (by simp [go_sem, *])
      have c3_12 := hu3.keep (w.heap.size + 1 + 1) (0) (.int .i64 0) (by simp [go_sem, *])
      have c3_13 := hu3.keep (w.heap.size + 1 + 1) (1) (.int .i64 0) (by simp [go_sem, *])
      have c3_14 := hu3.keep (w.heap.size + 1 + 1) (2) (.int .i64 0) (by simp [go_sem, *])
      have c3_15 := hu3.keep (w.heap.size + 1 + 1) (3) (.int .i64 0) (by simp [go_sem, *])
      have c3_16 := hu3.keep (w.heap.size + 1 + 1) (4) (.int .i64 0) (by simp [go_sem, *])
      have c3_17 := hu3.keep (w.heap.size + 1 + 1) (5) (.int .i64 0) (by simp [go_sem, *])
      have c3_18 := hu3.keep (w2.heap.size) (0) (.int .i64 n1) (by simp [go_sem, *])
      have c3_19 := hu3.keep (w2.heap.size) (1) (.int .i64 d1) (by simp [go_sem, *])
      have c3_20 := hu3.keep (w2.heap.size) (2) (.int .i64 n2) (by simp [go_sem, *])
      have c3_21 := hu3.keep (w2.heap.size) (3) (.int .i64 d2) (by simp [go_sem, *])
      have c3_22 := hu3.keep (w2.heap.size) (4) (.int .i64 n3) (by simp [go_sem, *])
      have c3_23 := hu3.keep (w2.heap.size) (5) (.int .i64 d3) (by simp [go_sem, *])
      have l3_0 : w.heap.size < w3.heap.size := World.block_lt_of_cell? _ _ c3_0
      have m3_0 : w.heap.size < w3.heap.size + 1 := by omega
      have n3_0 : w.heap.size < w3.heap.size + 1 + 1 := by omega
      have x3_0 : ¬ w3.heap.size = w.heap.size := by omega
      have y3_0 : ¬ w3.heap.size + 1 = w.heap.size := by omega
      have l3_1 : w.heap.size + 1 < w3.heap.size := World.block_lt_of_cell? _ _ c3_6
      have m3_1 : w.heap.size + 1 < w3.heap.size + 1 := by omega
      have n3_1 : w.heap.size + 1 < w3.heap.size + 1 + 1 := by omega
      have x3_1 : ¬ w3.heap.size = w.heap.size + 1 := by omega
      have y3_1 : ¬ w3.heap.size + 1 = w.heap.size + 1 := by omega
      have l3_2 : w.heap.size + 1 + 1 < w3.heap.size := World.block_lt_of_cell? _ _ c3_12
      have m3_2 : w.heap.size + 1 + 1 < w3.heap.size + 1 := by omega
      have n3_2 : w.heap.size + 1 + 1 < w3.heap.size + 1 + 1 := by omega
      have x3_2 : ¬ w3.heap.size = w.heap.size + 1 + 1 := by omega
      have y3_2 : ¬ w3.heap.size + 1 = w.heap.size + 1 + 1 := by omega
      have l3_3 : w2.heap.size < w3.heap.size := World.block_lt_of_cell? _ _ c3_18
      have m3_3 : w2.heap.size < w3.heap.size + 1 := by omega
      have n3_3 : w2.heap.size < w3.heap.size + 1 + 1 := by omega
      have x3_3 : ¬ w3.heap.size = w2.heap.size := by omega
      have y3_3 : ¬ w3.heap.size + 1 = w2.heap.size := by omega
      have HU3 : Hid (Up w w3) := Lib.hid (by ((repeat (first | (with_reducible exact Up.refl _) | (with_reducible exact HU2.out) | (with_reducible refine Up.trans ?_ hu3) | (with_reducible refine Up.alloc ?_ _ _) | (with_reducible refine Up.setCell ?_ ?_ _) | (with_reducible refine Up.drewN ?_ _) | (with_reducible refine Up.drew ?_))); all_goals (first | (simp; done) | (simp; omega) | omega)))
      clear hu3 c2_0 c2_1 c2_2 c2_3 c2_4 c2_5 c2_6 c2_7 c2_8 c2_9 c2_10 c2_11 c2_12 c2_13 c2_14 c2_15 c2_16 c2_17
      have y30 := HU3.out.ownGe (show w.heap.size ≤ w2.heap.size by omega) 0
      have y31 := HU3.out.ownGe (show w.heap.size ≤ w2.heap.size by omega) 1
      have y32 := HU3.out.ownGe (show w.heap.size ≤ w2.heap.size by omega) 2
      have y33 := HU3.out.ownGe (show w.heap.size ≤ w2.heap.size by omega) 3
      have y34 := HU3.out.ownGe (show w.heap.size ≤ w2.heap.size by omega) 4
      have y35 := HU3.out.ownGe (show w.heap.size ≤ w2.heap.size by omega) 5
      go_wp2_with fail
      refine (H4.out _).mono ?_
      rintro e w4 ⟨rfl, hu4⟩
      try unfold got2
      have c4_0 := hu4.keep (w.heap.size) (0) (.int .i64 n1) (by simp [go_sem, *])
      have c4_1 := hu4.keep (w.heap.size) (1) (.int .i64 d1) (by simp [go_sem, *])
      have c4_2 := hu4.keep (w.heap.size) (2) (.int .i64 n2) (by simp [go_sem, *])
      have c4_3 := hu4.keep (w.heap.size) (3) (.int .i64 d2) (by simp [go_sem, *])
      have c4_4 := hu4.keep (w.heap.size) (4) (.int .i64 n3) (by simp [go_sem, *])
      have c4_5 := hu4.keep (w.heap.size) (5) (.int .i64 d3) (by simp [go_sem, *])
      have c4_6 := hu4.keep (w.heap.size + 1) (0) (.int .i64 m1) (by simp [go_sem, *])
      have c4_7 := hu4.keep (w.heap.size + 1) (1) (.int .i64 c1) (by simp [go_sem, *])
      have c4_8 := hu4.keep (w.heap.size + 1) (2) (.int .i64 m2) (by simp [go_sem, *])
      have c4_9 := hu4.keep (w.heap.size + 1) (3) (.int .i64 c2) (by simp [go_sem, *])
      have c4_10 := hu4.keep (w.heap.size + 1) (4) (.int .i64 m3) (by simp [go_sem, *])
      have c4_11 := hu4.keep (w.heap.size + 1) (5) (.int .i64 c3) (by simp [go_sem, *])
      have c4_12 := hu4.keep (w.heap.size + 1 + 1) (0) (.int .i64 0) (by simp [go_sem, *])
      have c4_13 := hu4.keep (w.heap.size + 1 + 1) (1) (.int .i64 0) (by simp [go_sem, *])
      have c4_14 := hu4.keep (w.heap.size + 1 + 1) (2) (.int .i64 0) (by simp [go_sem, *])
      have c4_15 := hu4.keep (w.heap.size + 1 + 1) (3) (.int .i64 0) (by simp [go_sem, *])
      have c4_16 := hu4.keep (w.heap.size + 1 + 1) (4) (.int .i64 0) (by simp [go_sem, *])
      have c4_17 := hu4.keep (w.heap.size + 1 + 1) (5) (.int .i64 0) (by simp [go_sem, *])
      have c4_18 := hu4.keep (w2.heap.size) (0) (.int .i64 m1) (by simp [go_sem, *])
      have c4_19 := hu4.keep (w2.heap.size) (1) (.int .i64 c1) (by simp [go_sem, *])
      have c4_20 := hu4.keep (w2.heap.size) (2) (.int .i64 n2) (by simp [go_sem, *])
      have c4_21 := hu4.keep (w2.heap.size) (3) (.int .i64 d2) (by simp [go_sem, *])
      have c4_22 := hu4.keep (w2.heap.size) (4) (.int .i64 n3) (by simp [go_sem, *])
      have c4_23 := hu4.keep (w2.heap.size) (5) (.int .i64 d3) (by simp [go_sem, *])
      have l4_0 : w.heap.size < w4.heap.size := World.block_lt_of_cell? _ _ c4_0
      have m4_0 : w.heap.size < w4.heap.size + 1 := by omega
      have n4_0 : w.heap.size < w4.heap.size + 1 + 1 := by omega
      have x4_0 : ¬ w4.heap.size = w.heap.size := by omega
      have y4_0 : ¬ w4.heap.size + 1 = w.heap.size := by omega
      have l4_1 : w.heap.size + 1 < w4.heap.size := World.block_lt_of_cell? _ _ c4_6
      have m4_1 : w.heap.size + 1 < w4.heap.size + 1 := by omega
      have n4_1 : w.heap.size + 1 < w4.heap.size + 1 + 1 := by omega
      have x4_1 : ¬ w4.heap.size = w.heap.size + 1 := by omega
      have y4_1 : ¬ w4.heap.size + 1 = w.heap.size + 1 := by omega
      have l4_2 : w.heap.size + 1 + 1 < w4.heap.size := World.block_lt_of_cell? _ _ c4_12
      have m4_2 : w.heap.size + 1 + 1 < w4.heap.size + 1 := by omega
      have n4_2 : w.heap.size + 1 + 1 < w4.heap.size + 1 + 1 := by omega
      have x4_2 : ¬ w4.heap.size = w.heap.size + 1 + 1 := by omega
      have y4_2 : ¬ w4.heap.size + 1 = w.heap.size + 1 + 1 := by omega
      have l4_3 : w2.heap.size < w4.heap.size := World.block_lt_of_cell? _ _ c4_18
      have m4_3 : w2.heap.size < w4.heap.size + 1 := by omega
      have n4_3 : w2.heap.size < w4.heap.size + 1 + 1 := by omega
      have x4_3 : ¬ w4.heap.size = w2.heap.size := by omega
      have y4_3 : ¬ w4.heap.size + 1 = w2.heap.size := by omega
      have HU4 : Hid (Up w w4) := Lib.hid (by ((repeat (first | (with_reducible exact Up.refl _) | (with_reducible exact HU3.out) | (with_reducible refine Up.trans ?_ hu4) | (with_reducible refine Up.alloc ?_ _ _) | (with_reducible refine Up.setCell ?_ ?_ _) | (with_reducible refine Up.drewN ?_ _) | (with_reducible refine Up.drew ?_))); all_goals (first | (simp; done) | (simp; omega) | omega)))
      clear hu4 c3_0 c3_1 c3_2 c3_3 c3_4 c3_5 c3_6 c3_7 c3_8 c3_9 c3_10 c3_11 c3_12 c3_13 c3_14 c3_15 c3_16 c3_17 c3_18 c3_19 c3_20 c3_21 c3_22 c3_23
      have y40 := HU4.out.ownGe (show w.heap.size ≤ w2.heap.size by omega) 0
      have y41 := HU4.out.ownGe (show w.heap.size ≤ w2.heap.size by omega) 1
      have y42 := HU4.out.ownGe (show w.heap.size ≤ w2.heap.size by omega) 2
      have y43 := HU4.out.ownGe (show w.heap.size ≤ w2.heap.size by omega) 3
      have y44 := HU4.out.ownGe (show w.heap.size ≤ w2.heap.size by omega) 4
      have y45 := HU4.out.ownGe (show w.heap.size ≤ w2.heap.size by omega) 5
      go_wp2_with fail
      refine (H5.out _).mono ?_
      rintro e w5 ⟨rfl, hu5⟩
      try unfold got2
      have c5_0 := hu5.keep (w.heap.size) (0) (.int .i64 n1) (by simp [go_sem, *])
      have c5_1 := hu5.keep (w.heap.size) (1) (.int .i64 d1) (by simp [go_sem, *])
      have c5_2 := hu5.keep (w.heap.size) (2) (.int .i64 n2) (by simp [go_sem, *])
      have c5_3 := hu5.keep (w.heap.size) (3) (.int .i64 d2) (by simp [go_sem, *])
      have c5_4 := hu5.keep (w.heap.size) (4) (.int .i64 n3) (by simp [go_sem, *])
      have c5_5 := hu5.keep (w.heap.size) (5) (.int .i64 d3) (by simp [go_sem, *])
      have c5_6 := hu5.keep (w.heap.size + 1) (0) (.int .i64 m1) (by simp [go_sem, *])
      have c5_7 := hu5.keep (w.heap.size + 1) (1) (.int .i64 c1) (by simp [go_sem, *])
      have c5_8 := hu5.keep (w.heap.size + 1) (2) (.int .i64 m2) (by simp [go_sem, *])
      have c5_9 := hu5.keep (w.heap.size + 1) (3) (.int .i64 c2) (by simp [go_sem, *])
      have c5_10 := hu5.keep (w.heap.size + 1) (4) (.int .i64 m3) (by simp [go_sem, *])
      have c5_11 := hu5.keep (w.heap.size + 1) (5) (.int .i64 c3) (by simp [go_sem, *])
      have c5_12 := hu5.keep (w.heap.size + 1 + 1) (0) (.int .i64 0) (by simp [go_sem, *])
      have c5_13 := hu5.keep (w.heap.size + 1 + 1) (1) (.int .i64 0) (by simp [go_sem, *])
      have c5_14 := hu5.keep (w.heap.size + 1 + 1) (2) (.int .i64 0) (by simp [go_sem, *])
      have c5_15 := hu5.keep (w.heap.size + 1 + 1) (3) (.int .i64 0) (by simp [go_sem, *])
      have c5_16 := hu5.keep (w.heap.size + 1 + 1) (4) (.int .i64 0) (by simp [go_sem, *])
      have c5_17 := hu5.keep (w.heap.size + 1 + 1) (5) (.int .i64 0) (by simp [go_sem, *])
      have c5_18 := hu5.keep (w2.heap.size) (0) (.int .i64 m1) (by simp [go_sem, *])
      have c5_19 := hu5.keep (w2.heap.size) (1) (.int .i64 c1) (by simp [go_sem, *])
      have c5_20 := hu5.keep (w2.heap.size) (2) (.int .i64 n2) (by simp [go_sem, *])
      have c5_21 := hu5.keep (w2.heap.size) (3) (.int .i64 d2) (by simp [go_sem, *])
      have c5_22 := hu5.keep (w2.heap.size) (4) (.int .i64 m3) (by simp [go_sem, *])
      have c5_23 := hu5.keep (w2.heap.size) (5) (.int .i64 c3) (by simp [go_sem, *])
      have l5_0 : w.heap.size < w5.heap.size := World.block_lt_of_cell? _ _ c5_0
      have m5_0 : w.heap.size < w5.heap.size + 1 := by omega
      have n5_0 : w.heap.size < w5.heap.size + 1 + 1 := by omega
      have x5_0 : ¬ w5.heap.size = w.heap.size := by omega
      have y5_0 : ¬ w5.heap.size + 1 = w.heap.size := by omega
      have l5_1 : w.heap.size + 1 < w5.heap.size := World.block_lt_of_cell? _ _ c5_6
      have m5_1 : w.heap.size + 1 < w5.heap.size + 1 := by omega
      have n5_1 : w.heap.size + 1 < w5.heap.size + 1 + 1 := by omega
      have x5_1 : ¬ w5.heap.size = w.heap.size + 1 := by omega
      have y5_1 : ¬ w5.heap.size + 1 = w.heap.size + 1 := by omega
      have l5_2 : w.heap.size + 1 + 1 < w5.heap.size := World.block_lt_of_cell? _ _ c5_12
      have m5_2 : w.heap.size + 1 + 1 < w5.heap.size + 1 := by omega
      have n5_2 : w.heap.size + 1 + 1 < w5.heap.size + 1 + 1 := by omega
      have x5_2 : ¬ w5.heap.size = w.heap.size + 1 + 1 := by omega
      have y5_2 : ¬ w5.heap.size + 1 = w.heap.size + 1 + 1 := by omega
      have l5_3 : w2.heap.size < w5.heap.size := World.block_lt_of_cell? _ _ c5_18
      have m5_3 : w2.heap.size < w5.heap.size + 1 := by omega
      have n5_3 : w2.heap.size < w5.heap.size + 1 + 1 := by omega
      have x5_3 : ¬ w5.heap.size = w2.heap.size := by omega
      have y5_3 : ¬ w5.heap.size + 1 = w2.heap.size := by omega
      have HU5 : Hid (Up w w5) := Lib.hid (by ((repeat (first | (with_reducible exact Up.refl _) | (with_reducible exact HU4.out) | (with_reducible refine Up.trans ?_ hu5) | (with_reducible refine Up.alloc ?_ _ _) | (with_reducible refine Up.setCell ?_ ?_ _) | (with_reducible refine Up.drewN ?_ _) | (with_reducible refine Up.drew ?_))); all_goals (first | (simp; done) | (simp; omega) | omega)))
      clear hu5 c4_0 c4_1 c4_2 c4_3 c4_4 c4_5 c4_6 c4_7 c4_8 c4_9 c4_10 c4_11 c4_12 c4_13 c4_14 c4_15 c4_16 c4_17 c4_18 c4_19 c4_20 c4_21 c4_22 c4_23
      have y50 := HU5.out.ownGe (show w.heap.size ≤ w2.heap.size by omega) 0
      have y51 := HU5.out.ownGe (show w.heap.size ≤ w2.heap.size by omega) 1
      have y52 := HU5.out.ownGe (show w.heap.size ≤ w2.heap.size by omega) 2
      have y53 := HU5.out.ownGe (show w.heap.size ≤ w2.heap.size by omega) 3
      have y54 := HU5.out.ownGe (show w.heap.size ≤ w2.heap.size by omega) 4
      have y55 := HU5.out.ownGe (show w.heap.size ≤ w2.heap.size by omega) 5
      go_wp2_with fail
      refine (H6.out _).mono ?_
      rintro e w6 ⟨rfl, hu6⟩
      try unfold got2
      have c6_0 := hu6.keep (w.heap.size) (0) (.int .i64 n1) (by simp [go_sem, *])
      have c6_1 := hu6.keep (w.heap.size) (1) (.int .i64 d1) (by simp [go_sem, *])
      have c6_2 := hu6.keep (w.heap.size) (2) (.int .i64 n2) (by simp [go_sem, *])
      have c6_3 := hu6.keep (w.heap.size) (3) (.int .i64 d2) (by simp [go_sem, *])
      have c6_4 := hu6.keep (w.heap.size) (4) (.int .i64 n3) (by simp [go_sem, *])
      have c6_5 := hu6.keep (w.heap.size) (5) (.int .i64 d3) (by simp [go_sem, *])
      have c6_6 := hu6.keep (w.heap.size + 1) (0) (.int .i64 m1) (by simp [go_sem, *])
      have c6_7 := hu6.keep (w.heap.size + 1) (1) (.int .i64 c1) (by simp [go_sem, *])
      have c6_8 := hu6.keep (w.heap.size + 1) (2) (.int .i64 m2) (by simp [go_sem, *])
      have c6_9 := hu6.keep (w.heap.size + 1) (3) (.int .i64 c2) (by simp [go_sem, *])
      have c6_10 := hu6.keep (w.heap.size + 1) (4) (.int .i64 m3) (by simp [go_sem, *])
      have c6_11 := hu6.keep (w.heap.size + 1) (5) (.int .i64 c3) (by simp [go_sem, *])
      have c6_12 := hu6.keep (w.heap.size + 1 + 1) (0) (.int .i64 0) (by simp [go_sem, *])
      have c6_13 := hu6.keep (w.heap.size + 1 + 1) (1) (.int .i64 0) (by simp [go_sem, *])
      have c6_14 := hu6.keep (w.heap.size + 1 + 1) (2) (.int .i64 0) (by simp [go_sem, *])
      have c6_15 := hu6.keep (w.heap.size + 1 + 1) (3) (.int .i64 0) (by simp [go_sem, *])
      have c6_16 := hu6.keep (w.heap.size + 1 + 1) (4) (.int .i64 0) (by simp [go_sem, *])
      have c6_17 := hu6.keep (w.heap.size + 1 + 1) (5) (.int .i64 0) (by simp [go_sem, *])
      have c6_18 := hu6.keep (w2.heap.size) (0) (.int .i64 m1) (by simp [go_sem, *])
      have c6_19 := hu6.keep (w2.heap.size) (1) (.int .i64 c1) (by simp [go_sem, *])
      have c6_20 := hu6.keep (w2.heap.size) (2) (.int .i64 n2) (by simp [go_sem, *])
      have c6_21 := hu6.keep (w2.heap.size) (3) (.int .i64 d2) (by simp [go_sem, *])
      have c6_22 := hu6.keep (w2.heap.size) (4) (.int .i64 m3) (by simp [go_sem, *])
      have c6_23 := hu6.keep (w2.heap.size) (5) (.int .i64 c3) (by simp [go_sem, *])
      have l6_0 : w.heap.size < w6.heap.size := World.block_lt_of_cell? _ _ c6_0
      have m6_0 : w.heap.size < w6.heap.size + 1 := by omega
      have n6_0 : w.heap.size < w6.heap.size + 1 + 1 := by omega
      have x6_0 : ¬ w6.heap.size = w.heap.size := by omega
      have y6_0 : ¬ w6.heap.size + 1 = w.heap.size := by omega
      have l6_1 : w.heap.size + 1 < w6.heap.size := World.block_lt_of_cell? _ _ c6_6
      have m6_1 : w.heap.size + 1 < w6.heap.size + 1 := by omega
      have n6_1 : w.heap.size + 1 < w6.heap.size + 1 + 1 := by omega
      have x6_1 : ¬ w6.heap.size = w.heap.size + 1 := by omega
      have y6_1 : ¬ w6.heap.size + 1 = w.heap.size + 1 := by omega
      have l6_2 : w.heap.size + 1 + 1 < w6.heap.size := World.block_lt_of_cell? _ _ c6_12
      have m6_2 : w.heap.size + 1 + 1 < w6.heap.size + 1 := by omega
      have n6_2 : w.heap.size + 1 + 1 < w6.heap.size + 1 + 1 := by omega
      have x6_2 : ¬ w6.heap.size = w.heap.size + 1 + 1 := by omega
      have y6_2 : ¬ w6.heap.size + 1 = w.heap.size + 1 + 1 := by omega
      have l6_3 : w2.heap.size < w6.heap.size := World.block_lt_of_cell? _ _ c6_18
      have m6_3 : w2.heap.size < w6.heap.size + 1 := by omega
      have n6_3 : w2.heap.size < w6.heap.size + 1 + 1 := by omega
      have x6_3 : ¬ w6.heap.size = w2.heap.size := by omega
      have y6_3 : ¬ w6.heap.size + 1 = w2.heap.size := by omega
      have HU6 : Hid (Up w w6) := Lib.hid (by ((repeat (first | (with_reducible exact Up.refl _) | (with_reducible exact HU5.out) | (with_reducible refine Up.trans ?_ hu6) | (with_reducible refine Up.alloc ?_ _ _) | (with_reducible refine Up.setCell ?_ ?_ _) | (with_reducible refine Up.drewN ?_ _) | (with_reducible refine Up.drew ?_))); all_goals (first | (simp; done) | (simp; omega) | omega)))
      clear hu6 c5_0 c5_1 c5_2 c5_3 c5_4 c5_5 c5_6 c5_7 c5_8 c5_9 c5_10 c5_11 c5_12 c5_13 c5_14 c5_15 c5_16 c5_17 c5_18 c5_19 c5_20 c5_21 c5_22 c5_23
      have y60 := HU6.out.ownGe (show w.heap.size ≤ w2.heap.size by omega) 0
      have y61 := HU6.out.ownGe (show w.heap.size ≤ w2.heap.size by omega) 1
      have y62 := HU6.out.ownGe (show w.heap.size ≤ w2.heap.size by omega) 2
      have y63 := HU6.out.ownGe (show w.heap.size ≤ w2.heap.size by omega) 3
      have y64 := HU6.out.ownGe (show w.heap.size ≤ w2.heap.size by omega) 4
      have y65 := HU6.out.ownGe (show w.heap.size ≤ w2.heap.size by omega) 5
      go_wp2_with fail
      refine (H8.out _).mono ?_
      rintro e w7 ⟨rfl, hu7⟩
      try unfold got2
      have c7_0 := hu7.keep (w.heap.size) (0) (.int .i64 n1) (by simp [go_sem, *])
      have c7_1 := hu7.keep (w.heap.size) (1) (.int .i64 d1) (by simp [go_sem, *])
      have c7_2 := hu7.keep (w.heap.size) (2) (.int .i64 n2) (by simp [go_sem, *])
      have c7_3 := hu7.keep (w.heap.size) (3) (.int .i64 d2) (by simp [go_sem, *])
      have c7_4 := hu7.keep (w.heap.size) (4) (.int .i64 n3) (by simp [go_sem, *])
      have c7_5 := hu7.keep (w.heap.size) (5) (.int .i64 d3) (by simp [go_sem, *])
      have c7_6 := hu7.keep (w.heap.size + 1) (0) (.int .i64 m1) (by simp [go_sem, *])
      have c7_7 := hu7.keep (w.heap.size + 1) (1) (.int .i64 c1) (by simp [go_sem, *])
      have c7_8 := hu7.keep (w.heap.size + 1) (2) (.int .i64 m2) (by simp [go_sem, *])
      have c7_9 := hu7.keep (w.heap.size + 1) (3) (.int .i64 c2) (by simp [go_sem, *])
      have c7_10 := hu7.keep (w.heap.size + 1) (4) (.int .i64 m3) (by simp [go_sem, *])
      have c7_11 := hu7.keep (w.heap.size + 1) (5) (.int .i64 c3) (by simp [go_sem, *])
      have c7_12 := hu7.keep (w.heap.size + 1 + 1) (0) (.int .i64 0) (by simp [go_sem, *])
      have c7_13 := hu7.keep (w.heap.size + 1 + 1) (1) (.int .i64 0) (by simp [go_sem, *])
      have c7_14 := hu7.keep (w.heap.size + 1 + 1) (2) (.int .i64 0) (by simp [go_sem, *])
      have c7_15 := hu7.keep (w.heap.size + 1 + 1) (3) (.int .i64 0) (by simp [go_sem, *])
      have c7_16 := hu7.keep (w.heap.size + 1 + 1) (4) (.int .i64 0) (by simp [go_sem, *])
      have c7_17 := hu7.keep (w.heap.size + 1 + 1) (5) (.int .i64 0) (by simp [go_sem, *])
      have c7_18 := hu7.keep (w2.heap.size) (0) (.int .i64 m1) (by simp [go_sem, *])
      have c7_19 := hu7.keep (w2.heap.size) (1) (.int .i64 c1) (by simp [go_sem, *])
      have c7_20 := hu7.keep (w2.heap.size) (2) (.int .i64 n2) (by simp [go_sem, *])
      have c7_21 := hu7.keep (w2.heap.size) (3) (.int .i64 d2) (by simp [go_sem, *])
      have c7_22 := hu7.keep (w2.heap.size) (4) (.int .i64 m3) (by simp [go_sem, *])
      have c7_23 := hu7.keep (w2.heap.size) (5) (.int .i64 c3) (by simp [go_sem, *])
      have l7_0 : w.heap.size < w7.heap.size := World.block_lt_of_cell? _ _ c7_0
      have m7_0 : w.heap.size < w7.heap.size + 1 := by omega
      have n7_0 : w.heap.size < w7.heap.size + 1 + 1 := by omega
      have x7_0 : ¬ w7.heap.size = w.heap.size := by omega
      have y7_0 : ¬ w7.heap.size + 1 = w.heap.size := by omega
      have l7_1 : w.heap.size + 1 < w7.heap.size := World.block_lt_of_cell? _ _ c7_6
      have m7_1 : w.heap.size + 1 < w7.heap.size + 1 := by omega
      have n7_1 : w.heap.size + 1 < w7.heap.size + 1 + 1 := by omega
      have x7_1 : ¬ w7.heap.size = w.heap.size + 1 := by omega
      have y7_1 : ¬ w7.heap.size + 1 = w.heap.size + 1 := by omega
      have l7_2 : w.heap.size + 1 + 1 < w7.heap.size := World.block_lt_of_cell? _ _ c7_12
      have m7_2 : w.heap.size + 1 + 1 < w7.heap.size + 1 := by omega
      have n7_2 : w.heap.size + 1 + 1 < w7.heap.size + 1 + 1 := by omega
      have x7_2 : ¬ w7.heap.size = w.heap.size + 1 + 1 := by omega
      have y7_2 : ¬ w7.heap.size + 1 = w.heap.size + 1 + 1 := by omega
      have l7_3 : w2.heap.size < w7.heap.size := World.block_lt_of_cell? _ _ c7_18
      have m7_3 : w2.heap.size < w7.heap.size + 1 := by omega
      have n7_3 : w2.heap.size < w7.heap.size + 1 + 1 := by omega
      have x7_3 : ¬ w7.heap.size = w2.heap.size := by omega
      have y7_3 : ¬ w7.heap.size + 1 = w2.heap.size := by omega
      have HU7 : Hid (Up w w7) := Lib.hid (by ((repeat (first | (with_reducible exact Up.refl _) | (with_reducible exact HU6.out) | (with_reducible refine Up.trans ?_ hu7) | (with_reducible refine Up.alloc ?_ _ _) | (with_reducible refine Up.setCell ?_ ?_ _) | (with_reducible refine Up.drewN ?_ _) | (with_reducible refine Up.drew ?_))); all_goals (first | (simp; done) | (simp; omega) | omega)))
      clear hu7 c6_0 c6_1 c6_2 c6_3 c6_4 c6_5 c6_6 c6_7 c6_8 c6_9 c6_10 c6_11 c6_12 c6_13 c6_14 c6_15 c6_16 c6_17 c6_18 c6_19 c6_20 c6_21 c6_22 c6_23
      have y70 := HU7.out.ownGe (show w.heap.size ≤ w2.heap.size by omega) 0
      have y71 := HU7.out.ownGe (show w.heap.size ≤ w2.heap.size by omega) 1
      have y72 := HU7.out.ownGe (show w.heap.size ≤ w2.heap.size by omega) 2
      have y73 := HU7.out.ownGe (show w.heap.size ≤ w2.heap.size by omega) 3
      have y74 := HU7.out.ownGe (show w.heap.size ≤ w2.heap.size by omega) 4
      have y75 := HU7.out.ownGe (show w.heap.size ≤ w2.heap.size by omega) 5
      have z0 := own2 HU7.out 0
      have z1 := own2 HU7.out 1
      have z2 := own2 HU7.out 2
      have z3 := own2 HU7.out 3
      have z4 := own2 HU7.out 4
      have z5 := own2 HU7.out 5
      go_wp2_with fail
      refine bodyPost_ret (v := .tuple #[.agg #[.int .i64 m1, .int .i64 c1, .int .i64 m3, .int .i64 c3, .int .i64 m3, .int .i64 c3], .bool true]) (by simp [results, Try.results28, go_sem, c7_12, c7_13, c7_14, c7_15, c7_16, c7_17]) rfl ⟨?_, ?_⟩
      · rfl
      · ((repeat (first | (with_reducible exact Up.refl _) | (with_reducible exact HU7.out) | (with_reducible refine Up.alloc ?_ _ _) | (with_reducible refine Up.setCell ?_ ?_ _) | (with_reducible refine Up.drewN ?_ _) | (with_reducible refine Up.drew ?_))); all_goals (first | (simp; done) | (simp; omega) | omega))
    have u7 := decide_eq_false t7
    rw [u7, pk_false, pk_false]
    generalize cmpR m1 c1 n1 d1 = x3 at *
    generalize cmpR m3 c3 n3 d3 = x4 at *
    clear in1 id1 in2 id2 in3 id3 im1 ic1 im2 ic2 im3 ic3 va vb
    generalize cmpR m1 c1 m3 c3 = x5 at *
    generalize cmpR n2 d2 m1 c1 = x6 at *
    generalize cmpR n2 d2 m3 c3 = x8 at *
    clear t5 t6 t7
    go_enter Try.func28, Try.ntmps28
    go_wp2_with fail
    refine (H1.out _).mono ?_
    rintro e w1 ⟨rfl, hu1⟩
    try unfold got2
    have c1_0 := hu1.keep (w.heap.size) (0) (.int .i64 n1) (by simp [go_sem, *])
    have c1_1 := hu1.keep (w.heap.size) (1) (.int .i64 d1) (by simp [go_sem, *])
    have c1_2 := hu1.keep (w.heap.size) (2) (.int .i64 n2) (by simp [go_sem, *])
    have c1_3 := hu1.keep (w.heap.size) (3) (.int .i64 d2) (by simp [go_sem, *])
    have c1_4 := hu1.keep (w.heap.size) (4) (.int .i64 n3) (by simp [go_sem, *])
    have c1_5 := hu1.keep (w.heap.size) (5) (.int .i64 d3) (by simp [go_sem, *])
    have c1_6 := hu1.keep (w.heap.size + 1) (0) (.int .i64 m1) (by simp [go_sem, *])
    have c1_7 := hu1.keep (w.heap.size + 1) (1) (.int .i64 c1) (by simp [go_sem, *])
    have c1_8 := hu1.keep (w.heap.size + 1) (2) (.int .i64 m2) (by simp [go_sem, *])
    have c1_9 := hu1.keep (w.heap.size + 1) (3) (.int .i64 c2) (by simp [go_sem, *])
    have c1_10 := hu1.keep (w.heap.size + 1) (4) (.int .i64 m3) (by simp [go_sem, *])
    have c1_11 := hu1.keep (w.heap.size + 1) (5) (.int .i64 c3) (by simp [go_sem, *])
    have c1_12 := hu1.keep (w.heap.size + 1 + 1) (0) (.int .i64 0) (by simp [go_sem, *])
    have c1_13 := hu1.keep (w.heap.size + 1 + 1) (1) (.int .i64 0) (by simp [go_sem, *])
    have c1_14 := hu1.keep (w.heap.size + 1 + 1) (2) (.int .i64 0) (by simp [go_sem, *])
    have c1_15 := hu1.keep (w.heap.size + 1 + 1) (3) (.int .i64 0) (by simp [go_sem, *])
    have c1_16 := hu1.keep (w.heap.size + 1 + 1) (4) (.int .i64 0) (by simp [go_sem, *])
    have c1_17 := hu1.keep (w.heap.size + 1 + 1) (5) (.int .i64 0) (by simp [go_sem, *])
    have l1_0 : w.heap.size < w1.heap.size := World.block_lt_of_cell? _ _ c1_0
    have m1_0 : w.heap.size < w1.heap.size + 1 := by omega
    have n1_0 : w.heap.size < w1.heap.size + 1 + 1 := by omega
    have x1_0 : ¬ w1.heap.size = w.heap.size := by omega
    have y1_0 : ¬ w1.heap.size + 1 = w.heap.size := by omega
    have l1_1 : w.heap.size + 1 < w1.heap.size := World.block_lt_of_cell? _ _ c1_6
    have m1_1 : w.heap.size + 1 < w1.heap.size + 1 := by omega
    have n1_1 : w.heap.size + 1 < w1.heap.size + 1 + 1 := by omega
    have x1_1 : ¬ w1.heap.size = w.heap.size + 1 := by omega
    have y1_1 : ¬ w1.heap.size + 1 = w.heap.size + 1 := by omega
    have l1_2 : w.heap.size + 1 + 1 < w1.heap.size := World.block_lt_of_cell? _ _ c1_12
    have m1_2 : w.heap.size + 1 + 1 < w1.heap.size + 1 := by omega
    have n1_2 : w.heap.size + 1 + 1 < w1.heap.size + 1 + 1 := by omega
    have x1_2 : ¬ w1.heap.size = w.heap.size + 1 + 1 := by omega
    have y1_2 : ¬ w1.heap.size + 1 = w.heap.size + 1 + 1 := by omega
    have HU1 : Hid (Up w w1) := Lib.hid (by ((repeat (first | (with_reducible exact Up.refl _) | (with_reducible refine Up.trans ?_ hu1) | (with_reducible refine Up.alloc ?_ _ _) | (with_reducible refine Up.setCell ?_ ?_ _) | (with_reducible refine Up.drewN ?_ _) | (with_reducible refine Up.drew ?_))); all_goals (first | (simp; done) | (simp; omega) | omega)))
    clear hu1
    go_wp2_with fail
    refine (H2.out _).mono ?_
    rintro e w2 ⟨rfl, hu2⟩
    try unfold got2
    have c2_0 := hu2.keep (w.heap.size) (0) (.int .i64 n1) (by simp [go_sem, *])
    have c2_1 := hu2.keep (w.heap.size) (1) (.int .i64 d1) (by simp [go_sem, *])
    have c2_2 := hu2.keep (w.heap.size) (2) (.int .i64 n2) (by simp [go_sem, *])
    have c2_3 := hu2.keep (w.heap.size) (3) (.int .i64 d2) (by simp [go_sem, *])
    have c2_4 := hu2.keep (w.heap.size) (4) (.int .i64 n3) (by simp [go_sem, *])
    have c2_5 := hu2.keep (w.heap.size) (5) (.int .i64 d3) (by simp [go_sem, *])
    have c2_6 := hu2.keep (w.heap.size + 1) (0) (.int .i64 m1) (by simp [go_sem, *])
    have c2_7 := hu2.keep (w.heap.size + 1) (1) (.int .i64 c1) (by simp [go_sem, *])
    have c2_8 := hu2.keep (w.heap.size + 1) (2) (.int .i64 m2) (by simp [go_sem, *])
    have c2_9 := hu2.keep (w.heap.size + 1) (3) (.int .i64 c2) (by simp [go_sem, *])
    have c2_10 := hu2.keep (w.heap.size + 1) (4) (.int .i64 m3) (by simp [go_sem, *])
    have c2_11 := hu2.keep (w.heap.size + 1) (5) (.int .i64 c3) (by simp [go_sem, *])
    have c2_12 := hu2.keep (w.heap.size + 1 + 1) (0) (.int .i64 0) (by simp [go_sem, *])
    have c2_13 := hu2.keep (w.heap.size + 1 + 1) (1) (.int .i64 0) (by simp [go_sem, *])
    have c2_14 := hu2.keep (w.heap.size + 1 + 1) (2) (.int .i64 0) (by simp [go_sem, *])
    have c2_15 := hu2.keep (w.heap.size + 1 + 1) (3) (.int .i64 0) (by simp [go_sem, *])
    have c2_16 := hu2.keep (w.heap.size + 1 + 1) (4) (.int .i64 0) (by simp [go_sem, *])
    have c2_17 := hu2.keep (w.heap.size + 1 + 1) (5) (.int .i64 0) (by simp [go_sem, *])
    have l2_0 : w.heap.size < w2.heap.size := World.block_lt_of_cell? _ _ c2_0
    have m2_0 : w.heap.size < w2.heap.size + 1 := by omega
    have n2_0 : w.heap.size < w2.heap.size + 1 + 1 := by omega
    have x2_0 : ¬ w2.heap.size = w.heap.size := by omega
    have y2_0 : ¬ w2.heap.size + 1 = w.heap.size := by omega
    have l2_1 : w.heap.size + 1 < w2.heap.size := World.block_lt_of_cell? _ _ c2_6
    have m2_1 : w.heap.size + 1 < w2.heap.size + 1 := by omega
    have n2_1 : w.heap.size + 1 < w2.heap.size + 1 + 1 := by omega
    have x2_1 : ¬ w2.heap.size = w.heap.size + 1 := by omega
    have y2_1 : ¬ w2.heap.size + 1 = w.heap.size + 1 := by omega
    have l2_2 : w.heap.size + 1 + 1 < w2.heap.size := World.block_lt_of_cell? _ _ c2_12
    have m2_2 : w.heap.size + 1 + 1 < w2.heap.size + 1 := by omega
    have n2_2 : w.heap.size + 1 + 1 < w2.heap.size + 1 + 1 := by omega
    have x2_2 : ¬ w2.heap.size = w.heap.size + 1 + 1 := by omega
    have y2_2 : ¬ w2.heap.size + 1 = w.heap.size + 1 + 1 := by omega
    have HU2 : Hid (Up w w2) := Lib.hid (by ((repeat (first | (with_reducible exact Up.refl _) | (with_reducible exact HU1.out) | (with_reducible refine Up.trans ?_ hu2) | (with_reducible refine Up.alloc ?_ _ _) | (with_reducible refine Up.setCell ?_ ?_ _) | (with_reducible refine Up.drewN ?_ _) | (with_reducible refine Up.drew ?_))); all_goals (first | (simp; done) | (simp; omega) | omega)))
    clear hu2 c1_0 c1_1 c1_2 c1_3 c1_4 c1_5 c1_6 c1_7 c1_8 c1_9 c1_10 c1_11 c1_12 c1_13 c1_14 c1_15 c1_16 c1_17
    go_wp2_with fail
    refine (H3.out _).mono ?_
    rintro e w3 ⟨rfl, hu3⟩
    try unfold got2
    have c3_0 := hu3.keep (w.heap.size) (0) (.int .i64 n1) (by simp [go_sem, *])
    have c3_1 := hu3.keep (w.heap.size) (1) (.int .i64 d1) (by simp [go_sem, *])
    have c3_2 := hu3.keep (w.heap.size) (2) (.int .i64 n2) (by simp [go_sem, *])
    have c3_3 := hu3.keep (w.heap.size) (3) (.int .i64 d2) (by simp [go_sem, *])
    have c3_4 := hu3.keep (w.heap.size) (4) (.int .i64 n3) (by simp [go_sem, *])
    have c3_5 := hu3.keep (w.heap.size) (5) (.int .i64 d3) (by simp [go_sem, *])
    have c3_6 := hu3.keep (w.heap.size + 1) (0) (.int .i64 m1) (by simp [go_sem, *])
    have c3_7 := hu3.keep (w.heap.size + 1) (1) (.int .i64 c1) (by simp [go_sem, *])
    have c3_8 := hu3.keep (w.heap.size + 1) (2) (.int .i64 m2) (by simp [go_sem, *])
    have c3_9 := hu3.keep (w.heap.size + 1) (3) (.int .i64 c2) (by simp [go_sem, *])
    have c3_10 := hu3.keep (w.heap.size + 1) (4) (.int .i64 m3) (by simp [go_sem, *])
    have c3_11 := hu3.keep (w.heap.size + 1) (5) (.int .i64 c3) (by simp [go_sem, *])
    have c3_12 := hu3.keep (w.heap.size + 1 + 1) (0) (.int .i64 0) (by simp [go_sem, *])
    have c3_13 := hu3.keep (w.heap.size + 1 + 1) (1) (.int .i64 0) (by simp [go_sem, *])
    have c3_14 := hu3.keep (w.heap.size + 1 + 1) (2) (.int .i64 0) (by simp [go_sem, *])
    have c3_15 := hu3.keep (w.heap.size + 1 + 1) (3) (.int .i64 0) (by simp [go_sem, *])
    have c3_16 := hu3.keep (w.heap.size + 1 + 1) (4) (.int .i64 0) (by simp [go_sem, *])
    have c3_17 := hu3.keep (w.heap.size + 1 + 1) (5) (.int .i64 0) (by simp [go_sem, *])
    have c3_18 := hu3.keep (w2.heap.size) (0) (.int .i64 n1) (by simp [go_sem, *])
    have c3_19 := hu3.keep (w2.heap.size) (1) (.int .i64 d1) (by simp [go_sem, *])
    have c3_20 := hu3.keep (w2.heap.size) (2) (.int .i64 n2) (by simp [go_sem, *])
    have c3_21 := hu3.keep (w2.heap.size) (3) (.int .i64 d2) (by simp [go_sem, *])
    have c3_22 := hu3.keep (w2.heap.size) (4) (.int .i64 n3) (by simp [go_sem, *])
    have c3_23 := hu3.keep (w2.heap.size) (5) (.int .i64 d3) (by simp [go_sem, *])
    have l3_0 : w.heap.size < w3.heap.size := World.block_lt_of_cell? _ _ c3_0
    have m3_0 : w.heap.size < w3.heap.size + 1 := by omega
    have n3_0 : w.heap.size < w3.heap.size + 1 + 1 := by omega
    have x3_0 : ¬ w3.heap.size = w.heap.size := by omega
    have y3_0 : ¬ w3.heap.size + 1 = w.heap.size := by omega
    have l3_1 : w.heap.size + 1 < w3.heap.size := World.block_lt_of_cell? _ _ c3_6
    have m3_1 : w.heap.size + 1 < w3.heap.size + 1 := by omega
    have n3_1 : w.heap.size + 1 < w3.heap.size + 1 + 1 := by omega
    have x3_1 : ¬ w3.heap.size = w.heap.size + 1 := by omega
    have y3_1 : ¬ w3.heap.size + 1 = w.heap.size + 1 := by omega
    have l3_2 : w.heap.size + 1 + 1 < w3.heap.size := World.block_lt_of_cell? _ _ c3_12
    have m3_2 : w.heap.size + 1 + 1 < w3.heap.size + 1 := by omega
    have n3_2 : w.heap.size + 1 + 1 < w3.heap.size + 1 + 1 := by omega
    have x3_2 : ¬ w3.heap.size = w.heap.size + 1 + 1 := by omega
    have y3_2 : ¬ w3.heap.size + 1 = w.heap.size + 1 + 1 := by omega
    have l3_3 : w2.heap.size < w3.heap.size := World.block_lt_of_cell? _ _ c3_18
    have m3_3 : w2.heap.size < w3.heap.size + 1 := by omega
    have n3_3 : w2.heap.size < w3.heap.size + 1 + 1 := by omega
    have x3_3 : ¬ w3.heap.size = w2.heap.size := by omega
    have y3_3 : ¬ w3.heap.size + 1 = w2.heap.size := by omega
    have HU3 : Hid (Up w w3) := Lib.hid (by ((repeat (first | (with_reducible exact Up.refl _) | (with_reducible exact HU2.out) | (with_reducible refine Up.trans ?_ hu3) | (with_reducible refine Up.alloc ?_ _ _) | (with_reducible refine Up.setCell ?_ ?_ _) | (with_reducible refine Up.drewN ?_ _) | (with_reducible refine Up.drew ?_))); all_goals (first | (simp; done) | (simp; omega) | omega)))
    clear hu3 c2_0 c2_1 c2_2 c2_3 c2_4 c2_5 c2_6 c2_7 c2_8 c2_9 c2_10 c2_11 c2_12 c2_13 c2_14 c2_15 c2_16 c2_17
    have y30 := HU3.out.ownGe (show w.heap.size ≤ w2.heap.size by omega) 0
    have y31 := HU3.out.ownGe (show w.heap.size ≤ w2.heap.size by omega) 1
    have y32 := HU3.out.ownGe (show w.heap.size ≤ w2.heap.size by omega) 2
    have y33 := HU3.out.ownGe (show w.heap.size ≤ w2.heap.size by omega) 3
    have y34 := HU3.out.ownGe (show w.heap.size ≤ w2.heap.size by omega) 4
    have y35 := HU3.out.ownGe (show w.heap.size ≤ w2.heap.size by omega) 5
    go_wp2_with fail
    refine (H4.out _).mono ?_
    rintro e w4 ⟨rfl, hu4⟩
    try unfold got2
    have c4_0 := hu4.keep (w.heap.size) (0) (.int .i64 n1) (by simp [go_sem, *])
    have c4_1 := hu4.keep (w.heap.size) (1) (.int .i64 d1) (by simp [go_sem, *])
    have c4_2 := hu4.keep (w.heap.size) (2) (.int .i64 n2) (by simp [go_sem, *])
    have c4_3 := hu4.keep (w.heap.size) (3) (.int .i64 d2) (by simp [go_sem, *])
    have c4_4 := hu4.keep (w.heap.size) (4) (.int .i64 n3) (by simp [go_sem, *])
    have c4_5 := hu4.keep (w.heap.size) (5) (.int .i64 d3) (by simp [go_sem, *])
    have c4_6 := hu4.keep (w.heap.size + 1) (0) (.int .i64 m1) (by simp [go_sem, *])
    have c4_7 := hu4.keep (w.heap.size + 1) (1) (.int .i64 c1) (by simp [go_sem, *])
    have c4_8 := hu4.keep (w.heap.size + 1) (2) (.int .i64 m2) (by simp [go_sem, *])
    have c4_9 := hu4.keep (w.heap.size + 1) (3) (.int .i64 c2) (by simp [go_sem, *])
    have c4_10 := hu4.keep (w.heap.size + 1) (4) (.int .i64 m3) (by simp [go_sem, *])
    have c4_11 := hu4.keep (w.heap.size + 1) (5) (.int .i64 c3) (by simp [go_sem, *])
    have c4_12 := hu4.keep (w.heap.size + 1 + 1) (0) (.int .i64 0) (by simp [go_sem, *])
    have c4_13 := hu4.keep (w.heap.size + 1 + 1) (1) (.int .i64 0) (by simp [go_sem, *])
    have c4_14 := hu4.keep (w.heap.size + 1 + 1) (2) (.int .i64 0) (by simp [go_sem, *])
    have c4_15 := hu4.keep (w.heap.size + 1 + 1) (3) (.int .i64 0) (by simp [go_sem, *])
    have c4_16 := hu4.keep (w.heap.size + 1 + 1) (4) (.int .i64 0) (by simp [go_sem, *])
    have c4_17 := hu4.keep (w.heap.size + 1 + 1) (5) (.int .i64 0) (by simp [go_sem, *])
    have c4_18 := hu4.keep (w2.heap.size) (0) (.int .i64 m1) (by simp [go_sem, *])
    have c4_19 := hu4.keep (w2.heap.size) (1) (.int .i64 c1) (by simp [go_sem, *])
    have c4_20 := hu4.keep (w2.heap.size) (2) (.int .i64 n2) (by simp [go_sem, *])
    have c4_21 := hu4.keep (w2.heap.size) (3) (.int .i64 d2) (by simp [go_sem, *])
    have c4_22 := hu4.keep (w2.heap.size) (4) (.int .i64 n3) (by simp [go_sem, *])
    have c4_23 := hu4.keep (w2.heap.size) (5) (.int .i64 d3) (by simp [go_sem, *])
    have l4_0 : w.heap.size < w4.heap.size := World.block_lt_of_cell? _ _ c4_0
    have m4_0 : w.heap.size < w4.heap.size + 1 := by omega
    have n4_0 : w.heap.size < w4.heap.size + 1 + 1 := by omega
    have x4_0 : ¬ w4.heap.size = w.heap.size := by omega
    have y4_0 : ¬ w4.heap.size + 1 = w.heap.size := by omega
    have l4_1 : w.heap.size + 1 < w4.heap.size := World.block_lt_of_cell? _ _ c4_6
    have m4_1 : w.heap.size + 1 < w4.heap.size + 1 := by omega
    have n4_1 : w.heap.size + 1 < w4.heap.size + 1 + 1 := by omega
    have x4_1 : ¬ w4.heap.size = w.heap.size + 1 := by omega
    have y4_1 : ¬ w4.heap.size + 1 = w.heap.size + 1 := by omega
    have l4_2 : w.heap.size + 1 + 1 < w4.heap.size := World.block_lt_of_cell? _ _ c4_12
    have m4_2 : w.heap.size + 1 + 1 < w4.heap.size + 1 := by omega
    have n4_2 : w.heap.size + 1 + 1 < w4.heap.size + 1 + 1 := by omega
    have x4_2 : ¬ w4.heap.size = w.heap.size + 1 + 1 := by omega
    have y4_2 : ¬ w4.heap.size + 1 = w.heap.size + 1 + 1 := by omega
    have l4_3 : w2.heap.size < w4.heap.size := World.block_lt_of_cell? _ _ c4_18
    have m4_3 : w2.heap.size < w4.heap.size + 1 := by omega
    have n4_3 : w2.heap.size < w4.heap.size + 1 + 1 := by omega
    have x4_3 : ¬ w4.heap.size = w2.heap.size := by omega
    have y4_3 : ¬ w4.heap.size + 1 = w2.heap.size := by omega
    have HU4 : Hid (Up w w4) := Lib.hid (by ((repeat (first | (with_reducible exact Up.refl _) | (with_reducible exact HU3.out) | (with_reducible refine Up.trans ?_ hu4) | (with_reducible refine Up.alloc ?_ _ _) | (with_reducible refine Up.setCell ?_ ?_ _) | (with_reducible refine Up.drewN ?_ _) | (with_reducible refine Up.drew ?_))); all_goals (first | (simp; done) | (simp; omega) | omega)))
    clear hu4 c3_0 c3_1 c3_2 c3_3 c3_4 c3_5 c3_6 c3_7 c3_8 c3_9 c3_10 c3_11 c3_12 c3_13 c3_14 c3_15 c3_16 c3_17 c3_18 c3_19 c3_20 c3_21 c3_22 c3_23
    have y40 := HU4.out.ownGe (show w.heap.size ≤ w2.heap.size by omega) 0
    have y41 := HU4.out.ownGe (show w.heap.size ≤ w2.heap.size by omega) 1
    have y42 := HU4.out.ownGe (show w.heap.size ≤ w2.heap.size by omega) 2
    have y43 := HU4.out.ownGe (show w.heap.size ≤ w2.heap.size by omega) 3
    have y44 := HU4.out.ownGe (show w.heap.size ≤ w2.heap.size by omega) 4
    have y45 := HU4.out.ownGe (show w.heap.size ≤ w2.heap.size by omega) 5
    go_wp2_with fail
    refine (H5.out _).mono ?_
    rintro e w5 ⟨rfl, hu5⟩
    try unfold got2
    have c5_0 := hu5.keep (w.heap.size) (0) (.int .i64 n1) (by simp [go_sem, *])
    have c5_1 := hu5.keep (w.heap.size) (1) (.int .i64 d1) (by simp [go_sem, *])
    have c5_2 := hu5.keep (w.heap.size) (2) (.int .i64 n2) (by simp [go_sem, *])
    have c5_3 := hu5.keep (w.heap.size) (3) (.int .i64 d2) (by simp [go_sem, *])
    have c5_4 := hu5.keep (w.heap.size) (4) (.int .i64 n3) (by simp [go_sem, *])
    have c5_5 := hu5.keep (w.heap.size) (5) (.int .i64 d3) (by simp [go_sem, *])
    have c5_6 := hu5.keep (w.heap.size + 1) (0) (.int .i64 m1) (by simp [go_sem, *])
    have c5_7 := hu5.keep (w.heap.size + 1) (1) (.int .i64 c1) (by simp [go_sem, *])
    have c5_8 := hu5.keep (w.heap.size + 1) (2) (.int .i64 m2) (by simp [go_sem, *])
    have c5_9 := hu5.keep (w.heap.size + 1) (3) (.int .i64 c2) (by simp [go_sem, *])
    have c5_10 := hu5.keep (w.heap.size + 1) (4) (.int .i64 m3) (by simp [go_sem, *])
    have c5_11 := hu5.keep (w.heap.size + 1) (5) (.int .i64 c3) (by simp [go_sem, *])
    have c5_12 := hu5.keep (w.heap.size + 1 + 1) (0) (.int .i64 0) (by simp [go_sem, *])
    have c5_13 := hu5.keep (w.heap.size + 1 + 1) (1) (.int .i64 0) (by simp [go_sem, *])
    have c5_14 := hu5.keep (w.heap.size + 1 + 1) (2) (.int .i64 0) (by simp [go_sem, *])
    have c5_15 := hu5.keep (w.heap.size + 1 + 1) (3) (.int .i64 0) (by simp [go_sem, *])
    have c5_16 := hu5.keep (w.heap.size + 1 + 1) (4) (.int .i64 0) (by simp [go_sem, *])
    have c5_17 := hu5.keep (w.heap.size + 1 + 1) (5) (.int .i64 0) (by simp [go_sem, *])
    have c5_18 := hu5.keep (w2.heap.size) (0) (.int .i64 m1) (by simp [go_sem, *])
    have c5_19 := hu5.keep (w2.heap.size) (1) (.int .i64 c1) (by simp [go_sem, *])
    have c5_20 := hu5.keep (w2.heap.size) (2) (.int .i64 n2) (by simp [go_sem, *])
    have c5_21 := hu5.keep (w2.heap.size) (3) (.int .i64 d2) (by simp [go_sem, *])
    have c5_22 := hu5.keep (w2.heap.size) (4) (.int .i64 m3) (by simp [go_sem, *])
    have c5_23 := hu5.keep (w2.heap.size) (5) (.int .i64 c3) (by simp [go_sem, *])
    have l5_0 : w.heap.size < w5.heap.size := World.block_lt_of_cell? _ _ c5_0
    have m5_0 : w.heap.size < w5.heap.size + 1 := by omega
    have n5_0 : w.heap.size < w5.heap.size + 1 + 1 := by omega
    have x5_0 : ¬ w5.heap.size = w.heap.size := by omega
    have y5_0 : ¬ w5.heap.size + 1 = w.heap.size := by omega
    have l5_1 : w.heap.size + 1 < w5.heap.size := World.block_lt_of_cell? _ _ c5_6
    have m5_1 : w.heap.size + 1 < w5.heap.size + 1 := by omega
    have n5_1 : w.heap.size + 1 < w5.heap.size + 1 + 1 := by omega
    have x5_1 : ¬ w5.heap.size = w.heap.size + 1 := by omega
    have y5_1 : ¬ w5.heap.size + 1 = w.heap.size + 1 := by omega
    have l5_2 : w.heap.size + 1 + 1 < w5.heap.size := World.block_lt_of_cell? _ _ c5_12
    have m5_2 : w.heap.size + 1 + 1 < w5.heap.size + 1 := by omega
    have n5_2 : w.heap.size + 1 + 1 < w5.heap.size + 1 + 1 := by omega
    have x5_2 : ¬ w5.heap.size = w.heap.size + 1 + 1 := by omega
    have y5_2 : ¬ w5.heap.size + 1 = w.heap.size + 1 + 1 := by omega
    have l5_3 : w2.heap.size < w5.heap.size := World.block_lt_of_cell? _ _ c5_18
    have m5_3 : w2.heap.size < w5.heap.size + 1 := by omega
    have n5_3 : w2.heap.size < w5.heap.size + 1 + 1 := by omega
    have x5_3 : ¬ w5.heap.size = w2.heap.size := by omega
    have y5_3 : ¬ w5.heap.size + 1 = w2.heap.size := by omega
    have HU5 : Hid (Up w w5) := Lib.hid (by ((repeat (first | (with_reducible exact Up.refl _) | (with_reducible exact HU4.out) | (with_reducible refine Up.trans ?_ hu5) | (with_reducible refine Up.alloc ?_ _ _) | (with_reducible refine Up.setCell ?_ ?_ _) | (with_reducible refine Up.drewN ?_ _) | (with_reducible refine Up.drew ?_))); all_goals (first | (simp; done) | (simp; omega) | omega)))
    clear hu5 c4_0 c4_1 c4_2 c4_3 c4_4 c4_5 c4_6 c4_7 c4_8 c4_9 c4_10 c4_11 c4_12 c4_13 c4_14 c4_15 c4_16 c4_17 c4_18 c4_19 c4_20 c4_21 c4_22 c4_23
    have y50 := HU5.out.ownGe (show w.heap.size ≤ w2.heap.size by omega) 0
    have y51 := HU5.out.ownGe (show w.heap.size ≤ w2.heap.size by omega) 1
    have y52 := HU5.out.ownGe (show w.heap.size ≤ w2.heap.size by omega) 2
    have y53 := HU5.out.ownGe (show w.heap.size ≤ w2.heap.size by omega) 3
    have y54 := HU5.out.ownGe (show w.heap.size ≤ w2.heap.size by omega) 4
    have y55 := HU5.out.ownGe (show w.heap.size ≤ w2.heap.size by omega) 5
    go_wp2_with fail
    refine (H6.out _).mono ?_
    rintro e w6 ⟨rfl, hu6⟩
    try unfold got2
    have c6_0 := hu6.keep (w.heap.size) (0) (.int .i64 n1) (by simp [go_sem, *])
    have c6_1 := hu6.keep (w.heap.size) (1) (.int .i64 d1) (by simp [go_sem, *])
    have c6_2 := hu6.keep (w.heap.size) (2) (.int .i64 n2) (by simp [go_sem, *])
    have c6_3 := hu6.keep (w.heap.size) (3) (.int .i64 d2) (by simp [go_sem, *])
    have c6_4 := hu6.keep (w.heap.size) (4) (.int .i64 n3) (by simp [go_sem, *])
    have c6_5 := hu6.keep (w.heap.size) (5) (.int .i64 d3) (by simp [go_sem, *])
    have c6_6 := hu6.keep (w.heap.size + 1) (0) (.int .i64 m1) (by simp [go_sem, *])
    have c6_7 := hu6.keep (w.heap.size + 1) (1) (.int .i64 c1) (by simp [go_sem, *])
    have c6_8 := hu6.keep (w.heap.size + 1) (2) (.int .i64 m2) (by simp [go_sem, *])
    have c6_9 := hu6.keep (w.heap.size + 1) (3) (.int .i64 c2) (by simp [go_sem, *])
    have c6_10 := hu6.keep (w.heap.size + 1) (4) (.int .i64 m3) (by simp [go_sem, *])
    have c6_11 := hu6.keep (w.heap.size + 1) (5) (.int .i64 c3) (by simp [go_sem, *])
    have c6_12 := hu6.keep (w.heap.size + 1 + 1) (0) (.int .i64 0) (by simp [go_sem, *])
    have c6_13 := hu6.keep (w.heap.size + 1 + 1) (1) (.int .i64 0) (by simp [go_sem, *])
    have c6_14 := hu6.keep (w.heap.size + 1 + 1) (2) (.int .i64 0) (by simp [go_sem, *])
    have c6_15 := hu6.keep (w.heap.size + 1 + 1) (3) (.int .i64 0) (by simp [go_sem, *])
    have c6_16 := hu6.keep (w.heap.size + 1 + 1) (4) (.int .i64 0) (by simp [go_sem, *])
    have c6_17 := hu6.keep (w.heap.size + 1 + 1) (5) (.int .i64 0) (by simp [go_sem, *])
    have c6_18 := hu6.keep (w2.heap.size) (0) (.int .i64 m1) (by simp [go_sem, *])
    have c6_19 := hu6.keep (w2.heap.size) (1) (.int .i64 c1) (by simp [go_sem, *])
    have c6_20 := hu6.keep (w2.heap.size) (2) (.int .i64 n2) (by simp [go_sem, *])
    have c6_21 := hu6.keep (w2.heap.size) (3) (.int .i64 d2) (by simp [go_sem, *])
    have c6_22 := hu6.keep (w2.heap.size) (4) (.int .i64 m3) (by simp [go_sem, *])
    have c6_23 := hu6.keep (w2.heap.size) (5) (.int .i64 c3) (by simp [go_sem, *])
    have l6_0 : w.heap.size < w6.heap.size := World.block_lt_of_cell? _ _ c6_0
    have m6_0 : w.heap.size < w6.heap.size + 1 := by omega
    have n6_0 : w.heap.size < w6.heap.size + 1 + 1 := by omega
    have x6_0 : ¬ w6.heap.size = w.heap.size := by omega
    have y6_0 : ¬ w6.heap.size + 1 = w.heap.size := by omega
    have l6_1 : w.heap.size + 1 < w6.heap.size := World.block_lt_of_cell? _ _ c6_6
    have m6_1 : w.heap.size + 1 < w6.heap.size + 1 := by omega
    have n6_1 : w.heap.size + 1 < w6.heap.size + 1 + 1 := by omega
    have x6_1 : ¬ w6.heap.size = w.heap.size + 1 := by omega
    have y6_1 : ¬ w6.heap.size + 1 = w.heap.size + 1 := by omega
    have l6_2 : w.heap.size + 1 + 1 < w6.heap.size := World.block_lt_of_cell? _ _ c6_12
    have m6_2 : w.heap.size + 1 + 1 < w6.heap.size + 1 := by omega
    have n6_2 : w.heap.size + 1 + 1 < w6.heap.size + 1 + 1 := by omega
    have x6_2 : ¬ w6.heap.size = w.heap.size + 1 + 1 := by omega
    have y6_2 : ¬ w6.heap.size + 1 = w.heap.size + 1 + 1 := by omega
    have l6_3 : w2.heap.size < w6.heap.size := World.block_lt_of_cell? _ _ c6_18
    have m6_3 : w2.heap.size < w6.heap.size + 1 := by omega
    have n6_3 : w2.heap.size < w6.heap.size + 1 + 1 := by omega
    have x6_3 : ¬ w6.heap.size = w2.heap.size := by omega
    have y6_3 : ¬ w6.heap.size + 1 = w2.heap.size := by omega
    have HU6 : Hid (Up w w6) := Lib.hid (by ((repeat (first | (with_reducible exact Up.refl _) | (with_reducible exact HU5.out) | (with_reducible refine Up.trans ?_ hu6) | (with_reducible refine Up.alloc ?_ _ _) | (with_reducible refine Up.setCell ?_ ?_ _) | (with_reducible refine Up.drewN ?_ _) | (with_reducible refine Up.drew ?_))); all_goals (first | (simp; done) | (simp; omega) | omega)))
    clear hu6 c5_0 c5_1 c5_2 c5_3 c5_4 c5_5 c5_6 c5_7 c5_8 c5_9 c5_10 c5_11 c5_12 c5_13 c5_14 c5_15 c5_16 c5_17 c5_18 c5_19 c5_20 c5_21 c5_22 c5_23
    have y60 := HU6.out.ownGe (show w.heap.size ≤ w2.heap.size by omega) 0
    have y61 := HU6.out.ownGe (show w.heap.size ≤ w2.heap.size by omega) 1
    have y62 := HU6.out.ownGe (show w.heap.size ≤ w2.heap.size by omega) 2
    have y63 := HU6.out.ownGe (show w.heap.size ≤ w2.heap.size by omega) 3
    have y64 := HU6.out.ownGe (show w.heap.size ≤ w2.heap.size by omega) 4
    have y65 := HU6.out.ownGe (show w.heap.size ≤ w2.heap.size by omega) 5
    go_wp2_with fail
    refine (H8.out _).mono ?_
    rintro e w7 ⟨rfl, hu7⟩
    try unfold got2
    have c7_0 := hu7.keep (w.heap.size) (0) (.int .i64 n1) (by simp [go_sem, *])
    have c7_1 := hu7.keep (w.heap.size) (1) (.int .i64 d1) (by simp [go_sem, *])
    have c7_2 := hu7.keep (w.heap.size) (2) (.int .i64 n2) (by simp [go_sem, *])
    have c7_3 := hu7.keep (w.heap.size) (3) (.int .i64 d2) (by simp [go_sem, *])
    have c7_4 := hu7.keep (w.heap.size) (4) (.int .i64 n3) (by simp [go_sem, *])
    have c7_5 := hu7.keep (w.heap.size) (5) (.int .i64 d3) (by simp [go_sem, *])
    have c7_6 := hu7.keep (w.heap.size + 1) (0) (.int .i64 m1) (by simp [go_sem, *])
    have c7_7 := hu7.keep (w.heap.size + 1) (1) (.int .i64 c1) (by simp [go_sem, *])
    have c7_8 := hu7.keep (w.heap.size + 1) (2) (.int .i64 m2) (by simp [go_sem, *])
    have c7_9 := hu7.keep (w.heap.size + 1) (3) (.int .i64 c2) (by simp [go_sem, *])
    have c7_10 := hu7.keep (w.heap.size + 1) (4) (.int .i64 m3) (by simp [go_sem, *])
    have c7_11 := hu7.keep (w.heap.size + 1) (5) (.int .i64 c3) (by simp [go_sem, *])
    have c7_12 := hu7.keep (w.heap.size + 1 + 1) (0) (.int .i64 0) (by simp [go_sem, *])
    have c7_13 := hu7.keep (w.heap.size + 1 + 1) (1) (.int .i64 0) (by simp [go_sem, *])
    have c7_14 := hu7.keep (w.heap.size + 1 + 1) (2) (.int .i64 0) (by simp [go_sem, *])
    have c7_15 := hu7.keep (w.heap.size + 1 + 1) (3) (.int .i64 0) (by simp [go_sem, *])
    have c7_16 := hu7.keep (w.heap.size + 1 + 1) (4) (.int .i64 0) (by simp [go_sem, *])
    have c7_17 := hu7.keep (w.heap.size + 1 + 1) (5) (.int .i64 0) (by simp [go_sem, *])
    have c7_18 := hu7.keep (w2.heap.size) (0) (.int .i64 m1) (by simp [go_sem, *])
    have c7_19 := hu7.keep (w2.heap.size) (1) (.int .i64 c1) (by simp [go_sem, *])
    have c7_20 := hu7.keep (w2.heap.size) (2) (.int .i64 n2) (by simp [go_sem, *])
    have c7_21 := hu7.keep (w2.heap.size) (3) (.int .i64 d2) (by simp [go_sem, *])
    have c7_22 := hu7.keep (w2.heap.size) (4) (.int .i64 m3) (by simp [go_sem, *])
    have c7_23 := hu7.keep (w2.heap.size) (5) (.int .i64 c3) (by simp [go_sem, *])
    have l7_0 : w.heap.size < w7.heap.size := World.block_lt_of_cell? _ _ c7_0
    have m7_0 : w.heap.size < w7.heap.size + 1 := by omega
    have n7_0 : w.heap.size < w7.heap.size + 1 + 1 := by omega
    have x7_0 : ¬ w7.heap.size = w.heap.size := by omega
    have y7_0 : ¬ w7.heap.size + 1 = w.heap.size := by omega
    have l7_1 : w.heap.size + 1 < w7.heap.size := World.block_lt_of_cell? _ _ c7_6
    have m7_1 : w.heap.size + 1 < w7.heap.size + 1 := by omega
    have n7_1 : w.heap.size + 1 < w7.heap.size + 1 + 1 := by omega
    have x7_1 : ¬ w7.heap.size = w.heap.size + 1 := by omega
    have y7_1 : ¬ w7.heap.size + 1 = w.heap.size + 1 := by omega
    have l7_2 : w.heap.size + 1 + 1 < w7.heap.size := World.block_lt_of_cell? _ _ c7_12
    have m7_2 : w.heap.size + 1 + 1 < w7.heap.size + 1 := by omega
    have n7_2 : w.heap.size + 1 + 1 < w7.heap.size + 1 + 1 := by omega
    have x7_2 : ¬ w7.heap.size = w.heap.size + 1 + 1 := by omega
    have y7_2 : ¬ w7.heap.size + 1 = w.heap.size + 1 + 1 := by omega
    have l7_3 : w2.heap.size < w7.heap.size := World.block_lt_of_cell? _ _ c7_18
    have m7_3 : w2.heap.size < w7.heap.size + 1 := by omega
    have n7_3 : w2.heap.size < w7.heap.size + 1 + 1 := by omega
    have x7_3 : ¬ w7.heap.size = w2.heap.size := by omega
    have y7_3 : ¬ w7.heap.size + 1 = w2.heap.size := by omega
    have HU7 : Hid (Up w w7) := Lib.hid (by ((repeat (first | (with_reducible exact Up.refl _) | (with_reducible exact HU6.out) | (with_reducible refine Up.trans ?_ hu7) | (with_reducible refine Up.alloc ?_ _ _) | (with_reducible refine Up.setCell ?_ ?_ _) | (with_reducible refine Up.drewN ?_ _) | (with_reducible refine Up.drew ?_))); all_goals (first | (simp; done) | (simp; omega) | omega)))
    clear hu7 c6_0 c6_1 c6_2 c6_3 c6_4 c6_5 c6_6 c6_7 c6_8 c6_9 c6_10 c6_11 c6_12 c6_13 c6_14 c6_15 c6_16 c6_17 c6_18 c6_19 c6_20 c6_21 c6_22 c6_23
    have y70 := HU7.out.ownGe (show w.heap.size ≤ w2.heap.size by omega) 0
    have y71 := HU7.out.ownGe (show w.heap.size ≤ w2.heap.size by omega) 1
    have y72 := HU7.out.ownGe (show w.heap.size ≤ w2.heap.size by omega) 2
    have y73 := HU7.out.ownGe (show w.heap.size ≤ w2.heap.size by omega) 3
    have y74 := HU7.out.ownGe (show w.heap.size ≤ w2.heap.size by omega) 4
    have y75 := HU7.out.ownGe (show w.heap.size ≤ w2.heap.size by omega) 5
    have z0 := own2 HU7.out 0
    have z1 := own2 HU7.out 1
    have z2 := own2 HU7.out 2
    have z3 := own2 HU7.out 3
    have z4 := own2 HU7.out 4
    have z5 := own2 HU7.out 5
    go_wp2_with fail
    refine bodyPost_ret (v := .tuple #[.agg #[.int .i64 m1, .int .i64 c1, .int .i64 n2, .int .i64 d2, .int .i64 m3, .int .i64 c3], .bool true]) (by simp [results, Try.results28, go_sem, c7_12, c7_13, c7_14, c7_15, c7_16, c7_17]) rfl ⟨?_, ?_⟩
    · rfl
    · ((repeat (first | (with_reducible exact Up.refl _) | (with_reducible exact HU7.out) | (with_reducible refine Up.alloc ?_ _ _) | (with_reducible refine Up.setCell ?_ ?_ _) | (with_reducible refine Up.drewN ?_ _) | (with_reducible refine Up.drew ?_))); all_goals (first | (simp; done) | (simp; omega) | omega))

end Go.Proofs.Ytgafcpklocccdaa
