/- What Meet of the reference of package bounds returns. -/
import Derived.Test.YtgafcpklocccdaaBRMeet0
import Derived.Test.YtgafcpklocccdaaBRMeet1
import Derived.Test.YtgafcpklocccdaaBRMeet2
import Derived.Test.YtgafcpklocccdaaBRMeet3
namespace Go.Proofs.Ytgafcpklocccdaa
open Go.RowKit

set_option maxHeartbeats 4000000 in
set_option maxRecDepth 100000 in
theorem rbmeet_up (n1 d1 n2 d2 n3 d3 m1 c1 m2 c2 m3 c3 : Int) (in1 : In n1) (id1 : In d1) (in2 : In n2) (id2 : In d2) (in3 : In n3) (id3 : In d3) (im1 : In m1) (ic1 : In c1) (im2 : In m2) (ic2 : In c2) (im3 : In m3) (ic3 : In c3) (w : World) :
    Calls Try.prog 28 #[.agg #[.int .i64 n1, .int .i64 d1, .int .i64 n2, .int .i64 d2, .int .i64 n3, .int .i64 d3], .agg #[.int .i64 m1, .int .i64 c1, .int .i64 m2, .int .i64 c2, .int .i64 m3, .int .i64 c3]] w fun e w' => e = meetE n1 d1 n2 d2 n3 d3 m1 c1 m2 c2 m3 c3 ∧ Up w w' := by
  cases va : bvB n1 d1 n2 d2 n3 d3
  · have H1 := Lib.hid (fun W => rbvalid_up n1 d1 n2 d2 n3 d3 in1 id1 in2 id2 in3 id3 W)
    have HE : meetE n1 d1 n2 d2 n3 d3 m1 c1 m2 c2 m3 c3 = gotB 0 0 0 0 0 0 false := by unfold meetE; rw [va]; rfl
    rw [HE]
    rw [va] at H1
    clear va HE in1 id1 in2 id2 in3 id3 im1 ic1 im2 ic2 im3 ic3
    go_enter Try.func28, Try.ntmps28
    go_wp2_with fail
    refine (H1.out _).mono ?_
    rintro e w1 ⟨rfl, hu1⟩
    try unfold got2
    have c1_0 := hu1.keep (w.heap.size) (0) (.int .i64 n1) (by simp [go_sem, *])
    have c1_1 := hu1.keep (w.heap.size) (1) (.int .i64 d1) (by simp [go_sem, *])
    have c1_2 := hu1.keep (w.heap.size) (2) (.int .i64 n2) (by simp [go_sem, *])
    have c1_3 := hu1.keep (w.heap.size) (3) (.int .i64 d2) (by simp [go_sem, *])
    have c1_4 := hu1.keep (w.heap.size) (4) (.int .i64 n3) (by simp [go_sem, *])
    have c1_5 := hu1.keep (w.heap.size) (5) (.int .i64 d3) (by simp [go_sem, *])
    have c1_6 := hu1.keep (w.heap.size + 1) (0) (.int .i64 m1) (by simp [go_sem, *])
    have c1_7 := hu1.keep (w.heap.size + 1) (1) (.int .i64 c1) (by simp [go_sem, *])
    have c1_8 := hu1.keep (w.heap.size + 1) (2) (.int .i64 m2) (by simp [go_sem, *])
    have c1_9 := hu1.keep (w.heap.size + 1) (3) (.int .i64 c2) (by simp [go_sem, *])
    have c1_10 := hu1.keep (w.heap.size + 1) (4) (.int .i64 m3) (by simp [go_sem, *])
    have c1_11 := hu1.keep (w.heap.size + 1) (5) (.int .i64 c3) (by simp [go_sem, *])
    have c1_12 := hu1.keep (w.heap.size + 1 + 1) (0) (.int .i64 0) (by simp [go_sem, *])
    have c1_13 := hu1.keep (w.heap.size + 1 + 1) (1) (.int .i64 0) (by simp [go_sem, *])
    have c1_14 := hu1.keep (w.heap.size + 1 + 1) (2) (.int .i64 0) (by simp [go_sem, *])
    have c1_15 := hu1.keep (w.heap.size + 1 + 1) (3) (.int .i64 0) (by simp [go_sem, *])
    have c1_16 := hu1.keep (w.heap.size + 1 + 1) (4) (.int .i64 0) (by simp [go_sem, *])
    have c1_17 := hu1.keep (w.heap.size + 1 + 1) (5) (.int .i64 0) (by simp [go_sem, *])
    have l1_0 : w.heap.size < w1.heap.size := World.block_lt_of_cell? _ _ c1_0
    have m1_0 : w.heap.size < w1.heap.size + 1 := by omega
    have n1_0 : w.heap.size < w1.heap.size + 1 + 1 := by omega
    have x1_0 : ¬ w1.heap.size = w.heap.size := by omega
    have y1_0 : ¬ w1.heap.size + 1 = w.heap.size := by omega
    have l1_1 : w.heap.size + 1 < w1.heap.size := World.block_lt_of_cell? _ _ c1_6
    have m1_1 : w.heap.size + 1 < w1.heap.size + 1 := by omega
    have n1_1 : w.heap.size + 1 < w1.heap.size + 1 + 1 := by omega
    have x1_1 : ¬ w1.heap.size = w.heap.size + 1 := by omega
    have y1_1 : ¬ w1.heap.size + 1 = w.heap.size + 1 := by omega
    have l1_2 : w.heap.size + 1 + 1 < w1.heap.size := World.block_lt_of_cell? _ _ c1_12
    have m1_2 : w.heap.size + 1 + 1 < w1.heap.size + 1 := by omega
    have n1_2 : w.heap.size + 1 + 1 < w1.heap.size + 1 + 1 := by omega
    have x1_2 : ¬ w1.heap.size = w.heap.size + 1 + 1 := by omega
    have y1_2 : ¬ w1.heap.size + 1 = w.heap.size + 1 + 1 := by omega
    have HU1 : Hid (Up w w1) := Lib.hid (by ((repeat (first | (with_reducible exact Up.refl _) | (with_reducible refine Up.trans ?_ hu1) | (with_reducible refine Up.alloc ?_ _ _) | (with_reducible refine Up.setCell ?_ ?_ _) | (with_reducible refine Up.drewN ?_ _) | (with_reducible refine Up.drew ?_))); all_goals (first | (simp; done) | (simp; omega) | omega)))
    clear hu1
    have z0 := own2 HU1.out 0
    have z1 := own2 HU1.out 1
    have z2 := own2 HU1.out 2
    have z3 := own2 HU1.out 3
    have z4 := own2 HU1.out 4
    have z5 := own2 HU1.out 5
    go_wp2_with fail
    refine bodyPost_ret (v := .tuple #[.agg #[.int .i64 0, .int .i64 0, .int .i64 0, .int .i64 0, .int .i64 0, .int .i64 0], .bool false]) (by simp [results, Try.results28, go_sem, c1_12, c1_13, c1_14, c1_15, c1_16, c1_17]) rfl ⟨?_, ?_⟩
    · rfl
    · ((repeat (first | (with_reducible exact Up.refl _) | (with_reducible exact HU1.out) | (with_reducible refine Up.alloc ?_ _ _) | (with_reducible refine Up.setCell ?_ ?_ _) | (with_reducible refine Up.drewN ?_ _) | (with_reducible refine Up.drew ?_))); all_goals (first | (simp; done) | (simp; omega) | omega))
  cases vb : bvB m1 c1 m2 c2 m3 c3
  · have H1 := Lib.hid (fun W => rbvalid_up n1 d1 n2 d2 n3 d3 in1 id1 in2 id2 in3 id3 W)
    have H2 := Lib.hid (fun W => rbvalid_up m1 c1 m2 c2 m3 c3 im1 ic1 im2 ic2 im3 ic3 W)
    have HE : meetE n1 d1 n2 d2 n3 d3 m1 c1 m2 c2 m3 c3 = gotB 0 0 0 0 0 0 false := by unfold meetE; rw [va, vb]; rfl
    rw [HE]
    rw [va] at H1
    rw [vb] at H2
    clear va vb HE in1 id1 in2 id2 in3 id3 im1 ic1 im2 ic2 im3 ic3
    go_enter Try.func28, Try.ntmps28
    go_wp2_with fail
    refine (H1.out _).mono ?_
    rintro e w1 ⟨rfl, hu1⟩
    try unfold got2
    have c1_0 := hu1.keep (w.heap.size) (0) (.int .i64 n1) (by simp [go_sem, *])
    have c1_1 := hu1.keep (w.heap.size) (1) (.int .i64 d1) (by simp [go_sem, *])
    have c1_2 := hu1.keep (w.heap.size) (2) (.int .i64 n2) (by simp [go_sem, *])
    have c1_3 := hu1.keep (w.heap.size) (3) (.int .i64 d2) (by simp [go_sem, *])
    have c1_4 := hu1.keep (w.heap.size) (4) (.int .i64 n3) (by simp [go_sem, *])
    have c1_5 := hu1.keep (w.heap.size) (5) (.int .i64 d3) (by simp [go_sem, *])
    have c1_6 := hu1.keep (w.heap.size + 1) (0) (.int .i64 m1) (by simp [go_sem, *])
    have c1_7 := hu1.keep (w.heap.size + 1) (1) (.int .i64 c1) (by simp [go_sem, *])
    have c1_8 := hu1.keep (w.heap.size + 1) (2) (.int .i64 m2) (by simp [go_sem, *])
    have c1_9 := hu1.keep (w.heap.size + 1) (3) (.int .i64 c2) (by simp [go_sem, *])
    have c1_10 := hu1.keep (w.heap.size + 1) (4) (.int .i64 m3) (by simp [go_sem, *])
    have c1_11 := hu1.keep (w.heap.size + 1) (5) (.int .i64 c3) (by simp [go_sem, *])
    have c1_12 := hu1.keep (w.heap.size + 1 + 1) (0) (.int .i64 0) (by simp [go_sem, *])
    have c1_13 := hu1.keep (w.heap.size + 1 + 1) (1) (.int .i64 0) (by simp [go_sem, *])
    have c1_14 := hu1.keep (w.heap.size + 1 + 1) (2) (.int .i64 0) (by simp [go_sem, *])
    have c1_15 := hu1.keep (w.heap.size + 1 + 1) (3) (.int .i64 0) (by simp [go_sem, *])
    have c1_16 := hu1.keep (w.heap.size + 1 + 1) (4) (.int .i64 0) (by simp [go_sem, *])
    have c1_17 := hu1.keep (w.heap.size + 1 + 1) (5) (.int .i64 0) (by simp [go_sem, *])
    have l1_0 : w.heap.size < w1.heap.size := World.block_lt_of_cell? _ _ c1_0
    have m1_0 : w.heap.size < w1.heap.size + 1 := by omega
    have n1_0 : w.heap.size < w1.heap.size + 1 + 1 := by omega
    have x1_0 : ¬ w1.heap.size = w.heap.size := by omega
    have y1_0 : ¬ w1.heap.size + 1 = w.heap.size := by omega
    have l1_1 : w.heap.size + 1 < w1.heap.size := World.block_lt_of_cell? _ _ c1_6
    have m1_1 : w.heap.size + 1 < w1.heap.size + 1 := by omega
    have n1_1 : w.heap.size + 1 < w1.heap.size + 1 + 1 := by omega
    have x1_1 : ¬ w1.heap.size = w.heap.size + 1 := by omega
    have y1_1 : ¬ w1.heap.size + 1 = w.heap.size + 1 := by omega
    have l1_2 : w.heap.size + 1 + 1 < w1.heap.size := World.block_lt_of_cell? _ _ c1_12
    have m1_2 : w.heap.size + 1 + 1 < w1.heap.size + 1 := by omega
    have n1_2 : w.heap.size + 1 + 1 < w1.heap.size + 1 + 1 := by omega
    have x1_2 : ¬ w1.heap.size = w.heap.size + 1 + 1 := by omega
    have y1_2 : ¬ w1.heap.size + 1 = w.heap.size + 1 + 1 := by omega
    have HU1 : Hid (Up w w1) := Lib.hid (by ((repeat (first | (with_reducible exact Up.refl _) | (with_reducible refine Up.trans ?_ hu1) | (with_reducible refine Up.alloc ?_ _ _) | (with_reducible refine Up.setCell ?_ ?_ _) | (with_reducible refine Up.drewN ?_ _) | (with_reducible refine Up.drew ?_))); all_goals (first | (simp; done) | (simp; omega) | omega)))
    clear hu1
    go_wp2_with fail
    refine (H2.out _).mono ?_
    rintro e w2 ⟨rfl, hu2⟩
    try unfold got2
    have c2_0 := hu2.keep (w.heap.size) (0) (.int .i64 n1) (by simp [go_sem, *])
    have c2_1 := hu2.keep (w.heap.size) (1) (.int .i64 d1) (by simp [go_sem, *])
    have c2_2 := hu2.keep (w.heap.size) (2) (.int .i64 n2) (by simp [go_sem, *])
    have c2_3 := hu2.keep (w.heap.size) (3) (.int .i64 d2) (by simp [go_sem, *])
    have c2_4 := hu2.keep (w.heap.size) (4) (.int .i64 n3) (by simp [go_sem, *])
    have c2_5 := hu2.keep (w.heap.size) (5) (.int .i64 d3) (by simp [go_sem, *])
    have c2_6 := hu2.keep (w.heap.size + 1) (0) (.int .i64 m1) (by simp [go_sem, *])
    have c2_7 := hu2.keep (w.heap.size + 1) (1) (.int .i64 c1) (by simp [go_sem, *])
    have c2_8 := hu2.keep (w.heap.size + 1) (2) (.int .i64 m2) (by simp [go_sem, *])
    have c2_9 := hu2.keep (w.heap.size + 1) (3) (.int .i64 c2) (by simp [go_sem, *])
    have c2_10 := hu2.keep (w.heap.size + 1) (4) (.int .i64 m3) (by simp [go_sem, *])
    have c2_11 := hu2.keep (w.heap.size + 1) (5) (.int .i64 c3) (by simp [go_sem, *])
    have c2_12 := hu2.keep (w.heap.size + 1 + 1) (0) (.int .i64 0) (by simp [go_sem, *])
    have c2_13 := hu2.keep (w.heap.size + 1 + 1) (1) (.int .i64 0) (by simp [go_sem, *])
    have c2_14 := hu2.keep (w.heap.size + 1 + 1) (2) (.int .i64 0) (by simp [go_sem, *])
    have c2_15 := hu2.keep (w.heap.size + 1 + 1) (3) (.int .i64 0) (by simp [go_sem, *])
    have c2_16 := hu2.keep (w.heap.size + 1 + 1) (4) (.int .i64 0) (by simp [go_sem, *])
    have c2_17 := hu2.keep (w.heap.size + 1 + 1) (5) (.int .i64 0) (by simp [go_sem, *])
    have l2_0 : w.heap.size < w2.heap.size := World.block_lt_of_cell? _ _ c2_0
    have m2_0 : w.heap.size < w2.heap.size + 1 := by omega
    have n2_0 : w.heap.size < w2.heap.size + 1 + 1 := by omega
    have x2_0 : ¬ w2.heap.size = w.heap.size := by omega
    have y2_0 : ¬ w2.heap.size + 1 = w.heap.size := by omega
    have l2_1 : w.heap.size + 1 < w2.heap.size := World.block_lt_of_cell? _ _ c2_6
    have m2_1 : w.heap.size + 1 < w2.heap.size + 1 := by omega
    have n2_1 : w.heap.size + 1 < w2.heap.size + 1 + 1 := by omega
    have x2_1 : ¬ w2.heap.size = w.heap.size + 1 := by omega
    have y2_1 : ¬ w2.heap.size + 1 = w.heap.size + 1 := by omega
    have l2_2 : w.heap.size + 1 + 1 < w2.heap.size := World.block_lt_of_cell? _ _ c2_12
    have m2_2 : w.heap.size + 1 + 1 < w2.heap.size + 1 := by omega
    have n2_2 : w.heap.size + 1 + 1 < w2.heap.size + 1 + 1 := by omega
    have x2_2 : ¬ w2.heap.size = w.heap.size + 1 + 1 := by omega
    have y2_2 : ¬ w2.heap.size + 1 = w.heap.size + 1 + 1 := by omega
    have HU2 : Hid (Up w w2) := Lib.hid (by ((repeat (first | (with_reducible exact Up.refl _) | (with_reducible exact HU1.out) | (with_reducible refine Up.trans ?_ hu2) | (with_reducible refine Up.alloc ?_ _ _) | (with_reducible refine Up.setCell ?_ ?_ _) | (with_reducible refine Up.drewN ?_ _) | (with_reducible refine Up.drew ?_))); all_goals (first | (simp; done) | (simp; omega) | omega)))
    clear hu2 c1_0 c1_1 c1_2 c1_3 c1_4 c1_5 c1_6 c1_7 c1_8 c1_9 c1_10 c1_11 c1_12 c1_13 c1_14 c1_15 c1_16 c1_17
    have z0 := own2 HU2.out 0
    have z1 := own2 HU2.out 1
    have z2 := own2 HU2.out 2
    have z3 := own2 HU2.out 3
    have z4 := own2 HU2.out 4
    have z5 := own2 HU2.out 5
    go_wp2_with fail
    refine bodyPost_ret (v := .tuple #[.agg #[.int .i64 0, .int .i64 0, .int .i64 0, .int .i64 0, .int .i64 0, .int .i64 0], .bool false]) (by simp [results, Try.results28, go_sem, c2_12, c2_13, c2_14, c2_15, c2_16, c2_17]) rfl ⟨?_, ?_⟩
    · rfl
    · ((repeat (first | (with_reducible exact Up.refl _) | (with_reducible exact HU2.out) | (with_reducible refine Up.alloc ?_ _ _) | (with_reducible refine Up.setCell ?_ ?_ _) | (with_reducible refine Up.drewN ?_ _) | (with_reducible refine Up.drew ?_))); all_goals (first | (simp; done) | (simp; omega) | omega))
  have HE : meetE n1 d1 n2 d2 n3 d3 m1 c1 m2 c2 m3 c3 = meet2 (pk (decide (cmpR n1 d1 m1 c1 < 0)) n1 m1) (pk (decide (cmpR n1 d1 m1 c1 < 0)) d1 c1) n2 d2 (pk (decide (0 < cmpR n3 d3 m3 c3)) n3 m3) (pk (decide (0 < cmpR n3 d3 m3 c3)) d3 c3) := by unfold meetE; rw [va, vb]; rfl
  rw [HE]
  cases s1 : decide (cmpR n1 d1 m1 c1 < 0) <;> cases s2 : decide (0 < cmpR n3 d3 m3 c3)
  · exact rmeet_3 n1 d1 n2 d2 n3 d3 m1 c1 m2 c2 m3 c3 in1 id1 in2 id2 in3 id3 im1 ic1 im2 ic2 im3 ic3 va vb s1 s2 w
  · exact rmeet_2 n1 d1 n2 d2 n3 d3 m1 c1 m2 c2 m3 c3 in1 id1 in2 id2 in3 id3 im1 ic1 im2 ic2 im3 ic3 va vb s1 s2 w
  · exact rmeet_1 n1 d1 n2 d2 n3 d3 m1 c1 m2 c2 m3 c3 in1 id1 in2 id2 in3 id3 im1 ic1 im2 ic2 im3 ic3 va vb s1 s2 w
  · exact rmeet_0 n1 d1 n2 d2 n3 d3 m1 c1 m2 c2 m3 c3 in1 id1 in2 id2 in3 id3 im1 ic1 im2 ic2 im3 ic3 va vb s1 s2 w

end Go.Proofs.Ytgafcpklocccdaa
