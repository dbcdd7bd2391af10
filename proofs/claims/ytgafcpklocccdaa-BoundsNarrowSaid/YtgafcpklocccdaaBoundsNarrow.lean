/- Proved: for every answer b, all ints k and j and all rational numbers v and u the law BoundsNarrow returns true: an interval that is narrow against v for k is narrow against every greater u for every lesser j from 1 on. Conditions: none. -/
import Derived.Test.YtgafcpklocccdaaRows
import Derived.WalkKit
import Derived.ProofKit
import Derived.OpenShut
import Derived.Lib.SmallJoins
import Derived.Test.YtgafcpklocccdaaBFrame
import Derived.Test.YtgafcpklocccdaaBWhole
import Derived.Test.YtgafcpklocccdaaBWithin
namespace Go.Proofs.Ytgafcpklocccdaa
open Go.ChangeShapes Go.WideShapes Go.ChangeAt Go.RowKit Go.Joins
set_option linter.unusedVariables false

theorem boundsNarrow_own : ownKnob Try.prog.godebug = none := by kernel_rfl
theorem boundsNarrow_cellsr : Try.prog.cellsOf 23 = 2 := by kernel_rfl

theorem wiB_of {n1 d1 n2 d2 n3 d3 k n d : Int} (h : wiB n1 d1 n2 d2 n3 d3 k n d = true) : bvB n1 d1 n2 d2 n3 d3 = true ∧ 1 ≤ k ∧ validB n d = true ∧ 0 ≤ n ∧ wdZ n1 d1 n3 d3 * (k * d) ≤ d1 * d3 * n := by
  unfold wiB at h
  simp only [Bool.and_eq_true, decide_eq_true_eq] at h
  exact h
theorem narrow_on {n1 d1 n2 d2 n3 d3 k j n d m c : Int} (h : wiB n1 d1 n2 d2 n3 d3 k n d = true) (hj : 1 ≤ j) (hk : j ≤ k) (hu : validB m c = true) (hle : cmpR n d m c ≤ 0) : wiB n1 d1 n2 d2 n3 d3 j m c = true := by
  obtain ⟨hv, _, v, hn, hw⟩ := wiB_of h
  rw [le_of_cmpR v hu] at hle
  obtain ⟨v1, v2, v3, o1, o2⟩ := bvB_of hv
  have w0 := cmpR_trans v1 v2 v3 o1 o2
  rw [le_of_cmpR v1 v3] at w0
  have p1 := (validB_of v1).1
  have p3 := (validB_of v3).1
  have pd := (validB_of v).1
  have pc := (validB_of hu).1
  have hW : 0 ≤ wdZ n1 d1 n3 d3 := by unfold wdZ; omega
  have hm : 0 ≤ m := by
    have t1 : 0 ≤ n * c := Int.mul_nonneg hn (by omega)
    have t2 : 0 * d ≤ m * d := by omega
    exact Int.le_of_mul_le_mul_right t2 (by omega)
  rw [wiB_main hv hj hu hm]
  apply decide_eq_true
  generalize wdZ n1 d1 n3 d3 = W at *
  have hdd : 0 ≤ d1 * d3 := Int.mul_nonneg (by omega) (by omega)
  generalize d1 * d3 = dd at *
  have k1 : W * (j * d) * c ≤ W * (k * d) * c := Int.mul_le_mul_of_nonneg_right (Int.mul_le_mul_of_nonneg_left (Int.mul_le_mul_of_nonneg_right hk (by omega)) hW) (by omega)
  have k2 : W * (k * d) * c ≤ dd * n * c := Int.mul_le_mul_of_nonneg_right hw (by omega)
  have k3 : dd * (n * c) ≤ dd * (m * d) := Int.mul_le_mul_of_nonneg_left hle hdd
  have k4 : W * (j * c) * d ≤ dd * m * d := by
    have t1 : W * (j * c) * d = W * (j * d) * c := by ac_rfl
    have t2 : dd * n * c = dd * (n * c) := by ac_rfl
    have t3 : dd * m * d = dd * (m * d) := by ac_rfl
    omega
  exact Int.le_of_mul_le_mul_right k4 (by omega)
set_option maxHeartbeats 4000000 in
set_option maxRecDepth 100000 in
theorem boundsNarrow_walk (n1 d1 n2 d2 n3 d3 k j n d m c : Int) (wn1 : (Lit.int .i64 n1).wf = true) (wd1 : (Lit.int .i64 d1).wf = true) (wn2 : (Lit.int .i64 n2).wf = true) (wd2 : (Lit.int .i64 d2).wf = true) (wn3 : (Lit.int .i64 n3).wf = true) (wd3 : (Lit.int .i64 d3).wf = true) (wk : (Lit.int .i64 k).wf = true) (wj : (Lit.int .i64 j).wf = true) (wn : (Lit.int .i64 n).wf = true) (wd : (Lit.int .i64 d).wf = true) (wm : (Lit.int .i64 m).wf = true) (wc : (Lit.int .i64 c).wf = true) (w : World) :
    Calls Try.prog 7 #[.agg #[.int .i64 n1, .int .i64 d1, .int .i64 n2, .int .i64 d2, .int .i64 n3, .int .i64 d3], .int .i64 k, .int .i64 j, .agg #[.int .i64 n, .int .i64 d], .agg #[.int .i64 m, .int .i64 c]] w fun e w' => e = .returned (.bool true) ∧ Grown w w' := by
  have in1 := in_of_wf wn1
  have id1 := in_of_wf wd1
  have in2 := in_of_wf wn2
  have id2 := in_of_wf wd2
  have in3 := in_of_wf wn3
  have id3 := in_of_wf wd3
  have ik := in_of_wf wk
  have ij := in_of_wf wj
  have in_n := in_of_wf wn
  have id_d := in_of_wf wd
  have im := in_of_wf wm
  have ic := in_of_wf wc
  clear wn1 wd1 wn2 wd2 wn3 wd3 wk wj wn wd wm wc
  have H1 := Lib.hid (fun W => within_up n1 d1 n2 d2 n3 d3 k n d in1 id1 in2 id2 in3 id3 ik in_n id_d W)
  have H2 := Lib.hid (fun W => rvalid_up m c im ic W)
  have H3 := Lib.hid (fun W => rcomparer_up n d m c in_n id_d im ic W)
  have H4 := Lib.hid (fun W => within_up n1 d1 n2 d2 n3 d3 j m c in1 id1 in2 id2 in3 id3 ij im ic W)
  have HT := Lib.hid (show wiB n1 d1 n2 d2 n3 d3 k n d = true → 1 ≤ j → j ≤ k → validB m c = true → cmpR n d m c ≤ 0 → wiB n1 d1 n2 d2 n3 d3 j m c = true from narrow_on)
  generalize wiB n1 d1 n2 d2 n3 d3 k n d = h1 at *
  generalize wiB n1 d1 n2 d2 n3 d3 j m c = h4 at *
  generalize validB m c = h2 at *
  generalize cmpR n d m c = x at *
  clear in1 id1 in2 id2 in3 id3 ik ij in_n id_d im ic
  cases h1
  case false =>
    clear HT
    go_enter Try.func7, Try.ntmps7
    go_wp2_with fail
    refine (H1.out _).mono ?_
    rintro e w1 ⟨rfl, hu1⟩
    try unfold got2
    have c1_0 := hu1.keep (w.heap.size) (0) (.int .i64 n1) (by simp [go_sem, *])
    have c1_1 := hu1.keep (w.heap.size) (1) (.int .i64 d1) (by simp [go_sem, *])
    have c1_2 := hu1.keep (w.heap.size) (2) (.int .i64 n2) (by simp [go_sem, *])
    have c1_3 := hu1.keep (w.heap.size) (3) (.int .i64 d2) (by simp [go_sem, *])
    have c1_4 := hu1.keep (w.heap.size) (4) (.int .i64 n3) (by simp [go_sem, *])
    have c1_5 := hu1.keep (w.heap.size) (5) (.int .i64 d3) (by simp [go_sem, *])
    have c1_6 := hu1.keep (w.heap.size + 1) (0) (.int .i64 n) (by simp [go_sem, *])
    have c1_7 := hu1.keep (w.heap.size + 1) (1) (.int .i64 d) (by simp [go_sem, *])
    have c1_8 := hu1.keep (w.heap.size + 1 + 1) (0) (.int .i64 m) (by simp [go_sem, *])
    have c1_9 := hu1.keep (w.heap.size + 1 + 1) (1) (.int .i64 c) (by simp [go_sem, *])
    have l1_0 : w.heap.size < w1.heap.size := World.block_lt_of_cell? _ _ c1_0
    have m1_0 : w.heap.size < w1.heap.size + 1 := by omega
    have n1_0 : w.heap.size < w1.heap.size + 1 + 1 := by omega
    have x1_0 : ¬ w1.heap.size = w.heap.size := by omega
    have y1_0 : ¬ w1.heap.size + 1 = w.heap.size := by omega
    have l1_1 : w.heap.size + 1 < w1.heap.size := World.block_lt_of_cell? _ _ c1_6
    have m1_1 : w.heap.size + 1 < w1.heap.size + 1 := by omega
    have n1_1 : w.heap.size + 1 < w1.heap.size + 1 + 1 := by omega
    have x1_1 : ¬ w1.heap.size = w.heap.size + 1 := by omega
    have y1_1 : ¬ w1.heap.size + 1 = w.heap.size + 1 := by omega
    have l1_2 : w.heap.size + 1 + 1 < w1.heap.size := World.block_lt_of_cell? _ _ c1_8
    have m1_2 : w.heap.size + 1 + 1 < w1.heap.size + 1 := by omega
    have n1_2 : w.heap.size + 1 + 1 < w1.heap.size + 1 + 1 := by omega
    have x1_2 : ¬ w1.heap.size = w.heap.size + 1 + 1 := by omega
    have y1_2 : ¬ w1.heap.size + 1 = w.heap.size + 1 + 1 := by omega
    have HU1 : Hid (Up w w1) := Lib.hid (by ((repeat (first | (with_reducible exact Up.refl _) | (with_reducible refine Up.trans ?_ hu1) | (with_reducible refine Up.alloc ?_ _ _) | (with_reducible refine Up.setCell ?_ ?_ _) | (with_reducible refine Up.drewN ?_ _) | (with_reducible refine Up.drew ?_))); all_goals (first | (simp; done) | (simp; omega) | omega)))
    clear hu1
    go_wp2_with fail
    refine (awakeb_up _).mono ?_
    rintro e w9 ⟨rfl, hu9⟩
    go_wp2
    go_ret
    refine ⟨rfl, Up.grown ?_⟩
    ((repeat (first | (with_reducible exact Up.refl _) | (with_reducible exact HU1.out) | (with_reducible refine Up.trans ?_ hu9) | (with_reducible refine Up.alloc ?_ _ _) | (with_reducible refine Up.setCell ?_ ?_ _) | (with_reducible refine Up.drewN ?_ _) | (with_reducible refine Up.drew ?_))); all_goals (first | (simp; done) | (simp; omega) | omega))
  by_cases h5 : 1 ≤ j
  case neg =>
    have t : decide (j < 1) = true := decide_eq_true (by omega)
    clear HT h5
    go_enter Try.func7, Try.ntmps7
    go_wp2_with fail
    refine (H1.out _).mono ?_
    rintro e w1 ⟨rfl, hu1⟩
    try unfold got2
    have c1_0 := hu1.keep (w.heap.size) (0) (.int .i64 n1) (by simp [go_sem, *])
    have c1_1 := hu1.keep (w.heap.size) (1) (.int .i64 d1) (by simp [go_sem, *])
    have c1_2 := hu1.keep (w.heap.size) (2) (.int .i64 n2) (by simp [go_sem, *])
    have c1_3 := hu1.keep (w.heap.size) (3) (.int .i64 d2) (by simp [go_sem, *])
    have c1_4 := hu1.keep (w.heap.size) (4) (.int .i64 n3) (by simp [go_sem, *])
    have c1_5 := hu1.keep (w.heap.size) (5) (.int .i64 d3) (by simp [go_sem, *])
    have c1_6 := hu1.keep (w.heap.size + 1) (0) (.int .i64 n) (by simp [go_sem, *])
    have c1_7 := hu1.keep (w.heap.size + 1) (1) (.int .i64 d) (by simp [go_sem, *])
    have c1_8 := hu1.keep (w.heap.size + 1 + 1) (0) (.int .i64 m) (by simp [go_sem, *])
    have c1_9 := hu1.keep (w.heap.size + 1 + 1) (1) (.int .i64 c) (by simp [go_sem, *])
    have l1_0 : w.heap.size < w1.heap.size := World.block_lt_of_cell? _ _ c1_0
    have m1_0 : w.heap.size < w1.heap.size + 1 := by omega
    have n1_0 : w.heap.size < w1.heap.size + 1 + 1 := by omega
    have x1_0 : ¬ w1.heap.size = w.heap.size := by omega
    have y1_0 : ¬ w1.heap.size + 1 = w.heap.size := by omega
    have l1_1 : w.heap.size + 1 < w1.heap.size := World.block_lt_of_cell? _ _ c1_6
    have m1_1 : w.heap.size + 1 < w1.heap.size + 1 := by omega
    have n1_1 : w.heap.size + 1 < w1.heap.size + 1 + 1 := by omega
    have x1_1 : ¬ w1.heap.size = w.heap.size + 1 := by omega
    have y1_1 : ¬ w1.heap.size + 1 = w.heap.size + 1 := by omega
    have l1_2 : w.heap.size + 1 + 1 < w1.heap.size := World.block_lt_of_cell? _ _ c1_8
    have m1_2 : w.heap.size + 1 + 1 < w1.heap.size + 1 := by omega
    have n1_2 : w.heap.size + 1 + 1 < w1.heap.size + 1 + 1 := by omega
    have x1_2 : ¬ w1.heap.size = w.heap.size + 1 + 1 := by omega
    have y1_2 : ¬ w1.heap.size + 1 = w.heap.size + 1 + 1 := by omega
    have HU1 : Hid (Up w w1) := Lib.hid (by ((repeat (first | (with_reducible exact Up.refl _) | (with_reducible refine Up.trans ?_ hu1) | (with_reducible refine Up.alloc ?_ _ _) | (with_reducible refine Up.setCell ?_ ?_ _) | (with_reducible refine Up.drewN ?_ _) | (with_reducible refine Up.drew ?_))); all_goals (first | (simp; done) | (simp; omega) | omega)))
    clear hu1
    go_wp2_with fail
    refine (awakeb_up _).mono ?_
    rintro e w9 ⟨rfl, hu9⟩
    go_wp2
    go_ret
    refine ⟨rfl, Up.grown ?_⟩
    ((repeat (first | (with_reducible exact Up.refl _) | (with_reducible exact HU1.out) | (with_reducible refine Up.trans ?_ hu9) | (with_reducible refine Up.alloc ?_ _ _) | (with_reducible refine Up.setCell ?_ ?_ _) | (with_reducible refine Up.drewN ?_ _) | (with_reducible refine Up.drew ?_))); all_goals (first | (simp; done) | (simp; omega) | omega))
  have t1 : decide (j < 1) = false := decide_eq_false (by omega)
  by_cases h6 : j ≤ k
  case neg =>
    have t : decide (k < j) = true := decide_eq_true (by omega)
    clear HT h5 h6
    go_enter Try.func7, Try.ntmps7
    go_wp2_with fail
    refine (H1.out _).mono ?_
    rintro e w1 ⟨rfl, hu1⟩
    try unfold got2
    have c1_0 := hu1.keep (w.heap.size) (0) (.int .i64 n1) (by simp [go_sem, *])
    have c1_1 := hu1.keep (w.heap.size) (1) (.int .i64 d1) (by simp [go_sem, *])
    have c1_2 := hu1.keep (w.heap.size) (2) (.int .i64 n2) (by simp [go_sem, *])
    have c1_3 := hu1.keep (w.heap.size) (3) (.int .i64 d2) (by simp [go_sem, *])
    have c1_4 := hu1.keep (w.heap.size) (4) (.int .i64 n3) (by simp [go_sem, *])
    have c1_5 := hu1.keep (w.heap.size) (5) (.int .i64 d3) (by simp [go_sem, *])
    have c1_6 := hu1.keep (w.heap.size + 1) (0) (.int .i64 n) (by simp [go_sem, *])
    have c1_7 := hu1.keep (w.heap.size + 1) (1) (.int .i64 d) (by simp [go_sem, *])
    have c1_8 := hu1.keep (w.heap.size + 1 + 1) (0) (.int .i64 m) (by simp [go_sem, *])
    have c1_9 := hu1.keep (w.heap.size + 1 + 1) (1) (.int .i64 c) (by simp [go_sem, *])
    have l1_0 : w.heap.size < w1.heap.size := World.block_lt_of_cell? _ _ c1_0
    have m1_0 : w.heap.size < w1.heap.size + 1 := by omega
    have n1_0 : w.heap.size < w1.heap.size + 1 + 1 := by omega
    have x1_0 : ¬ w1.heap.size = w.heap.size := by omega
    have y1_0 : ¬ w1.heap.size + 1 = w.heap.size := by omega
    have l1_1 : w.heap.size + 1 < w1.heap.size := World.block_lt_of_cell? _ _ c1_6
    have m1_1 : w.heap.size + 1 < w1.heap.size + 1 := by omega
    have n1_1 : w.heap.size + 1 < w1.heap.size + 1 + 1 := by omega
    have x1_1 : ¬ w1.heap.size = w.heap.size + 1 := by omega
    have y1_1 : ¬ w1.heap.size + 1 = w.heap.size + 1 := by omega
    have l1_2 : w.heap.size + 1 + 1 < w1.heap.size := World.block_lt_of_cell? _ _ c1_8
    have m1_2 : w.heap.size + 1 + 1 < w1.heap.size + 1 := by omega
    have n1_2 : w.heap.size + 1 + 1 < w1.heap.size + 1 + 1 := by omega
    have x1_2 : ¬ w1.heap.size = w.heap.size + 1 + 1 := by omega
    have y1_2 : ¬ w1.heap.size + 1 = w.heap.size + 1 + 1 := by omega
    have HU1 : Hid (Up w w1) := Lib.hid (by ((repeat (first | (with_reducible exact Up.refl _) | (with_reducible refine Up.trans ?_ hu1) | (with_reducible refine Up.alloc ?_ _ _) | (with_reducible refine Up.setCell ?_ ?_ _) | (with_reducible refine Up.drewN ?_ _) | (with_reducible refine Up.drew ?_))); all_goals (first | (simp; done) | (simp; omega) | omega)))
    clear hu1
    go_wp2_with fail
    refine (awakeb_up _).mono ?_
    rintro e w9 ⟨rfl, hu9⟩
    go_wp2
    go_ret
    refine ⟨rfl, Up.grown ?_⟩
    ((repeat (first | (with_reducible exact Up.refl _) | (with_reducible exact HU1.out) | (with_reducible refine Up.trans ?_ hu9) | (with_reducible refine Up.alloc ?_ _ _) | (with_reducible refine Up.setCell ?_ ?_ _) | (with_reducible refine Up.drewN ?_ _) | (with_reducible refine Up.drew ?_))); all_goals (first | (simp; done) | (simp; omega) | omega))
  have t2 : decide (k < j) = false := decide_eq_false (by omega)
  cases h2
  case false =>
    clear HT h5 h6
    go_enter Try.func7, Try.ntmps7
    go_wp2_with fail
    refine (H1.out _).mono ?_
    rintro e w1 ⟨rfl, hu1⟩
    try unfold got2
    have c1_0 := hu1.keep (w.heap.size) (0) (.int .i64 n1) (by simp [go_sem, *])
    have c1_1 := hu1.keep (w.heap.size) (1) (.int .i64 d1) (by simp [go_sem, *])
    have c1_2 := hu1.keep (w.heap.size) (2) (.int .i64 n2) (by simp [go_sem, *])
    have c1_3 := hu1.keep (w.heap.size) (3) (.int .i64 d2) (by simp [go_sem, *])
    have c1_4 := hu1.keep (w.heap.size) (4) (.int .i64 n3) (by simp [go_sem, *])
    have c1_5 := hu1.keep (w.heap.size) (5) (.int .i64 d3) (by simp [go_sem, *])
    have c1_6 := hu1.keep (w.heap.size + 1) (0) (.int .i64 n) (by simp [go_sem, *])
    have c1_7 := hu1.keep (w.heap.size + 1) (1) (.int .i64 d) (by simp [go_sem, *])
    have c1_8 := hu1.keep (w.heap.size + 1 + 1) (0) (.int .i64 m) (by simp [go_sem, *])
    have c1_9 := hu1.keep (w.heap.size + 1 + 1) (1) (.int .i64 c) (by simp [go_sem, *])
    have l1_0 : w.heap.size < w1.heap.size := World.block_lt_of_cell? _ _ c1_0
    have m1_0 : w.heap.size < w1.heap.size + 1 := by omega
    have n1_0 : w.heap.size < w1.heap.size + 1 + 1 := by omega
    have x1_0 : ¬ w1.heap.size = w.heap.size := by omega
    have y1_0 : ¬ w1.heap.size + 1 = w.heap.size := by omega
    have l1_1 : w.heap.size + 1 < w1.heap.size := World.block_lt_of_cell? _ _ c1_6
    have m1_1 : w.heap.size + 1 < w1.heap.size + 1 := by omega
    have n1_1 : w.heap.size + 1 < w1.heap.size + 1 + 1 := by omega
    have x1_1 : ¬ w1.heap.size = w.heap.size + 1 := by omega
    have y1_1 : ¬ w1.heap.size + 1 = w.heap.size + 1 := by omega
    have l1_2 : w.heap.size + 1 + 1 < w1.heap.size := World.block_lt_of_cell? _ _ c1_8
    have m1_2 : w.heap.size + 1 + 1 < w1.heap.size + 1 := by omega
    have n1_2 : w.heap.size + 1 + 1 < w1.heap.size + 1 + 1 := by omega
    have x1_2 : ¬ w1.heap.size = w.heap.size + 1 + 1 := by omega
    have y1_2 : ¬ w1.heap.size + 1 = w.heap.size + 1 + 1 := by omega
    have HU1 : Hid (Up w w1) := Lib.hid (by ((repeat (first | (with_reducible exact Up.refl _) | (with_reducible refine Up.trans ?_ hu1) | (with_reducible refine Up.alloc ?_ _ _) | (with_reducible refine Up.setCell ?_ ?_ _) | (with_reducible refine Up.drewN ?_ _) | (with_reducible refine Up.drew ?_))); all_goals (first | (simp; done) | (simp; omega) | omega)))
    clear hu1
    go_wp2_with fail
    refine (H2.out _).mono ?_
    rintro e w2 ⟨rfl, hu2⟩
    try unfold got2
    have c2_0 := hu2.keep (w.heap.size) (0) (.int .i64 n1) (by simp [go_sem, *])
    have c2_1 := hu2.keep (w.heap.size) (1) (.int .i64 d1) (by simp [go_sem, *])
    have c2_2 := hu2.keep (w.heap.size) (2) (.int .i64 n2) (by simp [go_sem, *])
    have c2_3 := hu2.keep (w.heap.size) (3) (.int .i64 d2) (by simp [go_sem, *])
    have c2_4 := hu2.keep (w.heap.size) (4) (.int .i64 n3) (by simp [go_sem, *])
    have c2_5 := hu2.keep (w.heap.size) (5) (.int .i64 d3) (by simp [go_sem, *])
    have c2_6 := hu2.keep (w.heap.size + 1) (0) (.int .i64 n) (by simp [go_sem, *])
    have c2_7 := hu2.keep (w.heap.size + 1) (1) (.int .i64 d) (by simp [go_sem, *])
    have c2_8 := hu2.keep (w.heap.size + 1 + 1) (0) (.int .i64 m) (by simp [go_sem, *])
    have c2_9 := hu2.keep (w.heap.size + 1 + 1) (1) (.int .i64 c) (by simp [go_sem, *])
    have l2_0 : w.heap.size < w2.heap.size := World.block_lt_of_cell? _ _ c2_0
    have m2_0 : w.heap.size < w2.heap.size + 1 := by omega
    have n2_0 : w.heap.size < w2.heap.size + 1 + 1 := by omega
    have x2_0 : ¬ w2.heap.size = w.heap.size := by omega
    have y2_0 : ¬ w2.heap.size + 1 = w.heap.size := by omega
    have l2_1 : w.heap.size + 1 < w2.heap.size := World.block_lt_of_cell? _ _ c2_6
    have m2_1 : w.heap.size + 1 < w2.heap.size + 1 := by omega
    have n2_1 : w.heap.size + 1 < w2.heap.size + 1 + 1 := by omega
    have x2_1 : ¬ w2.heap.size = w.heap.size + 1 := by omega
    have y2_1 : ¬ w2.heap.size + 1 = w.heap.size + 1 := by omega
    have l2_2 : w.heap.size + 1 + 1 < w2.heap.size := World.block_lt_of_cell? _ _ c2_8
    have m2_2 : w.heap.size + 1 + 1 < w2.heap.size + 1 := by omega
    have n2_2 : w.heap.size + 1 + 1 < w2.heap.size + 1 + 1 := by omega
    have x2_2 : ¬ w2.heap.size = w.heap.size + 1 + 1 := by omega
    have y2_2 : ¬ w2.heap.size + 1 = w.heap.size + 1 + 1 := by omega
    have HU2 : Hid (Up w w2) := Lib.hid (by ((repeat (first | (with_reducible exact Up.refl _) | (with_reducible exact HU1.out) | (with_reducible refine Up.trans ?_ hu2) | (with_reducible refine Up.alloc ?_ _ _) | (with_reducible refine Up.setCell ?_ ?_ _) | (with_reducible refine Up.drewN ?_ _) | (with_reducible refine Up.drew ?_))); all_goals (first | (simp; done) | (simp; omega) | omega)))
    clear hu2 c1_0 c1_1 c1_2 c1_3 c1_4 c1_5 c1_6 c1_7 c1_8 c1_9
    go_wp2_with fail
    refine (awakeb_up _).mono ?_
    rintro e w9 ⟨rfl, hu9⟩
    go_wp2
    go_ret
    refine ⟨rfl, Up.grown ?_⟩
    ((repeat (first | (with_reducible exact Up.refl _) | (with_reducible exact HU2.out) | (with_reducible refine Up.trans ?_ hu9) | (with_reducible refine Up.alloc ?_ _ _) | (with_reducible refine Up.setCell ?_ ?_ _) | (with_reducible refine Up.drewN ?_ _) | (with_reducible refine Up.drew ?_))); all_goals (first | (simp; done) | (simp; omega) | omega))
  by_cases h7 : x ≤ 0
  case neg =>
    have t : decide (0 < x) = true := decide_eq_true (by omega)
    clear HT h5 h6 h7
    go_enter Try.func7, Try.ntmps7
    go_wp2_with fail
    refine (H1.out _).mono ?_
    rintro e w1 ⟨rfl, hu1⟩
    try unfold got2
    have c1_0 := hu1.keep (w.heap.size) (0) (.int .i64 n1) (by simp [go_sem, *])
    have c1_1 := hu1.keep (w.heap.size) (1) (.int .i64 d1) (by simp [go_sem, *])
    have c1_2 := hu1.keep (w.heap.size) (2) (.int .i64 n2) (by simp [go_sem, *])
    have c1_3 := hu1.keep (w.heap.size) (3) (.int .i64 d2) (by simp [go_sem, *])
    have c1_4 := hu1.keep (w.heap.size) (4) (.int .i64 n3) (by simp [go_sem, *])
    have c1_5 := hu1.keep (w.heap.size) (5) (.int .i64 d3) (by simp [go_sem, *])
    have c1_6 := hu1.keep (w.heap.size + 1) (0) (.int .i64 n) (by simp [go_sem, *])
    have c1_7 := hu1.keep (w.heap.size + 1) (1) (.int .i64 d) (by simp [go_sem, *])
    have c1_8 := hu1.keep (w.heap.size + 1 + 1) (0) (.int .i64 m) (by simp [go_sem, *])
    have c1_9 := hu1.keep (w.heap.size + 1 + 1) (1) (.int .i64 c) (by simp [go_sem, *])
    have l1_0 : w.heap.size < w1.heap.size := World.block_lt_of_cell? _ _ c1_0
    have m1_0 : w.heap.size < w1.heap.size + 1 := by omega
    have n1_0 : w.heap.size < w1.heap.size + 1 + 1 := by omega
    have x1_0 : ¬ w1.heap.size = w.heap.size := by omega
    have y1_0 : ¬ w1.heap.size + 1 = w.heap.size := by omega
    have l1_1 : w.heap.size + 1 < w1.heap.size := World.block_lt_of_cell? _ _ c1_6
    have m1_1 : w.heap.size + 1 < w1.heap.size + 1 := by omega
    have n1_1 : w.heap.size + 1 < w1.heap.size + 1 + 1 := by omega
    have x1_1 : ¬ w1.heap.size = w.heap.size + 1 := by omega
    have y1_1 : ¬ w1.heap.size + 1 = w.heap.size + 1 := by omega
    have l1_2 : w.heap.size + 1 + 1 < w1.heap.size := World.block_lt_of_cell? _ _ c1_8
    have m1_2 : w.heap.size + 1 + 1 < w1.heap.size + 1 := by omega
    have n1_2 : w.heap.size + 1 + 1 < w1.heap.size + 1 + 1 := by omega
    have x1_2 : ¬ w1.heap.size = w.heap.size + 1 + 1 := by omega
    have y1_2 : ¬ w1.heap.size + 1 = w.heap.size + 1 + 1 := by omega
    have HU1 : Hid (Up w w1) := Lib.hid (by ((repeat (first | (with_reducible exact Up.refl _) | (with_reducible refine Up.trans ?_ hu1) | (with_reducible refine Up.alloc ?_ _ _) | (with_reducible refine Up.setCell ?_ ?_ _) | (with_reducible refine Up.drewN ?_ _) | (with_reducible refine Up.drew ?_))); all_goals (first | (simp; done) | (simp; omega) | omega)))
    clear hu1
    go_wp2_with fail
    refine (H2.out _).mono ?_
    rintro e w2 ⟨rfl, hu2⟩
    try unfold got2
    have c2_0 := hu2.keep (w.heap.size) (0) (.int .i64 n1) (by simp [go_sem, *])
    have c2_1 := hu2.keep (w.heap.size) (1) (.int .i64 d1) (by simp [go_sem, *])
    have c2_2 := hu2.keep (w.heap.size) (2) (.int .i64 n2) (by simp [go_sem, *])
    have c2_3 := hu2.keep (w.heap.size) (3) (.int .i64 d2) (by simp [go_sem, *])
    have c2_4 := hu2.keep (w.heap.size) (4) (.int .i64 n3) (by simp [go_sem, *])
    have c2_5 := hu2.keep (w.heap.size) (5) (.int .i64 d3) (by simp [go_sem, *])
    have c2_6 := hu2.keep (w.heap.size + 1) (0) (.int .i64 n) (by simp [go_sem, *])
    have c2_7 := hu2.keep (w.heap.size + 1) (1) (.int .i64 d) (by simp [go_sem, *])
    have c2_8 := hu2.keep (w.heap.size + 1 + 1) (0) (.int .i64 m) (by simp [go_sem, *])
    have c2_9 := hu2.keep (w.heap.size + 1 + 1) (1) (.int .i64 c) (by simp [go_sem, *])
    have l2_0 : w.heap.size < w2.heap.size := World.block_lt_of_cell? _ _ c2_0
    have m2_0 : w.heap.size < w2.heap.size + 1 := by omega
    have n2_0 : w.heap.size < w2.heap.size + 1 + 1 := by omega
    have x2_0 : ¬ w2.heap.size = w.heap.size := by omega
    have y2_0 : ¬ w2.heap.size + 1 = w.heap.size := by omega
    have l2_1 : w.heap.size + 1 < w2.heap.size := World.block_lt_of_cell? _ _ c2_6
    have m2_1 : w.heap.size + 1 < w2.heap.size + 1 := by omega
    have n2_1 : w.heap.size + 1 < w2.heap.size + 1 + 1 := by omega
    have x2_1 : ¬ w2.heap.size = w.heap.size + 1 := by omega
    have y2_1 : ¬ w2.heap.size + 1 = w.heap.size + 1 := by omega
    have l2_2 : w.heap.size + 1 + 1 < w2.heap.size := World.block_lt_of_cell? _ _ c2_8
    have m2_2 : w.heap.size + 1 + 1 < w2.heap.size + 1 := by omega
    have n2_2 : w.heap.size + 1 + 1 < w2.heap.size + 1 + 1 := by omega
    have x2_2 : ¬ w2.heap.size = w.heap.size + 1 + 1 := by omega
    have y2_2 : ¬ w2.heap.size + 1 = w.heap.size + 1 + 1 := by omega
    have HU2 : Hid (Up w w2) := Lib.hid (by ((repeat (first | (with_reducible exact Up.refl _) | (with_reducible exact HU1.out) | (with_reducible refine Up.trans ?_ hu2) | (with_reducible refine Up.alloc ?_ _ _) | (with_reducible refine Up.setCell ?_ ?_ _) | (with_reducible refine Up.drewN ?_ _) | (with_reducible refine Up.drew ?_))); all_goals (first | (simp; done) | (simp; omega) | omega)))
    clear hu2 c1_0 c1_1 c1_2 c1_3 c1_4 c1_5 c1_6 c1_7 c1_8 c1_9
    go_wp2_with fail
    refine (H3.out _).mono ?_
    rintro e w3 ⟨rfl, hu3⟩
    try unfold got2
    have c3_0 := hu3.keep (w.heap.size) (0) (.int .i64 n1) (by simp [go_sem, *])
    have c3_1 := hu3.keep (w.heap.size) (1) (.int .i64 d1) (by simp [go_sem, *])
    have c3_2 := hu3.keep (w.heap.size) (2) (.int .i64 n2) (by simp [go_sem, *])
    have c3_3 := hu3.keep (w.heap.size) (3) (.int .i64 d2) (by simp [go_sem, *])
    have c3_4 := hu3.keep (w.heap.size) (4) (.int .i64 n3) (by simp [go_sem, *])
    have c3_5 := hu3.keep (w.heap.size) (5) (.int .i64 d3) (by simp [go_sem, *])
    have c3_6 := hu3.keep (w.heap.size + 1) (0) (.int .i64 n) (by simp [go_sem, *])
    have c3_7 := hu3.keep (w.heap.size + 1) (1) (.int .i64 d) (by simp [go_sem, *])
    have c3_8 := hu3.keep (w.heap.size + 1 + 1) (0) (.int .i64 m) (by simp [go_sem, *])
    have c3_9 := hu3.keep (w.heap.size + 1 + 1) (1) (.int .i64 c) (by simp [go_sem, *])
    have l3_0 : w.heap.size < w3.heap.size := World.block_lt_of_cell? _ _ c3_0
    have m3_0 : w.heap.size < w3.heap.size + 1 := by omega
    have n3_0 : w.heap.size < w3.heap.size + 1 + 1 := by omega
    have x3_0 : ¬ w3.heap.size = w.heap.size := by omega
    have y3_0 : ¬ w3.heap.size + 1 = w.heap.size := by omega
    have l3_1 : w.heap.size + 1 < w3.heap.size := World.block_lt_of_cell? _ _ c3_6
    have m3_1 : w.heap.size + 1 < w3.heap.size + 1 := by omega
    have n3_1 : w.heap.size + 1 < w3.heap.size + 1 + 1 := by omega
    have x3_1 : ¬ w3.heap.size = w.heap.size + 1 := by omega
    have y3_1 : ¬ w3.heap.size + 1 = w.heap.size + 1 := by omega
    have l3_2 : w.heap.size + 1 + 1 < w3.heap.size := World.block_lt_of_cell? _ _ c3_8
    have m3_2 : w.heap.size + 1 + 1 < w3.heap.size + 1 := by omega
    have n3_2 : w.heap.size + 1 + 1 < w3.heap.size + 1 + 1 := by omega
    have x3_2 : ¬ w3.heap.size = w.heap.size + 1 + 1 := by omega
    have y3_2 : ¬ w3.heap.size + 1 = w.heap.size + 1 + 1 := by omega
    have HU3 : Hid (Up w w3) := Lib.hid (by ((repeat (first | (with_reducible exact Up.refl _) | (with_reducible exact HU2.out) | (with_reducible refine Up.trans ?_ hu3) | (with_reducible refine Up.alloc ?_ _ _) | (with_reducible refine Up.setCell ?_ ?_ _) | (with_reducible refine Up.drewN ?_ _) | (with_reducible refine Up.drew ?_))); all_goals (first | (simp; done) | (simp; omega) | omega)))
    clear hu3 c2_0 c2_1 c2_2 c2_3 c2_4 c2_5 c2_6 c2_7 c2_8 c2_9
    go_wp2_with fail
    refine (awakeb_up _).mono ?_
    rintro e w9 ⟨rfl, hu9⟩
    go_wp2
    go_ret
    refine ⟨rfl, Up.grown ?_⟩
    ((repeat (first | (with_reducible exact Up.refl _) | (with_reducible exact HU3.out) | (with_reducible refine Up.trans ?_ hu9) | (with_reducible refine Up.alloc ?_ _ _) | (with_reducible refine Up.setCell ?_ ?_ _) | (with_reducible refine Up.drewN ?_ _) | (with_reducible refine Up.drew ?_))); all_goals (first | (simp; done) | (simp; omega) | omega))
  have t3 : decide (0 < x) = false := decide_eq_false (by omega)
  obtain rfl : h4 = true := HT.out rfl h5 h6 rfl h7
  clear HT h5 h6 h7
  go_enter Try.func7, Try.ntmps7
  go_wp2_with fail
  refine (H1.out _).mono ?_
  rintro e w1 ⟨rfl, hu1⟩
  try unfold got2
  have c1_0 := hu1.keep (w.heap.size) (0) (.int .i64 n1) (by simp [go_sem, *])
  have c1_1 := hu1.keep (w.heap.size) (1) (.int .i64 d1) (by simp [go_sem, *])
  have c1_2 := hu1.keep (w.heap.size) (2) (.int .i64 n2) (by simp [go_sem, *])
  have c1_3 := hu1.keep (w.heap.size) (3) (.int .i64 d2) (by simp [go_sem, *])
  have c1_4 := hu1.keep (w.heap.size) (4) (.int .i64 n3) (by simp [go_sem, *])
  have c1_5 := hu1.keep (w.heap.size) (5) (.int .i64 d3) (by simp [go_sem, *])
  have c1_6 := hu1.keep (w.heap.size + 1) (0) (.int .i64 n) (by simp [go_sem, *])
  have c1_7 := hu1.keep (w.heap.size + 1) (1) (.int .i64 d) (by simp [go_sem, *])
  have c1_8 := hu1.keep (w.heap.size + 1 + 1) (0) (.int .i64 m) (by simp [go_sem, *])
  have c1_9 := hu1.keep (w.heap.size + 1 + 1) (1) (.int .i64 c) (by simp [go_sem, *])
  have l1_0 : w.heap.size < w1.heap.size := World.block_lt_of_cell? _ _ c1_0
  have m1_0 : w.heap.size < w1.heap.size + 1 := by omega
  have n1_0 : w.heap.size < w1.heap.size + 1 + 1 := by omega
  have x1_0 : ¬ w1.heap.size = w.heap.size := by omega
  have y1_0 : ¬ w1.heap.size + 1 = w.heap.size := by omega
  have l1_1 : w.heap.size + 1 < w1.heap.size := World.block_lt_of_cell? _ _ c1_6
  have m1_1 : w.heap.size + 1 < w1.heap.size + 1 := by omega
  have n1_1 : w.heap.size + 1 < w1.heap.size + 1 + 1 := by omega
  have x1_1 : ¬ w1.heap.size = w.heap.size + 1 := by omega
  have y1_1 : ¬ w1.heap.size + 1 = w.heap.size + 1 := by omega
  have l1_2 : w.heap.size + 1 + 1 < w1.heap.size := World.block_lt_of_cell? _ _ c1_8
  have m1_2 : w.heap.size + 1 + 1 < w1.heap.size + 1 := by omega
  have n1_2 : w.heap.size + 1 + 1 < w1.heap.size + 1 + 1 := by omega
  have x1_2 : ¬ w1.heap.size = w.heap.size + 1 + 1 := by omega
  have y1_2 : ¬ w1.heap.size + 1 = w.heap.size + 1 + 1 := by omega
  have HU1 : Hid (Up w w1) := Lib.hid (by ((repeat (first | (with_reducible exact Up.refl _) | (with_reducible refine Up.trans ?_ hu1) | (with_reducible refine Up.alloc ?_ _ _) | (with_reducible refine Up.setCell ?_ ?_ _) | (with_reducible refine Up.drewN ?_ _) | (with_reducible refine Up.drew ?_))); all_goals (first | (simp; done) | (simp; omega) | omega)))
  clear hu1
  go_wp2_with fail
  refine (H2.out _).mono ?_
  rintro e w2 ⟨rfl, hu2⟩
  try unfold got2
  have c2_0 := hu2.keep (w.heap.size) (0) (.int .i64 n1) (by simp [go_sem, *])
  have c2_1 := hu2.keep (w.heap.size) (1) (.int .i64 d1) (by simp [go_sem, *])
  have c2_2 := hu2.keep (w.heap.size) (2) (.int .i64 n2) (by simp [go_sem, *])
  have c2_3 := hu2.keep (w.heap.size) (3) (.int .i64 d2) (by simp [go_sem, *])
  have c2_4 := hu2.keep (w.heap.size) (4) (.int .i64 n3) (by simp [go_sem, *])
  have c2_5 := hu2.keep (w.heap.size) (5) (.int .i64 d3) (by simp [go_sem, *])
  have c2_6 := hu2.keep (w.heap.size + 1) (0) (.int .i64 n) (by simp [go_sem, *])
  have c2_7 := hu2.keep (w.heap.size + 1) (1) (.int .i64 d) (by simp [go_sem, *])
  have c2_8 := hu2.keep (w.heap.size + 1 + 1) (0) (.int .i64 m) (by simp [go_sem, *])
  have c2_9 := hu2.keep (w.heap.size + 1 + 1) (1) (.int .i64 c) (by simp [go_sem, *])
  have l2_0 : w.heap.size < w2.heap.size := World.block_lt_of_cell? _ _ c2_0
  have m2_0 : w.heap.size < w2.heap.size + 1 := by omega
  have n2_0 : w.heap.size < w2.heap.size + 1 + 1 := by omega
  have x2_0 : ¬ w2.heap.size = w.heap.size := by omega
  have y2_0 : ¬ w2.heap.size + 1 = w.heap.size := by omega
  have l2_1 : w.heap.size + 1 < w2.heap.size := World.block_lt_of_cell? _ _ c2_6
  have m2_1 : w.heap.size + 1 < w2.heap.size + 1 := by omega
  have n2_1 : w.heap.size + 1 < w2.heap.size + 1 + 1 := by omega
  have x2_1 : ¬ w2.heap.size = w.heap.size + 1 := by omega
  have y2_1 : ¬ w2.heap.size + 1 = w.heap.size + 1 := by omega
  have l2_2 : w.heap.size + 1 + 1 < w2.heap.size := World.block_lt_of_cell? _ _ c2_8
  have m2_2 : w.heap.size + 1 + 1 < w2.heap.size + 1 := by omega
  have n2_2 : w.heap.size + 1 + 1 < w2.heap.size + 1 + 1 := by omega
  have x2_2 : ¬ w2.heap.size = w.heap.size + 1 + 1 := by omega
  have y2_2 : ¬ w2.heap.size + 1 = w.heap.size + 1 + 1 := by omega
  have HU2 : Hid (Up w w2) := Lib.hid (by ((repeat (first | (with_reducible exact Up.refl _) | (with_reducible exact HU1.out) | (with_reducible refine Up.trans ?_ hu2) | (with_reducible refine Up.alloc ?_ _ _) | (with_reducible refine Up.setCell ?_ ?_ _) | (with_reducible refine Up.drewN ?_ _) | (with_reducible refine Up.drew ?_))); all_goals (first | (simp; done) | (simp; omega) | omega)))
  clear hu2 c1_0 c1_1 c1_2 c1_3 c1_4 c1_5 c1_6 c1_7 c1_8 c1_9
  go_wp2_with fail
  refine (H3.out _).mono ?_
  rintro e w3 ⟨rfl, hu3⟩
  try unfold got2
  have c3_0 := hu3.keep (w.heap.size) (0) (.int .i64 n1) (by simp [go_sem, *])
  have c3_1 := hu3.keep (w.heap.size) (1) (.int .i64 d1) (by simp [go_sem, *])
  have c3_2 := hu3.keep (w.heap.size) (2) (.int .i64 n2) (by simp [go_sem, *])
  have c3_3 := hu3.keep (w.heap.size) (3) (.int .i64 d2) (by simp [go_sem, *])
  have c3_4 := hu3.keep (w.heap.size) (4) (.int .i64 n3) (by simp [go_sem, *])
  have c3_5 := hu3.keep (w.heap.size) (5) (.int .i64 d3) (by simp [go_sem, *])
  have c3_6 := hu3.keep (w.heap.size + 1) (0) (.int .i64 n) (by simp [go_sem, *])
  have c3_7 := hu3.keep (w.heap.size + 1) (1) (.int .i64 d) (by simp [go_sem, *])
  have c3_8 := hu3.keep (w.heap.size + 1 + 1) (0) (.int .i64 m) (by simp [go_sem, *])
  have c3_9 := hu3.keep (w.heap.size + 1 + 1) (1) (.int .i64 c) (by simp [go_sem, *])
  have l3_0 : w.heap.size < w3.heap.size := World.block_lt_of_cell? _ _ c3_0
  have m3_0 : w.heap.size < w3.heap.size + 1 := by omega
  have n3_0 : w.heap.size < w3.heap.size + 1 + 1 := by omega
  have x3_0 : ¬ w3.heap.size = w.heap.size := by omega
  have y3_0 : ¬ w3.heap.size + 1 = w.heap.size := by omega
  have l3_1 : w.heap.size + 1 < w3.heap.size := World.block_lt_of_cell? _ _ c3_6
  have m3_1 : w.heap.size + 1 < w3.heap.size + 1 := by omega
  have n3_1 : w.heap.size + 1 < w3.heap.size + 1 + 1 := by omega
  have x3_1 : ¬ w3.heap.size = w.heap.size + 1 := by omega
  have y3_1 : ¬ w3.heap.size + 1 = w.heap.size + 1 := by omega
  have l3_2 : w.heap.size + 1 + 1 < w3.heap.size := World.block_lt_of_cell? _ _ c3_8
  have m3_2 : w.heap.size + 1 + 1 < w3.heap.size + 1 := by omega
  have n3_2 : w.heap.size + 1 + 1 < w3.heap.size + 1 + 1 := by omega
  have x3_2 : ¬ w3.heap.size = w.heap.size + 1 + 1 := by omega
  have y3_2 : ¬ w3.heap.size + 1 = w.heap.size + 1 + 1 := by omega
  have HU3 : Hid (Up w w3) := Lib.hid (by ((repeat (first | (with_reducible exact Up.refl _) | (with_reducible exact HU2.out) | (with_reducible refine Up.trans ?_ hu3) | (with_reducible refine Up.alloc ?_ _ _) | (with_reducible refine Up.setCell ?_ ?_ _) | (with_reducible refine Up.drewN ?_ _) | (with_reducible refine Up.drew ?_))); all_goals (first | (simp; done) | (simp; omega) | omega)))
  clear hu3 c2_0 c2_1 c2_2 c2_3 c2_4 c2_5 c2_6 c2_7 c2_8 c2_9
  go_wp2_with fail
  refine (H4.out _).mono ?_
  rintro e w4 ⟨rfl, hu4⟩
  try unfold got2
  have c4_0 := hu4.keep (w.heap.size) (0) (.int .i64 n1) (by simp [go_sem, *])
  have c4_1 := hu4.keep (w.heap.size) (1) (.int .i64 d1) (by simp [go_sem, *])
  have c4_2 := hu4.keep (w.heap.size) (2) (.int .i64 n2) (by simp [go_sem, *])
  have c4_3 := hu4.keep (w.heap.size) (3) (.int .i64 d2) (by simp [go_sem, *])
  have c4_4 := hu4.keep (w.heap.size) (4) (.int .i64 n3) (by simp [go_sem, *])
  have c4_5 := hu4.keep (w.heap.size) (5) (.int .i64 d3) (by simp [go_sem, *])
  have c4_6 := hu4.keep (w.heap.size + 1) (0) (.int .i64 n) (by simp [go_sem, *])
  have c4_7 := hu4.keep (w.heap.size + 1) (1) (.int .i64 d) (by simp [go_sem, *])
  have c4_8 := hu4.keep (w.heap.size + 1 + 1) (0) (.int .i64 m) (by simp [go_sem, *])
  have c4_9 := hu4.keep (w.heap.size + 1 + 1) (1) (.int .i64 c) (by simp [go_sem, *])
  have l4_0 : w.heap.size < w4.heap.size := World.block_lt_of_cell? _ _ c4_0
  have m4_0 : w.heap.size < w4.heap.size + 1 := by omega
  have n4_0 : w.heap.size < w4.heap.size + 1 + 1 := by omega
  have x4_0 : ¬ w4.heap.size = w.heap.size := by omega
  have y4_0 : ¬ w4.heap.size + 1 = w.heap.size := by omega
  have l4_1 : w.heap.size + 1 < w4.heap.size := World.block_lt_of_cell? _ _ c4_6
  have m4_1 : w.heap.size + 1 < w4.heap.size + 1 := by omega
  have n4_1 : w.heap.size + 1 < w4.heap.size + 1 + 1 := by omega
  have x4_1 : ¬ w4.heap.size = w.heap.size + 1 := by omega
  have y4_1 : ¬ w4.heap.size + 1 = w.heap.size + 1 := by omega
  have l4_2 : w.heap.size + 1 + 1 < w4.heap.size := World.block_lt_of_cell? _ _ c4_8
  have m4_2 : w.heap.size + 1 + 1 < w4.heap.size + 1 := by omega
  have n4_2 : w.heap.size + 1 + 1 < w4.heap.size + 1 + 1 := by omega
  have x4_2 : ¬ w4.heap.size = w.heap.size + 1 + 1 := by omega
  have y4_2 : ¬ w4.heap.size + 1 = w.heap.size + 1 + 1 := by omega
  have HU4 : Hid (Up w w4) := Lib.hid (by ((repeat (first | (with_reducible exact Up.refl _) | (with_reducible exact HU3.out) | (with_reducible refine Up.trans ?_ hu4) | (with_reducible refine Up.alloc ?_ _ _) | (with_reducible refine Up.setCell ?_ ?_ _) | (with_reducible refine Up.drewN ?_ _) | (with_reducible refine Up.drew ?_))); all_goals (first | (simp; done) | (simp; omega) | omega)))
  clear hu4 c3_0 c3_1 c3_2 c3_3 c3_4 c3_5 c3_6 c3_7 c3_8 c3_9
  go_wp2_with fail
  refine (awakeb_up _).mono ?_
  rintro e w9 ⟨rfl, hu9⟩
  go_wp2
  go_ret
  refine ⟨rfl, Up.grown ?_⟩
  ((repeat (first | (with_reducible exact Up.refl _) | (with_reducible exact HU4.out) | (with_reducible refine Up.trans ?_ hu9) | (with_reducible refine Up.alloc ?_ _ _) | (with_reducible refine Up.setCell ?_ ?_ _) | (with_reducible refine Up.drewN ?_ _) | (with_reducible refine Up.drew ?_))); all_goals (first | (simp; done) | (simp; omega) | omega))

set_option maxRecDepth 100000 in
theorem boundsNarrow_lifted (os : Os) (started : os.Started) (H : Type) (enc : TypeId × Value → H) :
    ReturnsInHanded {} Try.checked os 7 .any (Rows.boundsNarrowSpec.pre6 enc Try.prog Try.f7 Rows.boundsNarrowRow.domain false) (Rows.boundsNarrowSpec.post enc Try.prog Try.f7 false true false false) := by
  refine returnsInHanded_of_change (C := Try.checked) boundsNarrow_own started (by kernel_rfl) Try.func7
    (ChangeSpec.witness6 (enc := enc) (C := Try.checked) false ⟨#[], #[.agg #[.int .i64 0, .int .i64 0, .int .i64 0, .int .i64 0, .int .i64 0, .int .i64 0], .int .i64 0, .int .i64 0, .agg #[.int .i64 0, .int .i64 0], .agg #[.int .i64 0, .int .i64 0]], []⟩ 8 (by kernel_rfl) (by kernel_rfl) (by kernel_rfl) (by kernel_rfl)) ?_
  intro W base args ds gs before hval0 hW hcnd _
  have hval : ∀ (j : Nat) t v, Try.f7.params[j]? = some t → args[j]? = some v → Value.okWide Try.prog W .any base t v := hval0
  have hW' := hW
  obtain ⟨p, q, hA0, hV, rfl, hfz, hnd⟩ := hW
  have hA : DataW.TrodAll enc Try.prog W 0 (fun _ => true) true Try.f7.params.toList args.toList ds p := hA0
  rw [Try.params7] at hA hval
  obtain ⟨v0, vs0, d0, ds0, p0, q0, hargs, rfl, rfl, h0, r0⟩ := trodAll_cons hA
  obtain ⟨v1, vs1, d1, ds1, p1, q1, rfl, rfl, rfl, h1, r1⟩ := trodAll_cons r0
  obtain ⟨v2, vs2, d2, ds2, p2, q2, rfl, rfl, rfl, h2, r2⟩ := trodAll_cons r1
  obtain ⟨v3, vs3, d3, ds3, p3, q3, rfl, rfl, rfl, h3, r3⟩ := trodAll_cons r2
  obtain ⟨v4, vs4, d4, ds4, p4, q4, rfl, rfl, rfl, h4, r4⟩ := trodAll_cons r3
  obtain ⟨rfl, rfl, rfl⟩ := trodAll_nil r4
  obtain rfl : args = #[v0, v1, v2, v3, v4] := by cases args; simp_all
  obtain ⟨rfl, rfl⟩ := trodVars_none hV
  obtain ⟨a00, a01, a02, a03, a04, a05, rfl, rfl, rfl, k00, k01, k02, k03, k04, k05⟩ := open_bounds (hval 0 25 v0 rfl rfl) h0
  obtain ⟨a1, rfl, rfl, rfl, w1⟩ := open_int Try.underlying3 (hval 1 3 v1 rfl rfl) h1
  obtain ⟨a2, rfl, rfl, rfl, w2⟩ := open_int Try.underlying3 (hval 2 3 v2 rfl rfl) h2
  obtain ⟨ca3, cb3, ya3, yb3, m3, rfl, rfl, rfl, hya3, hyb3⟩ := open_agg2 Try.underlying23 (by kernel_rfl) boundsNarrow_cellsr (hval 3 23 v3 rfl rfl) h3
  obtain ⟨a3, ea3, rfl, w3⟩ := DataW.trod_int Try.underlying2 hya3
  obtain ⟨b3, eb3, rfl, x3⟩ := DataW.trod_int Try.underlying2 hyb3
  simp at ea3 eb3
  subst ea3 eb3
  obtain ⟨ca4, cb4, ya4, yb4, m4, rfl, rfl, rfl, hya4, hyb4⟩ := open_agg2 Try.underlying23 (by kernel_rfl) boundsNarrow_cellsr (hval 4 23 v4 rfl rfl) h4
  obtain ⟨a4, ea4, rfl, w4⟩ := DataW.trod_int Try.underlying2 hya4
  obtain ⟨b4, eb4, rfl, x4⟩ := DataW.trod_int Try.underlying2 hyb4
  simp at ea4 eb4
  subst ea4 eb4
  clear hA0 hval0
  simp only [List.append_nil] at hW'
  refine (boundsNarrow_walk a00 a01 a02 a03 a04 a05 a1 a2 a3 b3 a4 b4 k00 k01 k02 k03 k04 k05 w1 w2 w3 x3 w4 x4 W).mono fun e W' ⟨he, hg⟩ => ?_
  subst he
  exact ⟨_, rfl, post_of_same (pa := []) (pv := []) hW' (fun _ _ _ => (trodAll_cons_mk (shut_bool Try.underlying4 _) trodAll_mk0)) (fun sp _ => (trodAll_cons_mk (shut_bounds k00 k01 k02 k03 k04 k05) (trodAll_cons_mk (shut_int Try.underlying3 w1) (trodAll_cons_mk (shut_int Try.underlying3 w2) (trodAll_cons_mk (shut_agg2 (y0 := (.lit (.int .i64 a3), [])) (y1 := (.lit (.int .i64 b3), [])) Try.underlying23 (by kernel_rfl) boundsNarrow_cellsr ⟨1, by simp [DataW.trod, Try.underlying2, w3]⟩ ⟨1, by simp [DataW.trod, Try.underlying2, x3]⟩) (trodAll_cons_mk (shut_agg2 (y0 := (.lit (.int .i64 a4), [])) (y1 := (.lit (.int .i64 b4), [])) Try.underlying23 (by kernel_rfl) boundsNarrow_cellsr ⟨1, by simp [DataW.trod, Try.underlying2, w4]⟩ ⟨1, by simp [DataW.trod, Try.underlying2, x4]⟩) trodAll_mk0)))))) (fun _ _ => rfl) rfl
    (hg.frame _) hg.2.1 (ok_one (by kernel_rfl) rfl (okWide_bool_mk Try.underlying4 _))⟩

theorem boundsNarrow_over : Rows.boundsNarrowRow.holds Try.pinned (OpenSpec.ofChange Rows.boundsNarrowSpec) :=
  OpenClaim.holds_of_wide 7 Try.f7 rfl rfl rfl rfl rfl rfl rfl ⟨rfl, rfl, rfl, rfl, rfl⟩ rfl rfl rfl rfl rfl (by kernel_rfl) Try.func7 (by kernel_rfl)
    (of_decide_eq_true (by kernel_rfl)) (by unfold Func.isWrapper; first | (rw [if_pos (by decide +kernel)]; kernel_rfl) | (rw [if_neg (by decide +kernel)]; exact ⟨rfl, rfl⟩))
    (fun os started H enc _ => boundsNarrow_lifted os started H enc)

theorem boundsNarrow_holds : Rows.BoundsNarrowSaid :=
  boundsNarrow_over
#print axioms boundsNarrow_holds
end Go.Proofs.Ytgafcpklocccdaa
