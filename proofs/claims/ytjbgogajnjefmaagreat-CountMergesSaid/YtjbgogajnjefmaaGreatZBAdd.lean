/- What Add of package bounds returns. -/
import Derived.Test.YtjbgogajnjefmaaGreatZBSmallm2
import Derived.Test.YtjbgogajnjefmaaGreatZRArithm4
import Derived.Test.YtjbgogajnjefmaaGreatZRQuo
import Derived.Test.YtjbgogajnjefmaaGreatZRRSum
import Derived.Test.YtjbgogajnjefmaaGreatZWGcd
import Derived.Test.YtjbgogajnjefmaaGreatZWMathm8
import Derived.Test.YtjbgogajnjefmaaGreatZWRDiv2
import Derived.Test.YtjbgogajnjefmaaGreatZWShortm3
namespace Go.Proofs.YtjbgogajnjefmaaGreat
open Go.RowKit

/-- A sum of two rational numbers, if both are valid and it fits. -/
def sN (n d m c : Int) : Int := vN (validB n d && validB m c) (n * c + m * d) (d * c)
def sD (n d m c : Int) : Int := vD (validB n d && validB m c) (n * c + m * d) (d * c)
def sB (n d m c : Int) : Bool := vB (validB n d && validB m c) (n * c + m * d) (d * c)
def aB (n1 d1 n2 d2 n3 d3 m1 c1 m2 c2 m3 c3 : Int) : Bool := (bvB n1 d1 n2 d2 n3 d3 && bvB m1 c1 m2 c2 m3 c3) && (sB n1 d1 m1 c1 && (sB n2 d2 m2 c2 && sB n3 d3 m3 c3))
theorem adds_up (n d m c : Int) (hn : In n) (hd : In d) (hm : In m) (hc : In c) (w : World) :
    Calls Tryz.prog 20 #[.agg #[.int .i64 n, .int .i64 d], .agg #[.int .i64 m, .int .i64 c]] w fun e w' => e = gotR (sN n d m c) (sD n d m c) (sB n d m c) ∧ Up w w' :=
  addr_up n d m c hn hd hm hc w
theorem radds_up (n d m c : Int) (hn : In n) (hd : In d) (hm : In m) (hc : In c) (w : World) :
    Calls Tryz.prog 24 #[.agg #[.int .i64 n, .int .i64 d], .agg #[.int .i64 m, .int .i64 c], .bool false] w fun e w' => e = gotR (sN n d m c) (sD n d m c) (sB n d m c) ∧ Up w w' := by
  have h := rsum_up n d m c false hn hd hm hc w
  rw [sz_false] at h
  exact h

set_option maxHeartbeats 4000000 in
set_option maxRecDepth 100000 in
theorem badd_up (n1 d1 n2 d2 n3 d3 m1 c1 m2 c2 m3 c3 : Int) (in1 : In n1) (id1 : In d1) (in2 : In n2) (id2 : In d2) (in3 : In n3) (id3 : In d3) (im1 : In m1) (ic1 : In c1) (im2 : In m2) (ic2 : In c2) (im3 : In m3) (ic3 : In c3) (w : World) :
    Calls Tryz.prog 11 #[.agg #[.int .i64 n1, .int .i64 d1, .int .i64 n2, .int .i64 d2, .int .i64 n3, .int .i64 d3], .agg #[.int .i64 m1, .int .i64 c1, .int .i64 m2, .int .i64 c2, .int .i64 m3, .int .i64 c3]] w fun e w' => e = gotB (oz (aB n1 d1 n2 d2 n3 d3 m1 c1 m2 c2 m3 c3) (sN n1 d1 m1 c1)) (oz (aB n1 d1 n2 d2 n3 d3 m1 c1 m2 c2 m3 c3) (sD n1 d1 m1 c1)) (oz (aB n1 d1 n2 d2 n3 d3 m1 c1 m2 c2 m3 c3) (sN n2 d2 m2 c2)) (oz (aB n1 d1 n2 d2 n3 d3 m1 c1 m2 c2 m3 c3) (sD n2 d2 m2 c2)) (oz (aB n1 d1 n2 d2 n3 d3 m1 c1 m2 c2 m3 c3) (sN n3 d3 m3 c3)) (oz (aB n1 d1 n2 d2 n3 d3 m1 c1 m2 c2 m3 c3) (sD n3 d3 m3 c3)) (aB n1 d1 n2 d2 n3 d3 m1 c1 m2 c2 m3 c3) ∧ Up w w' := by
  have HV := Lib.hid (fun W => bboth_up n1 d1 n2 d2 n3 d3 m1 c1 m2 c2 m3 c3 in1 id1 in2 id2 in3 id3 im1 ic1 im2 ic2 im3 ic3 W)
  have H1 := Lib.hid (fun W => adds_up n1 d1 m1 c1 in1 id1 im1 ic1 W)
  have H2 := Lib.hid (fun W => adds_up n2 d2 m2 c2 in2 id2 im2 ic2 W)
  have H3 := Lib.hid (fun W => adds_up n3 d3 m3 c3 in3 id3 im3 ic3 W)
  have HR := Lib.hid (show aB n1 d1 n2 d2 n3 d3 m1 c1 m2 c2 m3 c3 = ((bvB n1 d1 n2 d2 n3 d3 && bvB m1 c1 m2 c2 m3 c3) && (sB n1 d1 m1 c1 && (sB n2 d2 m2 c2 && sB n3 d3 m3 c3))) from rfl)
  generalize aB n1 d1 n2 d2 n3 d3 m1 c1 m2 c2 m3 c3 = r at *
  generalize sN n1 d1 m1 c1 = N1 at *
  generalize sD n1 d1 m1 c1 = D1 at *
  generalize sB n1 d1 m1 c1 = B1 at *
  generalize sN n2 d2 m2 c2 = N2 at *
  generalize sD n2 d2 m2 c2 = D2 at *
  generalize sB n2 d2 m2 c2 = B2 at *
  generalize sN n3 d3 m3 c3 = N3 at *
  generalize sD n3 d3 m3 c3 = D3 at *
  generalize sB n3 d3 m3 c3 = B3 at *
  generalize (bvB n1 d1 n2 d2 n3 d3 && bvB m1 c1 m2 c2 m3 c3) = v at *
  clear in1 id1 in2 id2 in3 id3 im1 ic1 im2 ic2 im3 ic3
  cases v
  case false =>
    obtain rfl : r = false := by rw [HR.out]; rfl
    go_enter Tryz.func11, Tryz.ntmps11
    go_wp2_with fail
    refine (HV.out _).mono ?_
    rintro e w1 ⟨rfl, hu1⟩
    try unfold got2
    have c1_0 := hu1.keep (w.heap.size) (0) (.int .i64 n1) (by simp [go_sem, *])
    have c1_1 := hu1.keep (w.heap.size) (1) (.int .i64 d1) (by simp [go_sem, *])
    have c1_2 := hu1.keep (w.heap.size) (2) (.int .i64 n2) (by simp [go_sem, *])
    have c1_3 := hu1.keep (w.heap.size) (3) (.int .i64 d2) (by simp [go_sem, *])
    have c1_4 := hu1.keep (w.heap.size) (4) (.int .i64 n3) (by simp [go_sem, *])
    have c1_5 := hu1.keep (w.heap.size) (5) (.int .i64 d3) (by simp [go_sem, *])
    have c1_6 := hu1.keep (w.heap.size + 1) (0) (.int .i64 m1) (by simp [go_sem, *])
    have c1_7 := hu1.keep (w.heap.size + 1) (1) (.int .i64 c1) (by simp [go_sem, *])
    have c1_8 := hu1.keep (w.heap.size + 1) (2) (.int .i64 m2) (by simp [go_sem, *])
    have c1_9 := hu1.keep (w.heap.size + 1) (3) (.int .i64 c2) (by simp [go_sem, *])
    have c1_10 := hu1.keep (w.heap.size + 1) (4) (.int .i64 m3) (by simp [go_sem, *])
    have c1_11 := hu1.keep (w.heap.size + 1) (5) (.int .i64 c3) (by simp [go_sem, *])
    have c1_12 := hu1.keep (w.heap.size + 1 + 1) (0) (.int .i64 0) (by simp [go_sem, *])
    have c1_13 := hu1.keep (w.heap.size + 1 + 1) (1) (.int .i64 0) (by simp [go_sem, *])
    have c1_14 := hu1.keep (w.heap.size + 1 + 1) (2) (.int .i64 0) (by simp [go_sem, *])
    have c1_15 := hu1.keep (w.heap.size + 1 + 1) (3) (.int .i64 0) (by simp [go_sem, *])
    have c1_16 := hu1.keep (w.heap.size + 1 + 1) (4) (.int .i64 0) (by simp [go_sem, *])
    have c1_17 := hu1.keep (w.heap.size + 1 + 1) (5) (.int .i64 0) (by simp [go_sem, *])
    have l1_0 : w.heap.size < w1.heap.size := World.block_lt_of_cell? _ _ c1_0
    have m1_0 : w.heap.size < w1.heap.size + 1 := by omega
    have n1_0 : w.heap.size < w1.heap.size + 1 + 1 := by omega
    have x1_0 : ¬ w1.heap.size = w.heap.size := by omega
    have y1_0 : ¬ w1.heap.size + 1 = w.heap.size := by omega
    have l1_1 : w.heap.size + 1 < w1.heap.size := World.block_lt_of_cell? _ _ c1_6
    have m1_1 : w.heap.size + 1 < w1.heap.size + 1 := by omega
    have n1_1 : w.heap.size + 1 < w1.heap.size + 1 + 1 := by omega
    have x1_1 : ¬ w1.heap.size = w.heap.size + 1 := by omega
    have y1_1 : ¬ w1.heap.size + 1 = w.heap.size + 1 := by omega
    have l1_2 : w.heap.size + 1 + 1 < w1.heap.size := World.block_lt_of_cell? _ _ c1_12
    have m1_2 : w.heap.size + 1 + 1 < w1.heap.size + 1 := by omega
    have n1_2 : w.heap.size + 1 + 1 < w1.heap.size + 1 + 1 := by omega
    have x1_2 : ¬ w1.heap.size = w.heap.size + 1 + 1 := by omega
    have y1_2 : ¬ w1.heap.size + 1 = w.heap.size + 1 + 1 := by omega
    have HU1 : Hid (Up w w1) := Lib.hid (by ((repeat (first | (with_reducible exact Up.refl _) | (with_reducible refine Up.trans ?_ hu1) | (with_reducible refine Up.alloc ?_ _ _) | (with_reducible refine Up.setCell ?_ ?_ _) | (with_reducible refine Up.drewN ?_ _) | (with_reducible refine Up.drew ?_))); all_goals (first | (simp; done) | (simp; omega) | omega)))
    clear hu1
    have z0 := own2 HU1.out 0
    have z1 := own2 HU1.out 1
    have z2 := own2 HU1.out 2
    have z3 := own2 HU1.out 3
    have z4 := own2 HU1.out 4
    have z5 := own2 HU1.out 5
    go_wp2_with fail
    refine bodyPost_ret (v := .tuple #[.agg #[.int .i64 0, .int .i64 0, .int .i64 0, .int .i64 0, .int .i64 0, .int .i64 0], .bool false]) (by simp [results, Tryz.results11, go_sem, c1_12, c1_13, c1_14, c1_15, c1_16, c1_17]) rfl ⟨?_, ?_⟩
    · rfl
    · ((repeat (first | (with_reducible exact Up.refl _) | (with_reducible exact HU1.out) | (with_reducible refine Up.alloc ?_ _ _) | (with_reducible refine Up.setCell ?_ ?_ _) | (with_reducible refine Up.drewN ?_ _) | (with_reducible refine Up.drew ?_))); all_goals (first | (simp; done) | (simp; omega) | omega))
  cases B1
  case false =>
    obtain rfl : r = false := by rw [HR.out]; rfl
    go_enter Tryz.func11, Tryz.ntmps11
    go_wp2_with fail
    refine (HV.out _).mono ?_
    rintro e w1 ⟨rfl, hu1⟩
    try unfold got2
    have c1_0 := hu1.keep (w.heap.size) (0) (.int .i64 n1) (by simp [go_sem, *])
    have c1_1 := hu1.keep (w.heap.size) (1) (.int .i64 d1) (by simp [go_sem, *])
    have c1_2 := hu1.keep (w.heap.size) (2) (.int .i64 n2) (by simp [go_sem, *])
    have c1_3 := hu1.keep (w.heap.size) (3) (.int .i64 d2) (by simp [go_sem, *])
    have c1_4 := hu1.keep (w.heap.size) (4) (.int .i64 n3) (by simp [go_sem, *])
    have c1_5 := hu1.keep (w.heap.size) (5) (.int .i64 d3) (by simp [go_sem, *])
    have c1_6 := hu1.keep (w.heap.size + 1) (0) (.int .i64 m1) (by simp [go_sem, *])
    have c1_7 := hu1.keep (w.heap.size + 1) (1) (.int .i64 c1) (by simp [go_sem, *])
    have c1_8 := hu1.keep (w.heap.size + 1) (2) (.int .i64 m2) (by simp [go_sem, *])
    have c1_9 := hu1.keep (w.heap.size + 1) (3) (.int .i64 c2) (by simp [go_sem, *])
    have c1_10 := hu1.keep (w.heap.size + 1) (4) (.int .i64 m3) (by simp [go_sem, *])
    have c1_11 := hu1.keep (w.heap.size + 1) (5) (.int .i64 c3) (by simp [go_sem, *])
    have c1_12 := hu1.keep (w.heap.size + 1 + 1) (0) (.int .i64 0) (by simp [go_sem, *])
    have c1_13 := hu1.keep (w.heap.size + 1 + 1) (1) (.int .i64 0) (by simp [go_sem, *])
    have c1_14 := hu1.keep (w.heap.size + 1 + 1) (2) (.int .i64 0) (by simp [go_sem, *])
    have c1_15 := hu1.keep (w.heap.size + 1 + 1) (3) (.int .i64 0) (by simp [go_sem, *])
    have c1_16 := hu1.keep (w.heap.size + 1 + 1) (4) (.int .i64 0) (by simp [go_sem, *])
    have c1_17 := hu1.keep (w.heap.size + 1 + 1) (5) (.int .i64 0) (by simp [go_sem, *])
    have l1_0 : w.heap.size < w1.heap.size := World.block_lt_of_cell? _ _ c1_0
    have m1_0 : w.heap.size < w1.heap.size + 1 := by omega
    have n1_0 : w.heap.size < w1.heap.size + 1 + 1 := by omega
    have x1_0 : ¬ w1.heap.size = w.heap.size := by omega
    have y1_0 : ¬ w1.heap.size + 1 = w.heap.size := by omega
    have l1_1 : w.heap.size + 1 < w1.heap.size := World.block_lt_of_cell? _ _ c1_6
    have m1_1 : w.heap.size + 1 < w1.heap.size + 1 := by omega
    have n1_1 : w.heap.size + 1 < w1.heap.size + 1 + 1 := by omega
    have x1_1 : ¬ w1.heap.size = w.heap.size + 1 := by omega
    have y1_1 : ¬ w1.heap.size + 1 = w.heap.size + 1 := by omega
    have l1_2 : w.heap.size + 1 + 1 < w1.heap.size := World.block_lt_of_cell? _ _ c1_12
    have m1_2 : w.heap.size + 1 + 1 < w1.heap.size + 1 := by omega
    have n1_2 : w.heap.size + 1 + 1 < w1.heap.size + 1 + 1 := by omega
    have x1_2 : ¬ w1.heap.size = w.heap.size + 1 + 1 := by omega
    have y1_2 : ¬ w1.heap.size + 1 = w.heap.size + 1 + 1 := by omega
    have HU1 : Hid (Up w w1) := Lib.hid (by ((repeat (first | (with_reducible exact Up.refl _) | (with_reducible refine Up.trans ?_ hu1) | (with_reducible refine Up.alloc ?_ _ _) | (with_reducible refine Up.setCell ?_ ?_ _) | (with_reducible refine Up.drewN ?_ _) | (with_reducible refine Up.drew ?_))); all_goals (first | (simp; done) | (simp; omega) | omega)))
    clear hu1
    go_wp2_with fail
    refine (H1.out _).mono ?_
    rintro e w2 ⟨rfl, hu2⟩
    try unfold got2
    have c2_0 := hu2.keep (w.heap.size) (0) (.int .i64 n1) (by simp [go_sem, *])
    have c2_1 := hu2.keep (w.heap.size) (1) (.int .i64 d1) (by simp [go_sem, *])
    have c2_2 := hu2.keep (w.heap.size) (2) (.int .i64 n2) (by simp [go_sem, *])
    have c2_3 := hu2.keep (w.heap.size) (3) (.int .i64 d2) (by simp [go_sem, *])
    have c2_4 := hu2.keep (w.heap.size) (4) (.int .i64 n3) (by simp [go_sem, *])
    have c2_5 := hu2.keep (w.heap.size) (5) (.int .i64 d3) (by simp [go_sem, *])
    have c2_6 := hu2.keep (w.heap.size + 1) (0) (.int .i64 m1) (by simp [go_sem, *])
    have c2_7 := hu2.keep (w.heap.size + 1) (1) (.int .i64 c1) (by simp [go_sem, *])
    have c2_8 := hu2.keep (w.heap.size + 1) (2) (.int .i64 m2) (by simp [go_sem, *])
    have c2_9 := hu2.keep (w.heap.size + 1) (3) (.int .i64 c2) (by simp [go_sem, *])
    have c2_10 := hu2.keep (w.heap.size + 1) (4) (.int .i64 m3) (by simp [go_sem, *])
    have c2_11 := hu2.keep (w.heap.size + 1) (5) (.int .i64 c3) (by simp [go_sem, *])
    have c2_12 := hu2.keep (w.heap.size + 1 + 1) (0) (.int .i64 0) (by simp [go_sem, *])
    have c2_13 := hu2.keep (w.heap.size + 1 + 1) (1) (.int .i64 0) (by simp [go_sem, *])
    have c2_14 := hu2.keep (w.heap.size + 1 + 1) (2) (.int .i64 0) (by simp [go_sem, *])
    have c2_15 := hu2.keep (w.heap.size + 1 + 1) (3) (.int .i64 0) (by simp [go_sem, *])
    have c2_16 := hu2.keep (w.heap.size + 1 + 1) (4) (.int .i64 0) (by simp [go_sem, *])
    have c2_17 := hu2.keep (w.heap.size + 1 + 1) (5) (.int .i64 0) (by simp [go_sem, *])
    have l2_0 : w.heap.size < w2.heap.size := World.block_lt_of_cell? _ _ c2_0
    have m2_0 : w.heap.size < w2.heap.size + 1 := by omega
    have n2_0 : w.heap.size < w2.heap.size + 1 + 1 := by omega
    have x2_0 : ¬ w2.heap.size = w.heap.size := by omega
    have y2_0 : ¬ w2.heap.size + 1 = w.heap.size := by omega
    have l2_1 : w.heap.size + 1 < w2.heap.size := World.block_lt_of_cell? _ _ c2_6
    have m2_1 : w.heap.size + 1 < w2.heap.size + 1 := by omega
    have n2_1 : w.heap.size + 1 < w2.heap.size + 1 + 1 := by omega
    have x2_1 : ¬ w2.heap.size = w.heap.size + 1 := by omega
    have y2_1 : ¬ w2.heap.size + 1 = w.heap.size + 1 := by omega
    have l2_2 : w.heap.size + 1 + 1 < w2.heap.size := World.block_lt_of_cell? _ _ c2_12
    have m2_2 : w.heap.size + 1 + 1 < w2.heap.size + 1 := by omega
    have n2_2 : w.heap.size + 1 + 1 < w2.heap.size + 1 + 1 := by omega
    have x2_2 : ¬ w2.heap.size = w.heap.size + 1 + 1 := by omega
    have y2_2 : ¬ w2.heap.size + 1 = w.heap.size + 1 + 1 := by omega
    have HU2 : Hid (Up w w2) := Lib.hid (by ((repeat (first | (with_reducible exact Up.refl _) | (with_reducible exact HU1.out) | (with_reducible refine Up.trans ?_ hu2) | (with_reducible refine Up.alloc ?_ _ _) | (with_reducible refine Up.setCell ?_ ?_ _) | (with_reducible refine Up.drewN ?_ _) | (with_reducible refine Up.drew ?_))); all_goals (first | (simp; done) | (simp; omega) | omega)))
    clear hu2 c1_0 c1_1 c1_2 c1_3 c1_4 c1_5 c1_6 c1_7 c1_8 c1_9 c1_10 c1_11 c1_12 c1_13 c1_14 c1_15 c1_16 c1_17
    unfold gotR
    go_wp2_with fail
    refine (H2.out _).mono ?_
    rintro e w3 ⟨rfl, hu3⟩
    try unfold got2
    have c3_0 := hu3.keep (w.heap.size) (0) (.int .i64 n1) (by simp [go_sem, *])
    have c3_1 := hu3.keep (w.heap.size) (1) (.int .i64 d1) (by simp [go_sem, *])
    have c3_2 := hu3.keep (w.heap.size) (2) (.int .i64 n2) (by simp [go_sem, *])
    have c3_3 := hu3.keep (w.heap.size) (3) (.int .i64 d2) (by simp [go_sem, *])
    have c3_4 := hu3.keep (w.heap.size) (4) (.int .i64 n3) (by simp [go_sem, *])
    have c3_5 := hu3.keep (w.heap.size) (5) (.int .i64 d3) (by simp [go_sem, *])
    have c3_6 := hu3.keep (w.heap.size + 1) (0) (.int .i64 m1) (by simp [go_sem, *])
    have c3_7 := hu3.keep (w.heap.size + 1) (1) (.int .i64 c1) (by simp [go_sem, *])
    have c3_8 := hu3.keep (w.heap.size + 1) (2) (.int .i64 m2) (by simp [go_sem, *])
    have c3_9 := hu3.keep (w.heap.size + 1) (3) (.int .i64 c2) (by simp [go_sem, *])
    have c3_10 := hu3.keep (w.heap.size + 1) (4) (.int .i64 m3) (by simp [go_sem, *])
    have c3_11 := hu3.keep (w.heap.size + 1) (5) (.int .i64 c3) (by simp [go_sem, *])
    have c3_12 := hu3.keep (w.heap.size + 1 + 1) (0) (.int .i64 0) (by simp [go_sem, *])
    have c3_13 := hu3.keep (w.heap.size + 1 + 1) (1) (.int .i64 0) (by simp [go_sem, *])
    have c3_14 := hu3.keep (w.heap.size + 1 + 1) (2) (.int .i64 0) (by simp [go_sem, *])
    have c3_15 := hu3.keep (w.heap.size + 1 + 1) (3) (.int .i64 0) (by simp [go_sem, *])
    have c3_16 := hu3.keep (w.heap.size + 1 + 1) (4) (.int .i64 0) (by simp [go_sem, *])
    have c3_17 := hu3.keep (w.heap.size + 1 + 1) (5) (.int .i64 0) (by simp [go_sem, *])
    have c3_18 := hu3.keep (w2.heap.size) (0) (.int .i64 N1) (by simp [go_sem, *])
    have c3_19 := hu3.keep (w2.heap.size) (1) (.int .i64 D1) (by simp [go_sem, *])
    have l3_0 : w.heap.size < w3.heap.size := World.block_lt_of_cell? _ _ c3_0
    have m3_0 : w.heap.size < w3.heap.size + 1 := by omega
    have n3_0 : w.heap.size < w3.heap.size + 1 + 1 := by omega
    have x3_0 : ¬ w3.heap.size = w.heap.size := by omega
    have y3_0 : ¬ w3.heap.size + 1 = w.heap.size := by omega
    have l3_1 : w.heap.size + 1 < w3.heap.size := World.block_lt_of_cell? _ _ c3_6
    have m3_1 : w.heap.size + 1 < w3.heap.size + 1 := by omega
    have n3_1 : w.heap.size + 1 < w3.heap.size + 1 + 1 := by omega
    have x3_1 : ¬ w3.heap.size = w.heap.size + 1 := by omega
    have y3_1 : ¬ w3.heap.size + 1 = w.heap.size + 1 := by omega
    have l3_2 : w.heap.size + 1 + 1 < w3.heap.size := World.block_lt_of_cell? _ _ c3_12
    have m3_2 : w.heap.size + 1 + 1 < w3.heap.size + 1 := by omega
    have n3_2 : w.heap.size + 1 + 1 < w3.heap.size + 1 + 1 := by omega
    have x3_2 : ¬ w3.heap.size = w.heap.size + 1 + 1 := by omega
    have y3_2 : ¬ w3.heap.size + 1 = w.heap.size + 1 + 1 := by omega
    have l3_3 : w2.heap.size < w3.heap.size := World.block_lt_of_cell? _ _ c3_18
    have m3_3 : w2.heap.size < w3.heap.size + 1 := by omega
    have n3_3 : w2.heap.size < w3.heap.size + 1 + 1 := by omega
    have x3_3 : ¬ w3.heap.size = w2.heap.size := by omega
    have y3_3 : ¬ w3.heap.size + 1 = w2.heap.size := by omega
    have HU3 : Hid (Up w w3) := Lib.hid (by ((repeat (first | (with_reducible exact Up.refl _) | (with_reducible exact HU2.out) | (with_reducible refine Up.trans ?_ hu3) | (with_reducible refine Up.alloc ?_ _ _) | (with_reducible refine Up.setCell ?_ ?_ _) | (with_reducible refine Up.drewN ?_ _) | (with_reducible refine Up.drew ?_))); all_goals (first | (simp; done) | (simp; omega) | omega)))
    clear hu3 c2_0 c2_1 c2_2 c2_3 c2_4 c2_5 c2_6 c2_7 c2_8 c2_9 c2_10 c2_11 c2_12 c2_13 c2_14 c2_15 c2_16 c2_17
    unfold gotR
    go_wp2_with fail
    refine (H3.out _).mono ?_
    rintro e w4 ⟨rfl, hu4⟩
    try unfold got2
    have c4_0 := hu4.keep (w.heap.size) (0) (.int .i64 n1) (by simp [go_sem, *])
    have c4_1 := hu4.keep (w.heap.size) (1) (.int .i64 d1) (by simp [go_sem, *])
    have c4_2 := hu4.keep (w.heap.size) (2) (.int .i64 n2) (by simp [go_sem, *])
    have c4_3 := hu4.keep (w.heap.size) (3) (.int .i64 d2) (by simp [go_sem, *])
    have c4_4 := hu4.keep (w.heap.size) (4) (.int .i64 n3) (by simp [go_sem, *])
    have c4_5 := hu4.keep (w.heap.size) (5) (.int .i64 d3) (by simp [go_sem, *])
    have c4_6 := hu4.keep (w.heap.size + 1) (0) (.int .i64 m1) (by simp [go_sem, *])
    have c4_7 := hu4.keep (w.heap.size + 1) (1) (.int .i64 c1) (by simp [go_sem, *])
    have c4_8 := hu4.keep (w.heap.size + 1) (2) (.int .i64 m2) (by simp [go_sem, *])
    have c4_9 := hu4.keep (w.heap.size + 1) (3) (.int .i64 c2) (by simp [go_sem, *])
    have c4_10 := hu4.keep (w.heap.size + 1) (4) (.int .i64 m3) (by simp [go_sem, *])
    have c4_11 := hu4.keep (w.heap.size + 1) (5) (.int .i64 c3) (by simp [go_sem, *])
    have c4_12 := hu4.keep (w.heap.size + 1 + 1) (0) (.int .i64 0) (by simp [go_sem, *])
    have c4_13 := hu4.keep (w.heap.size + 1 + 1) (1) (.int .i64 0) (by simp [go_sem, *])
    have c4_14 := hu4.keep (w.heap.size + 1 + 1) (2) (.int .i64 0) (by simp [go_sem, *])
    have c4_15 := hu4.keep (w.heap.size + 1 + 1) (3) (.int .i64 0) (by simp [go_sem, *])
    have c4_16 := hu4.keep (w.heap.size + 1 + 1) (4) (.int .i64 0) (by simp [go_sem, *])
    have c4_17 := hu4.keep (w.heap.size + 1 + 1) (5) (.int .i64 0) (by simp [go_sem, *])
    have c4_18 := hu4.keep (w2.heap.size) (0) (.int .i64 N1) (by simp [go_sem, *])
    have c4_19 := hu4.keep (w2.heap.size) (1) (.int .i64 D1) (by simp [go_sem, *])
    have c4_20 := hu4.keep (w3.heap.size) (0) (.int .i64 N2) (by simp [go_sem, *])
    have c4_21 := hu4.keep (w3.heap.size) (1) (.int .i64 D2) (by simp [go_sem, *])
    have l4_0 : w.heap.size < w4.heap.size := World.block_lt_of_cell? _ _ c4_0
    have m4_0 : w.heap.size < w4.heap.size + 1 := by omega
    have n4_0 : w.heap.size < w4.heap.size + 1 + 1 := by omega
    have x4_0 : ¬ w4.heap.size = w.heap.size := by omega
    have y4_0 : ¬ w4.heap.size + 1 = w.heap.size := by omega
    have l4_1 : w.heap.size + 1 < w4.heap.size := World.block_lt_of_cell? _ _ c4_6
    have m4_1 : w.heap.size + 1 < w4.heap.size + 1 := by omega
    have n4_1 : w.heap.size + 1 < w4.heap.size + 1 + 1 := by omega
    have x4_1 : ¬ w4.heap.size = w.heap.size + 1 := by omega
    have y4_1 : ¬ w4.heap.size + 1 = w.heap.size + 1 := by omega
    have l4_2 : w.heap.size + 1 + 1 < w4.heap.size := World.block_lt_of_cell? _ _ c4_12
    have m4_2 : w.heap.size + 1 + 1 < w4.heap.size + 1 := by omega
    have n4_2 : w.heap.size + 1 + 1 < w4.heap.size + 1 + 1 := by omega
    have x4_2 : ¬ w4.heap.size = w.heap.size + 1 + 1 := by omega
    have y4_2 : ¬ w4.heap.size + 1 = w.heap.size + 1 + 1 := by omega
    have l4_3 : w2.heap.size < w4.heap.size := World.block_lt_of_cell? _ _ c4_18
    have m4_3 : w2.heap.size < w4.heap.size + 1 := by omega
    have n4_3 : w2.heap.size < w4.heap.size + 1 + 1 := by omega
    have x4_3 : ¬ w4.heap.size = w2.heap.size := by omega
    have y4_3 : ¬ w4.heap.size + 1 = w2.heap.size := by omega
    have l4_4 : w3.heap.size < w4.heap.size := World.block_lt_of_cell? _ _ c4_20
    have m4_4 : w3.heap.size < w4.heap.size + 1 := by omega
    have n4_4 : w3.heap.size < w4.heap.size + 1 + 1 := by omega
    have x4_4 : ¬ w4.heap.size = w3.heap.size := by omega
    have y4_4 : ¬ w4.heap.size + 1 = w3.heap.size := by omega
    have HU4 : Hid (Up w w4) := Lib.hid (by ((repeat (first | (with_reducible exact Up.refl _) | (with_reducible exact HU3.out) | (with_reducible refine Up.trans ?_ hu4) | (with_reducible refine Up.alloc ?_ _ _) | (with_reducible refine Up.setCell ?_ ?_ _) | (with_reducible refine Up.drewN ?_ _) | (with_reducible refine Up.drew ?_))); all_goals (first | (simp; done) | (simp; omega) | omega)))
    clear hu4 c3_0 c3_1 c3_2 c3_3 c3_4 c3_5 c3_6 c3_7 c3_8 c3_9 c3_10 c3_11 c3_12 c3_13 c3_14 c3_15 c3_16 c3_17 c3_18 c3_19
    unfold gotR
    have z0 := own2 HU4.out 0
    have z1 := own2 HU4.out 1
    have z2 := own2 HU4.out 2
    have z3 := own2 HU4.out 3
    have z4 := own2 HU4.out 4
    have z5 := own2 HU4.out 5
    go_wp2_with fail
    refine bodyPost_ret (v := .tuple #[.agg #[.int .i64 0, .int .i64 0, .int .i64 0, .int .i64 0, .int .i64 0, .int .i64 0], .bool false]) (by simp [results, Tryz.results11, go_sem, c4_12, c4_13, c4_14, c4_15, c4_16, c4_17, l4_2]) rfl ⟨?_, ?_⟩
    · rfl
    · ((repeat (first | (with_reducible exact Up.refl _) | (with_reducible exact HU4.out) | (with_reducible refine Up.alloc ?_ _ _) | (with_reducible refine Up.setCell ?_ ?_ _) | (with_reducible refine Up.drewN ?_ _) | (with_reducible refine Up.drew ?_))); all_goals (first | (simp; done) | (simp; omega) | omega))
  cases B2
  case false =>
    obtain rfl : r = false := by rw [HR.out]; rfl
    go_enter Tryz.func11, Tryz.ntmps11
    go_wp2_with fail
    refine (HV.out _).mono ?_
    rintro e w1 ⟨rfl, hu1⟩
    try unfold got2
    have c1_0 := hu1.keep (w.heap.size) (0) (.int .i64 n1) (by simp [go_sem, *])
    have c1_1 := hu1.keep (w.heap.size) (1) (.int .i64 d1) (by simp [go_sem, *])
    have c1_2 := hu1.keep (w.heap.size) (2) (.int .i64 n2) (by simp [go_sem, *])
    have c1_3 := hu1.keep (w.heap.size) (3) (.int .i64 d2) (by simp [go_sem, *])
    have c1_4 := hu1.keep (w.heap.size) (4) (.int .i64 n3) (by simp [go_sem, *])
    have c1_5 := hu1.keep (w.heap.size) (5) (.int .i64 d3) (by simp [go_sem, *])
    have c1_6 := hu1.keep (w.heap.size + 1) (0) (.int .i64 m1) (by simp [go_sem, *])
    have c1_7 := hu1.keep (w.heap.size + 1) (1) (.int .i64 c1) (by simp [go_sem, *])
    have c1_8 := hu1.keep (w.heap.size + 1) (2) (.int .i64 m2) (by simp [go_sem, *])
    have c1_9 := hu1.keep (w.heap.size + 1) (3) (.int .i64 c2) (by simp [go_sem, *])
    have c1_10 := hu1.keep (w.heap.size + 1) (4) (.int .i64 m3) (by simp [go_sem, *])
    have c1_11 := hu1.keep (w.heap.size + 1) (5) (.int .i64 c3) (by simp [go_sem, *])
    have c1_12 := hu1.keep (w.heap.size + 1 + 1) (0) (.int .i64 0) (by simp [go_sem, *])
    have c1_13 := hu1.keep (w.heap.size + 1 + 1) (1) (.int .i64 0) (by simp [go_sem, *])
    have c1_14 := hu1.keep (w.heap.size + 1 + 1) (2) (.int .i64 0) (by simp [go_sem, *])
    have c1_15 := hu1.keep (w.heap.size + 1 + 1) (3) (.int .i64 0) (by simp [go_sem, *])
    have c1_16 := hu1.keep (w.heap.size + 1 + 1) (4) (.int .i64 0) (by simp [go_sem, *])
    have c1_17 := hu1.keep (w.heap.size + 1 + 1) (5) (.int .i64 0) (by simp [go_sem, *])
    have l1_0 : w.heap.size < w1.heap.size := World.block_lt_of_cell? _ _ c1_0
    have m1_0 : w.heap.size < w1.heap.size + 1 := by omega
    have n1_0 : w.heap.size < w1.heap.size + 1 + 1 := by omega
    have x1_0 : ¬ w1.heap.size = w.heap.size := by omega
    have y1_0 : ¬ w1.heap.size + 1 = w.heap.size := by omega
    have l1_1 : w.heap.size + 1 < w1.heap.size := World.block_lt_of_cell? _ _ c1_6
    have m1_1 : w.heap.size + 1 < w1.heap.size + 1 := by omega
    have n1_1 : w.heap.size + 1 < w1.heap.size + 1 + 1 := by omega
    have x1_1 : ¬ w1.heap.size = w.heap.size + 1 := by omega
    have y1_1 : ¬ w1.heap.size + 1 = w.heap.size + 1 := by omega
    have l1_2 : w.heap.size + 1 + 1 < w1.heap.size := World.block_lt_of_cell? _ _ c1_12
    have m1_2 : w.heap.size + 1 + 1 < w1.heap.size + 1 := by omega
    have n1_2 : w.heap.size + 1 + 1 < w1.heap.size + 1 + 1 := by omega
    have x1_2 : ¬ w1.heap.size = w.heap.size + 1 + 1 := by omega
    have y1_2 : ¬ w1.heap.size + 1 = w.heap.size + 1 + 1 := by omega
    have HU1 : Hid (Up w w1) := Lib.hid (by ((repeat (first | (with_reducible exact Up.refl _) | (with_reducible refine Up.trans ?_ hu1) | (with_reducible refine Up.alloc ?_ _ _) | (with_reducible refine Up.setCell ?_ ?_ _) | (with_reducible refine Up.drewN ?_ _) | (with_reducible refine Up.drew ?_))); all_goals (first | (simp; done) | (simp; omega) | omega)))
    clear hu1
    go_wp2_with fail
    refine (H1.out _).mono ?_
    rintro e w2 ⟨rfl, hu2⟩
    try unfold got2
    have c2_0 := hu2.keep (w.heap.size) (0) (.int .i64 n1) (by simp [go_sem, *])
    have c2_1 := hu2.keep (w.heap.size) (1) (.int .i64 d1) (by simp [go_sem, *])
    have c2_2 := hu2.keep (w.heap.size) (2) (.int .i64 n2) (by simp [go_sem, *])
    have c2_3 := hu2.keep (w.heap.size) (3) (.int .i64 d2) (by simp [go_sem, *])
    have c2_4 := hu2.keep (w.heap.size) (4) (.int .i64 n3) (by simp [go_sem, *])
    have c2_5 := hu2.keep (w.heap.size) (5) (.int .i64 d3) (by simp [go_sem, *])
    have c2_6 := hu2.keep (w.heap.size + 1) (0) (.int .i64 m1) (by simp [go_sem, *])
    have c2_7 := hu2.keep (w.heap.size + 1) (1) (.int .i64 c1) (by simp [go_sem, *])
    have c2_8 := hu2.keep (w.heap.size + 1) (2) (.int .i64 m2) (by simp [go_sem, *])
    have c2_9 := hu2.keep (w.heap.size + 1) (3) (.int .i64 c2) (by simp [go_sem, *])
    have c2_10 := hu2.keep (w.heap.size + 1) (4) (.int .i64 m3) (by simp [go_sem, *])
    have c2_11 := hu2.keep (w.heap.size + 1) (5) (.int .i64 c3) (by simp [go_sem, *])
    have c2_12 := hu2.keep (w.heap.size + 1 + 1) (0) (.int .i64 0) (by simp [go_sem, *])
    have c2_13 := hu2.keep (w.heap.size + 1 + 1) (1) (.int .i64 0) (by simp [go_sem, *])
    have c2_14 := hu2.keep (w.heap.size + 1 + 1) (2) (.int .i64 0) (by simp [go_sem, *])
    have c2_15 := hu2.keep (w.heap.size + 1 + 1) (3) (.int .i64 0) (by simp [go_sem, *])
    have c2_16 := hu2.keep (w.heap.size + 1 + 1) (4) (.int .i64 0) (by simp [go_sem, *])
    have c2_17 := hu2.keep (w.heap.size + 1 + 1) (5) (.int .i64 0) (by simp [go_sem, *])
    have l2_0 : w.heap.size < w2.heap.size := World.block_lt_of_cell? _ _ c2_0
    have m2_0 : w.heap.size < w2.heap.size + 1 := by omega
    have n2_0 : w.heap.size < w2.heap.size + 1 + 1 := by omega
    have x2_0 : ¬ w2.heap.size = w.heap.size := by omega
    have y2_0 : ¬ w2.heap.size + 1 = w.heap.size := by omega
    have l2_1 : w.heap.size + 1 < w2.heap.size := World.block_lt_of_cell? _ _ c2_6
    have m2_1 : w.heap.size + 1 < w2.heap.size + 1 := by omega
    have n2_1 : w.heap.size + 1 < w2.heap.size + 1 + 1 := by omega
    have x2_1 : ¬ w2.heap.size = w.heap.size + 1 := by omega
    have y2_1 : ¬ w2.heap.size + 1 = w.heap.size + 1 := by omega
    have l2_2 : w.heap.size + 1 + 1 < w2.heap.size := World.block_lt_of_cell? _ _ c2_12
    have m2_2 : w.heap.size + 1 + 1 < w2.heap.size + 1 := by omega
    have n2_2 : w.heap.size + 1 + 1 < w2.heap.size + 1 + 1 := by omega
    have x2_2 : ¬ w2.heap.size = w.heap.size + 1 + 1 := by omega
    have y2_2 : ¬ w2.heap.size + 1 = w.heap.size + 1 + 1 := by omega
    have HU2 : Hid (Up w w2) := Lib.hid (by ((repeat (first | (with_reducible exact Up.refl _) | (with_reducible exact HU1.out) | (with_reducible refine Up.trans ?_ hu2) | (with_reducible refine Up.alloc ?_ _ _) | (with_reducible refine Up.setCell ?_ ?_ _) | (with_reducible refine Up.drewN ?_ _) | (with_reducible refine Up.drew ?_))); all_goals (first | (simp; done) | (simp; omega) | omega)))
    clear hu2 c1_0 c1_1 c1_2 c1_3 c1_4 c1_5 c1_6 c1_7 c1_8 c1_9 c1_10 c1_11 c1_12 c1_13 c1_14 c1_15 c1_16 c1_17
    unfold gotR
    go_wp2_with fail
    refine (H2.out _).mono ?_
    rintro e w3 ⟨rfl, hu3⟩
    try unfold got2
    have c3_0 := hu3.keep (w.heap.size) (0) (.int .i64 n1) (by simp [go_sem, *])
    have c3_1 := hu3.keep (w.heap.size) (1) (.int .i64 d1) (by simp [go_sem, *])
    have c3_2 := hu3.keep (w.heap.size) (2) (.int .i64 n2) (by simp [go_sem, *])
    have c3_3 := hu3.keep (w.heap.size) (3) (.int .i64 d2) (by simp [go_sem, *])
    have c3_4 := hu3.keep (w.heap.size) (4) (.int .i64 n3) (by simp [go_sem, *])
    have c3_5 := hu3.keep (w.heap.size) (5) (.int .i64 d3) (by simp [go_sem, *])
    have c3_6 := hu3.keep (w.heap.size + 1) (0) (.int .i64 m1) (by simp [go_sem, *])
    have c3_7 := hu3.keep (w.heap.size + 1) (1) (.int .i64 c1) (by simp [go_sem, *])
    have c3_8 := hu3.keep (w.heap.size + 1) (2) (.int .i64 m2) (by simp [go_sem, *])
    have c3_9 := hu3.keep (w.heap.size + 1) (3) (.int .i64 c2) (by simp [go_sem, *])
    have c3_10 := hu3.keep (w.heap.size + 1) (4) (.int .i64 m3) (by simp [go_sem, *])
    have c3_11 := hu3.keep (w.heap.size + 1) (5) (.int .i64 c3) (by simp [go_sem, *])
    have c3_12 := hu3.keep (w.heap.size + 1 + 1) (0) (.int .i64 0) (by simp [go_sem, *])
    have c3_13 := hu3.keep (w.heap.size + 1 + 1) (1) (.int .i64 0) (by simp [go_sem, *])
    have c3_14 := hu3.keep (w.heap.size + 1 + 1) (2) (.int .i64 0) (by simp [go_sem, *])
    have c3_15 := hu3.keep (w.heap.size + 1 + 1) (3) (.int .i64 0) (by simp [go_sem, *])
    have c3_16 := hu3.keep (w.heap.size + 1 + 1) (4) (.int .i64 0) (by simp [go_sem, *])
    have c3_17 := hu3.keep (w.heap.size + 1 + 1) (5) (.int .i64 0) (by simp [go_sem, *])
    have c3_18 := hu3.keep (w2.heap.size) (0) (.int .i64 N1) (by simp [go_sem, *])
    have c3_19 := hu3.keep (w2.heap.size) (1) (.int .i64 D1) (by simp [go_sem, *])
    have l3_0 : w.heap.size < w3.heap.size := World.block_lt_of_cell? _ _ c3_0
    have m3_0 : w.heap.size < w3.heap.size + 1 := by omega
    have n3_0 : w.heap.size < w3.heap.size + 1 + 1 := by omega
    have x3_0 : ¬ w3.heap.size = w.heap.size := by omega
    have y3_0 : ¬ w3.heap.size + 1 = w.heap.size := by omega
    have l3_1 : w.heap.size + 1 < w3.heap.size := World.block_lt_of_cell? _ _ c3_6
    have m3_1 : w.heap.size + 1 < w3.heap.size + 1 := by omega
    have n3_1 : w.heap.size + 1 < w3.heap.size + 1 + 1 := by omega
    have x3_1 : ¬ w3.heap.size = w.heap.size + 1 := by omega
    have y3_1 : ¬ w3.heap.size + 1 = w.heap.size + 1 := by omega
    have l3_2 : w.heap.size + 1 + 1 < w3.heap.size := World.block_lt_of_cell? _ _ c3_12
    have m3_2 : w.heap.size + 1 + 1 < w3.heap.size + 1 := by omega
    have n3_2 : w.heap.size + 1 + 1 < w3.heap.size + 1 + 1 := by omega
    have x3_2 : ¬ w3.heap.size = w.heap.size + 1 + 1 := by omega
    have y3_2 : ¬ w3.heap.size + 1 = w.heap.size + 1 + 1 := by omega
    have l3_3 : w2.heap.size < w3.heap.size := World.block_lt_of_cell? _ _ c3_18
    have m3_3 : w2.heap.size < w3.heap.size + 1 := by omega
    have n3_3 : w2.heap.size < w3.heap.size + 1 + 1 := by omega
    have x3_3 : ¬ w3.heap.size = w2.heap.size := by omega
    have y3_3 : ¬ w3.heap.size + 1 = w2.heap.size := by omega
    have HU3 : Hid (Up w w3) := Lib.hid (by ((repeat (first | (with_reducible exact Up.refl _) | (with_reducible exact HU2.out) | (with_reducible refine Up.trans ?_ hu3) | (with_reducible refine Up.alloc ?_ _ _) | (with_reducible refine Up.setCell ?_ ?_ _) | (with_reducible refine Up.drewN ?_ _) | (with_reducible refine Up.drew ?_))); all_goals (first | (simp; done) | (simp; omega) | omega)))
    clear hu3 c2_0 c2_1 c2_2 c2_3 c2_4 c2_5 c2_6 c2_7 c2_8 c2_9 c2_10 c2_11 c2_12 c2_13 c2_14 c2_15 c2_16 c2_17
    unfold gotR
    go_wp2_with fail
    refine (H3.out _).mono ?_
    rintro e w4 ⟨rfl, hu4⟩
    try unfold got2
    have c4_0 := hu4.keep (w.heap.size) (0) (.int .i64 n1) (by simp [go_sem, *])
    have c4_1 := hu4.keep (w.heap.size) (1) (.int .i64 d1) (by simp [go_sem, *])
    have c4_2 := hu4.keep (w.heap.size) (2) (.int .i64 n2) (by simp [go_sem, *])
    have c4_3 := hu4.keep (w.heap.size) (3) (.int .i64 d2) (by simp [go_sem, *])
    have c4_4 := hu4.keep (w.heap.size) (4) (.int .i64 n3) (by simp [go_sem, *])
    have c4_5 := hu4.keep (w.heap.size) (5) (.int .i64 d3) (by simp [go_sem, *])
    have c4_6 := hu4.keep (w.heap.size + 1) (0) (.int .i64 m1) (by simp [go_sem, *])
    have c4_7 := hu4.keep (w.heap.size + 1) (1) (.int .i64 c1) (by simp [go_sem, *])
    have c4_8 := hu4.keep (w.heap.size + 1) (2) (.int .i64 m2) (by simp [go_sem, *])
    have c4_9 := hu4.keep (w.heap.size + 1) (3) (.int .i64 c2) (by simp [go_sem, *])
    have c4_10 := hu4.keep (w.heap.size + 1) (4) (.int .i64 m3) (by simp [go_sem, *])
    have c4_11 := hu4.keep (w.heap.size + 1) (5) (.int .i64 c3) (by simp [go_sem, *])
    have c4_12 := hu4.keep (w.heap.size + 1 + 1) (0) (.int .i64 0) (by simp [go_sem, *])
    have c4_13 := hu4.keep (w.heap.size + 1 + 1) (1) (.int .i64 0) (by simp [go_sem, *])
    have c4_14 := hu4.keep (w.heap.size + 1 + 1) (2) (.int .i64 0) (by simp [go_sem, *])
    have c4_15 := hu4.keep (w.heap.size + 1 + 1) (3) (.int .i64 0) (by simp [go_sem, *])
    have c4_16 := hu4.keep (w.heap.size + 1 + 1) (4) (.int .i64 0) (by simp [go_sem, *])
    have c4_17 := hu4.keep (w.heap.size + 1 + 1) (5) (.int .i64 0) (by simp [go_sem, *])
    have c4_18 := hu4.keep (w2.heap.size) (0) (.int .i64 N1) (by simp [go_sem, *])
    have c4_19 := hu4.keep (w2.heap.size) (1) (.int .i64 D1) (by simp [go_sem, *])
    have c4_20 := hu4.keep (w3.heap.size) (0) (.int .i64 N2) (by simp [go_sem, *])
    have c4_21 := hu4.keep (w3.heap.size) (1) (.int .i64 D2) (by simp [go_sem, *])
    have l4_0 : w.heap.size < w4.heap.size := World.block_lt_of_cell? _ _ c4_0
    have m4_0 : w.heap.size < w4.heap.size + 1 := by omega
    have n4_0 : w.heap.size < w4.heap.size + 1 + 1 := by omega
    have x4_0 : ¬ w4.heap.size = w.heap.size := by omega
    have y4_0 : ¬ w4.heap.size + 1 = w.heap.size := by omega
    have l4_1 : w.heap.size + 1 < w4.heap.size := World.block_lt_of_cell? _ _ c4_6
    have m4_1 : w.heap.size + 1 < w4.heap.size + 1 := by omega
    have n4_1 : w.heap.size + 1 < w4.heap.size + 1 + 1 := by omega
    have x4_1 : ¬ w4.heap.size = w.heap.size + 1 := by omega
    have y4_1 : ¬ w4.heap.size + 1 = w.heap.size + 1 := by omega
    have l4_2 : w.heap.size + 1 + 1 < w4.heap.size := World.block_lt_of_cell? _ _ c4_12
    have m4_2 : w.heap.size + 1 + 1 < w4.heap.size + 1 := by omega
    have n4_2 : w.heap.size + 1 + 1 < w4.heap.size + 1 + 1 := by omega
    have x4_2 : ¬ w4.heap.size = w.heap.size + 1 + 1 := by omega
    have y4_2 : ¬ w4.heap.size + 1 = w.heap.size + 1 + 1 := by omega
    have l4_3 : w2.heap.size < w4.heap.size := World.block_lt_of_cell? _ _ c4_18
    have m4_3 : w2.heap.size < w4.heap.size + 1 := by omega
    have n4_3 : w2.heap.size < w4.heap.size + 1 + 1 := by omega
    have x4_3 : ¬ w4.heap.size = w2.heap.size := by omega
    have y4_3 : ¬ w4.heap.size + 1 = w2.heap.size := by omega
    have l4_4 : w3.heap.size < w4.heap.size := World.block_lt_of_cell? _ _ c4_20
    have m4_4 : w3.heap.size < w4.heap.size + 1 := by omega
    have n4_4 : w3.heap.size < w4.heap.size + 1 + 1 := by omega
    have x4_4 : ¬ w4.heap.size = w3.heap.size := by omega
    have y4_4 : ¬ w4.heap.size + 1 = w3.heap.size := by omega
    have HU4 : Hid (Up w w4) := Lib.hid (by ((repeat (first | (with_reducible exact Up.refl _) | (with_reducible exact HU3.out) | (with_reducible refine Up.trans ?_ hu4) | (with_reducible refine Up.alloc ?_ _ _) | (with_reducible refine Up.setCell ?_ ?_ _) | (with_reducible refine Up.drewN ?_ _) | (with_reducible refine Up.drew ?_))); all_goals (first | (simp; done) | (simp; omega) | omega)))
    clear hu4 c3_0 c3_1 c3_2 c3_3 c3_4 c3_5 c3_6 c3_7 c3_8 c3_9 c3_10 c3_11 c3_12 c3_13 c3_14 c3_15 c3_16 c3_17 c3_18 c3_19
    unfold gotR
    have z0 := own2 HU4.out 0
    have z1 := own2 HU4.out 1
    have z2 := own2 HU4.out 2
    have z3 := own2 HU4.out 3
    have z4 := own2 HU4.out 4
    have z5 := own2 HU4.out 5
    go_wp2_with fail
    refine bodyPost_ret (v := .tuple #[.agg #[.int .i64 0, .int .i64 0, .int .i64 0, .int .i64 0, .int .i64 0, .int .i64 0], .bool false]) (by simp [results, Tryz.results11, go_sem, c4_12, c4_13, c4_14, c4_15, c4_16, c4_17, l4_2]) rfl ⟨?_, ?_⟩
    · rfl
    · ((repeat (first | (with_reducible exact Up.refl _) | (with_reducible exact HU4.out) | (with_reducible refine Up.alloc ?_ _ _) | (with_reducible refine Up.setCell ?_ ?_ _) | (with_reducible refine Up.drewN ?_ _) | (with_reducible refine Up.drew ?_))); all_goals (first | (simp; done) | (simp; omega) | omega))
  cases B3
  case false =>
    obtain rfl : r = false := by rw [HR.out]; rfl
    go_enter Tryz.func11, Tryz.ntmps11
    go_wp2_with fail
    refine (HV.out _).mono ?_
    rintro e w1 ⟨rfl, hu1⟩
    try unfold got2
    have c1_0 := hu1.keep (w.heap.size) (0) (.int .i64 n1) (by simp [go_sem, *])
    have c1_1 := hu1.keep (w.heap.size) (1) (.int .i64 d1) (by simp [go_sem, *])
    have c1_2 := hu1.keep (w.heap.size) (2) (.int .i64 n2) (by simp [go_sem, *])
    have c1_3 := hu1.keep (w.heap.size) (3) (.int .i64 d2) (by simp [go_sem, *])
    have c1_4 := hu1.keep (w.heap.size) (4) (.int .i64 n3) (by simp [go_sem, *])
    have c1_5 := hu1.keep (w.heap.size) (5) (.int .i64 d3) (by simp [go_sem, *])
    have c1_6 := hu1.keep (w.heap.size + 1) (0) (.int .i64 m1) (by simp [go_sem, *])
    have c1_7 := hu1.keep (w.heap.size + 1) (1) (.int .i64 c1) (by simp [go_sem, *])
    have c1_8 := hu1.keep (w.heap.size + 1) (2) (.int .i64 m2) (by simp [go_sem, *])
    have c1_9 := hu1.keep (w.heap.size + 1) (3) (.int .i64 c2) (by simp [go_sem, *])
    have c1_10 := hu1.keep (w.heap.size + 1) (4) (.int .i64 m3) (by simp [go_sem, *])
    have c1_11 := hu1.keep (w.heap.size + 1) (5) (.int .i64 c3) (by simp [go_sem, *])
    have c1_12 := hu1.keep (w.heap.size + 1 + 1) (0) (.int .i64 0) (by simp [go_sem, *])
    have c1_13 := hu1.keep (w.heap.size + 1 + 1) (1) (.int .i64 0) (by simp [go_sem, *])
    have c1_14 := hu1.keep (w.heap.size + 1 + 1) (2) (.int .i64 0) (by simp [go_sem, *])
    have c1_15 := hu1.keep (w.heap.size + 1 + 1) (3) (.int .i64 0) (by simp [go_sem, *])
    have c1_16 := hu1.keep (w.heap.size + 1 + 1) (4) (.int .i64 0) (by simp [go_sem, *])
    have c1_17 := hu1.keep (w.heap.size + 1 + 1) (5) (.int .i64 0) (by simp [go_sem, *])
    have l1_0 : w.heap.size < w1.heap.size := World.block_lt_of_cell? _ _ c1_0
    have m1_0 : w.heap.size < w1.heap.size + 1 := by omega
    have n1_0 : w.heap.size < w1.heap.size + 1 + 1 := by omega
    have x1_0 : ¬ w1.heap.size = w.heap.size := by omega
    have y1_0 : ¬ w1.heap.size + 1 = w.heap.size := by omega
    have l1_1 : w.heap.size + 1 < w1.heap.size := World.block_lt_of_cell? _ _ c1_6
    have m1_1 : w.heap.size + 1 < w1.heap.size + 1 := by omega
    have n1_1 : w.heap.size + 1 < w1.heap.size + 1 + 1 := by omega
    have x1_1 : ¬ w1.heap.size = w.heap.size + 1 := by omega
    have y1_1 : ¬ w1.heap.size + 1 = w.heap.size + 1 := by omega
    have l1_2 : w.heap.size + 1 + 1 < w1.heap.size := World.block_lt_of_cell? _ _ c1_12
    have m1_2 : w.heap.size + 1 + 1 < w1.heap.size + 1 := by omega
    have n1_2 : w.heap.size + 1 + 1 < w1.heap.size + 1 + 1 := by omega
    have x1_2 : ¬ w1.heap.size = w.heap.size + 1 + 1 := by omega
    have y1_2 : ¬ w1.heap.size + 1 = w.heap.size + 1 + 1 := by omega
    have HU1 : Hid (Up w w1) := Lib.hid (by ((repeat (first | (with_reducible exact Up.refl _) | (with_reducible refine Up.trans ?_ hu1) | (with_reducible refine Up.alloc ?_ _ _) | (with_reducible refine Up.setCell ?_ ?_ _) | (with_reducible refine Up.drewN ?_ _) | (with_reducible refine Up.drew ?_))); all_goals (first | (simp; done) | (simp; omega) | omega)))
    clear hu1
    go_wp2_with fail
    refine (H1.out _).mono ?_
    rintro e w2 ⟨rfl, hu2⟩
    try unfold got2
    have c2_0 := hu2.keep (w.heap.size) (0) (.int .i64 n1) (by simp [go_sem, *])
    have c2_1 := hu2.keep (w.heap.size) (1) (.int .i64 d1) (by simp [go_sem, *])
    have c2_2 := hu2.keep (w.heap.size) (2) (.int .i64 n2) (by simp [go_sem, *])
    have c2_3 := hu2.keep (w.heap.size) (3) (.int .i64 d2) (by simp [go_sem, *])
    have c2_4 := hu2.keep (w.heap.size) (4) (.int .i64 n3) (by simp [go_sem, *])
    have c2_5 := hu2.keep (w.heap.size) (5) (.int .i64 d3) (by simp [go_sem, *])
    have c2_6 := hu2.keep (w.heap.size + 1) (0) (.int .i64 m1) (by simp [go_sem, *])
    have c2_7 := hu2.keep (w.heap.size + 1) (1) (.int .i64 c1) (by simp [go_sem, *])
    have c2_8 := hu2.keep (w.heap.size + 1) (2) (.int .i64 m2) (by simp [go_sem, *])
    have c2_9 := hu2.keep (w.heap.size + 1) (3) (.int .i64 c2) (by simp [go_sem, *])
    have c2_10 := hu2.keep (w.heap.size + 1) (4) (.int .i64 m3) (by simp [go_sem, *])
    have c2_11 := hu2.keep (w.heap.size + 1) (5) (.int .i64 c3) (by simp [go_sem, *])
    have c2_12 := hu2.keep (w.heap.size + 1 + 1) (0) (.int .i64 0) (by simp [go_sem, *])
    have c2_13 := hu2.keep (w.heap.size + 1 + 1) (1) (.int .i64 0) (by simp [go_sem, *])
    have c2_14 := hu2.keep (w.heap.size + 1 + 1) (2) (.int .i64 0) (by simp [go_sem, *])
    have c2_15 := hu2.keep (w.heap.size + 1 + 1) (3) (.int .i64 0) (by simp [go_sem, *])
    have c2_16 := hu2.keep (w.heap.size + 1 + 1) (4) (.int .i64 0) (by simp [go_sem, *])
    have c2_17 := hu2.keep (w.heap.size + 1 + 1) (5) (.int .i64 0) (by simp [go_sem, *])
    have l2_0 : w.heap.size < w2.heap.size := World.block_lt_of_cell? _ _ c2_0
    have m2_0 : w.heap.size < w2.heap.size + 1 := by omega
    have n2_0 : w.heap.size < w2.heap.size + 1 + 1 := by omega
    have x2_0 : ¬ w2.heap.size = w.heap.size := by omega
    have y2_0 : ¬ w2.heap.size + 1 = w.heap.size := by omega
    have l2_1 : w.heap.size + 1 < w2.heap.size := World.block_lt_of_cell? _ _ c2_6
    have m2_1 : w.heap.size + 1 < w2.heap.size + 1 := by omega
    have n2_1 : w.heap.size + 1 < w2.heap.size + 1 + 1 := by omega
    have x2_1 : ¬ w2.heap.size = w.heap.size + 1 := by omega
    have y2_1 : ¬ w2.heap.size + 1 = w.heap.size + 1 := by omega
    have l2_2 : w.heap.size + 1 + 1 < w2.heap.size := World.block_lt_of_cell? _ _ c2_12
    have m2_2 : w.heap.size + 1 + 1 < w2.heap.size + 1 := by omega
    have n2_2 : w.heap.size + 1 + 1 < w2.heap.size + 1 + 1 := by omega
    have x2_2 : ¬ w2.heap.size = w.heap.size + 1 + 1 := by omega
    have y2_2 : ¬ w2.heap.size + 1 = w.heap.size + 1 + 1 := by omega
    have HU2 : Hid (Up w w2) := Lib.hid (by ((repeat (first | (with_reducible exact Up.refl _) | (with_reducible exact HU1.out) | (with_reducible refine Up.trans ?_ hu2) | (with_reducible refine Up.alloc ?_ _ _) | (with_reducible refine Up.setCell ?_ ?_ _) | (with_reducible refine Up.drewN ?_ _) | (with_reducible refine Up.drew ?_))); all_goals (first | (simp; done) | (simp; omega) | omega)))
    clear hu2 c1_0 c1_1 c1_2 c1_3 c1_4 c1_5 c1_6 c1_7 c1_8 c1_9 c1_10 c1_11 c1_12 c1_13 c1_14 c1_15 c1_16 c1_17
    unfold gotR
    go_wp2_with fail
    refine (H2.out _).mono ?_
    rintro e w3 ⟨rfl, hu3⟩
    try unfold got2
    have c3_0 := hu3.keep (w.heap.size) (0) (.int .i64 n1) (by simp [go_sem, *])
    have c3_1 := hu3.keep (w.heap.size) (1) (.int .i64 d1) (by simp [go_sem, *])
    have c3_2 := hu3.keep (w.heap.size) (2) (.int .i64 n2) (by simp [go_sem, *])
    have c3_3 := hu3.keep (w.heap.size) (3) (.int .i64 d2) (by simp [go_sem, *])
    have c3_4 := hu3.keep (w.heap.size) (4) (.int .i64 n3) (by simp [go_sem, *])
    have c3_5 := hu3.keep (w.heap.size) (5) (.int .i64 d3) (by simp [go_sem, *])
    have c3_6 := hu3.keep (w.heap.size + 1) (0) (.int .i64 m1) (by simp [go_sem, *])
    have c3_7 := hu3.keep (w.heap.size + 1) (1) (.int .i64 c1) (by simp [go_sem, *])
    have c3_8 := hu3.keep (w.heap.size + 1) (2) (.int .i64 m2) (by simp [go_sem, *])
    have c3_9 := hu3.keep (w.heap.size + 1) (3) (.int .i64 c2) (by simp [go_sem, *])
    have c3_10 := hu3.keep (w.heap.size + 1) (4) (.int .i64 m3) (by simp [go_sem, *])
    have c3_11 := hu3.keep (w.heap.size + 1) (5) (.int .i64 c3) (by simp [go_sem, *])
    have c3_12 := hu3.keep (w.heap.size + 1 + 1) (0) (.int .i64 0) (by simp [go_sem, *])
    have c3_13 := hu3.keep (w.heap.size + 1 + 1) (1) (.int .i64 0) (by simp [go_sem, *])
    have c3_14 := hu3.keep (w.heap.size + 1 + 1) (2) (.int .i64 0) (by simp [go_sem, *])
    have c3_15 := hu3.keep (w.heap.size + 1 + 1) (3) (.int .i64 0) (by simp [go_sem, *])
    have c3_16 := hu3.keep (w.heap.size + 1 + 1) (4) (.int .i64 0) (by simp [go_sem, *])
    have c3_17 := hu3.keep (w.heap.size + 1 + 1) (5) (.int .i64 0) (by simp [go_sem, *])
    have c3_18 := hu3.keep (w2.heap.size) (0) (.int .i64 N1) (by simp [go_sem, *])
    have c3_19 := hu3.keep (w2.heap.size) (1) (.int .i64 D1) (by simp [go_sem, *])
    have l3_0 : w.heap.size < w3.heap.size := World.block_lt_of_cell? _ _ c3_0
    have m3_0 : w.heap.size < w3.heap.size + 1 := by omega
    have n3_0 : w.heap.size < w3.heap.size + 1 + 1 := by omega
    have x3_0 : ¬ w3.heap.size = w.heap.size := by omega
    have y3_0 : ¬ w3.heap.size + 1 = w.heap.size := by omega
    have l3_1 : w.heap.size + 1 < w3.heap.size := World.block_lt_of_cell? _ _ c3_6
    have m3_1 : w.heap.size + 1 < w3.heap.size + 1 := by omega
    have n3_1 : w.heap.size + 1 < w3.heap.size + 1 + 1 := by omega
    have x3_1 : ¬ w3.heap.size = w.heap.size + 1 := by omega
    have y3_1 : ¬ w3.heap.size + 1 = w.heap.size + 1 := by omega
    have l3_2 : w.heap.size + 1 + 1 < w3.heap.size := World.block_lt_of_cell? _ _ c3_12
    have m3_2 : w.heap.size + 1 + 1 < w3.heap.size + 1 := by omega
    have n3_2 : w.heap.size + 1 + 1 < w3.heap.size + 1 + 1 := by omega
    have x3_2 : ¬ w3.heap.size = w.heap.size + 1 + 1 := by omega
    have y3_2 : ¬ w3.heap.size + 1 = w.heap.size + 1 + 1 := by omega
    have l3_3 : w2.heap.size < w3.heap.size := World.block_lt_of_cell? _ _ c3_18
    have m3_3 : w2.heap.size < w3.heap.size + 1 := by omega
    have n3_3 : w2.heap.size < w3.heap.size + 1 + 1 := by omega
    have x3_3 : ¬ w3.heap.size = w2.heap.size := by omega
    have y3_3 : ¬ w3.heap.size + 1 = w2.heap.size := by omega
    have HU3 : Hid (Up w w3) := Lib.hid (by ((repeat (first | (with_reducible exact Up.refl _) | (with_reducible exact HU2.out) | (with_reducible refine Up.trans ?_ hu3) | (with_reducible refine Up.alloc ?_ _ _) | (with_reducible refine Up.setCell ?_ ?_ _) | (with_reducible refine Up.drewN ?_ _) | (with_reducible refine Up.drew ?_))); all_goals (first | (simp; done) | (simp; omega) | omega)))
    clear hu3 c2_0 c2_1 c2_2 c2_3 c2_4 c2_5 c2_6 c2_7 c2_8 c2_9 c2_10 c2_11 c2_12 c2_13 c2_14 c2_15 c2_16 c2_17
    unfold gotR
    go_wp2_with fail
    refine (H3.out _).mono ?_
    rintro e w4 ⟨rfl, hu4⟩
    try unfold got2
    have c4_0 := hu4.keep (w.heap.size) (0) (.int .i64 n1) (by simp [go_sem, *])
    have c4_1 := hu4.keep (w.heap.size) (1) (.int .i64 d1) (by simp [go_sem, *])
    have c4_2 := hu4.keep (w.heap.size) (2) (.int .i64 n2) (by simp [go_sem, *])
    have c4_3 := hu4.keep (w.heap.size) (3) (.int .i64 d2) (by simp [go_sem, *])
    have c4_4 := hu4.keep (w.heap.size) (4) (.int .i64 n3) (by simp [go_sem, *])
    have c4_5 := hu4.keep (w.heap.size) (5) (.int .i64 d3) (by simp [go_sem, *])
    have c4_6 := hu4.keep (w.heap.size + 1) (0) (.int .i64 m1) (by simp [go_sem, *])
    have c4_7 := hu4.keep (w.heap.size + 1) (1) (.int .i64 c1) (by simp [go_sem, *])
    have c4_8 := hu4.keep (w.heap.size + 1) (2) (.int .i64 m2) (by simp [go_sem, *])
    have c4_9 := hu4.keep (w.heap.size + 1) (3) (.int .i64 c2) (by simp [go_sem, *])
    have c4_10 := hu4.keep (w.heap.size + 1) (4) (.int .i64 m3) (by simp [go_sem, *])
    have c4_11 := hu4.keep (w.heap.size + 1) (5) (.int .i64 c3) (by simp [go_sem, *])
    have c4_12 := hu4.keep (w.heap.size + 1 + 1) (0) (.int .i64 0) (by simp [go_sem, *])
    have c4_13 := hu4.keep (w.heap.size + 1 + 1) (1) (.int .i64 0) (by simp [go_sem, *])
    have c4_14 := hu4.keep (w.heap.size + 1 + 1) (2) (.int .i64 0) (by simp [go_sem, *])
    have c4_15 := hu4.keep (w.heap.size + 1 + 1) (3) (.int .i64 0) (by simp [go_sem, *])
    have c4_16 := hu4.keep (w.heap.size + 1 + 1) (4) (.int .i64 0) (by simp [go_sem, *])
    have c4_17 := hu4.keep (w.heap.size + 1 + 1) (5) (.int .i64 0) (by simp [go_sem, *])
    have c4_18 := hu4.keep (w2.heap.size) (0) (.int .i64 N1) (by simp [go_sem, *])
    have c4_19 := hu4.keep (w2.heap.size) (1) (.int .i64 D1) (by simp [go_sem, *])
    have c4_20 := hu4.keep (w3.heap.size) (0) (.int .i64 N2) (by simp [go_sem, *])
    have c4_21 := hu4.keep (w3.heap.size) (1) (.int .i64 D2) (by simp [go_sem, *])
    have l4_0 : w.heap.size < w4.heap.size := World.block_lt_of_cell? _ _ c4_0
    have m4_0 : w.heap.size < w4.heap.size + 1 := by omega
    have n4_0 : w.heap.size < w4.heap.size + 1 + 1 := by omega
    have x4_0 : ¬ w4.heap.size = w.heap.size := by omega
    have y4_0 : ¬ w4.heap.size + 1 = w.heap.size := by omega
    have l4_1 : w.heap.size + 1 < w4.heap.size := World.block_lt_of_cell? _ _ c4_6
    have m4_1 : w.heap.size + 1 < w4.heap.size + 1 := by omega
    have n4_1 : w.heap.size + 1 < w4.heap.size + 1 + 1 := by omega
    have x4_1 : ¬ w4.heap.size = w.heap.size + 1 := by omega
    have y4_1 : ¬ w4.heap.size + 1 = w.heap.size + 1 := by omega
    have l4_2 : w.heap.size + 1 + 1 < w4.heap.size := World.block_lt_of_cell? _ _ c4_12
    have m4_2 : w.heap.size + 1 + 1 < w4.heap.size + 1 := by omega
    have n4_2 : w.heap.size + 1 + 1 < w4.heap.size + 1 + 1 := by omega
    have x4_2 : ¬ w4.heap.size = w.heap.size + 1 + 1 := by omega
    have y4_2 : ¬ w4.heap.size + 1 = w.heap.size + 1 + 1 := by omega
    have l4_3 : w2.heap.size < w4.heap.size := World.block_lt_of_cell? _ _ c4_18
    have m4_3 : w2.heap.size < w4.heap.size + 1 := by omega
    have n4_3 : w2.heap.size < w4.heap.size + 1 + 1 := by omega
    have x4_3 : ¬ w4.heap.size = w2.heap.size := by omega
    have y4_3 : ¬ w4.heap.size + 1 = w2.heap.size := by omega
    have l4_4 : w3.heap.size < w4.heap.size := World.block_lt_of_cell? _ _ c4_20
    have m4_4 : w3.heap.size < w4.heap.size + 1 := by omega
    have n4_4 : w3.heap.size < w4.heap.size + 1 + 1 := by omega
    have x4_4 : ¬ w4.heap.size = w3.heap.size := by omega
    have y4_4 : ¬ w4.heap.size + 1 = w3.heap.size := by omega
    have HU4 : Hid (Up w w4) := Lib.hid (by ((repeat (first | (with_reducible exact Up.refl _) | (with_reducible exact HU3.out) | (with_reducible refine Up.trans ?_ hu4) | (with_reducible refine Up.alloc ?_ _ _) | (with_reducible refine Up.setCell ?_ ?_ _) | (with_reducible refine Up.drewN ?_ _) | (with_reducible refine Up.drew ?_))); all_goals (first | (simp; done) | (simp; omega) | omega)))
    clear hu4 c3_0 c3_1 c3_2 c3_3 c3_4 c3_5 c3_6 c3_7 c3_8 c3_9 c3_10 c3_11 c3_12 c3_13 c3_14 c3_15 c3_16 c3_17 c3_18 c3_19
    unfold gotR
    have z0 := own2 HU4.out 0
    have z1 := own2 HU4.out 1
    have z2 := own2 HU4.out 2
    have z3 := own2 HU4.out 3
    have z4 := own2 HU4.out 4
    have z5 := own2 HU4.out 5
    go_wp2_with fail
    refine bodyPost_ret (v := .tuple #[.agg #[.int .i64 0, .int .i64 0, .int .i64 0, .int .i64 0, .int .i64 0, .int .i64 0], .bool false]) (by simp [results, Tryz.results11, go_sem, c4_12, c4_13, c4_14, c4_15, c4_16, c4_17, l4_2]) rfl ⟨?_, ?_⟩
    · rfl
    · ((repeat (first | (with_reducible exact Up.refl _) | (with_reducible exact HU4.out) | (with_reducible refine Up.alloc ?_ _ _) | (with_reducible refine Up.setCell ?_ ?_ _) | (with_reducible refine Up.drewN ?_ _) | (with_reducible refine Up.drew ?_))); all_goals (first | (simp; done) | (simp; omega) | omega))
  obtain rfl : r = true := by rw [HR.out]; rfl
  go_enter Tryz.func11, Tryz.ntmps11
  go_wp2_with fail
  refine (HV.out _).mono ?_
  rintro e w1 ⟨rfl, hu1⟩
  try unfold got2
  have c1_0 := hu1.keep (w.heap.size) (0) (.int .i64 n1) (by simp [go_sem, *])
  have c1_1 := hu1.keep (w.heap.size) (1) (.int .i64 d1) (by simp [go_sem, *])
  have c1_2 := hu1.keep (w.heap.size) (2) (.int .i64 n2) (by simp [go_sem, *])
  have c1_3 := hu1.keep (w.heap.size) (3) (.int .i64 d2) (by simp [go_sem, *])
  have c1_4 := hu1.keep (w.heap.size) (4) (.int .i64 n3) (by simp [go_sem, *])
  have c1_5 := hu1.keep (w.heap.size) (5) (.int .i64 d3) (by simp [go_sem, *])
  have c1_6 := hu1.keep (w.heap.size + 1) (0) (.int .i64 m1) (by simp [go_sem, *])
  have c1_7 := hu1.keep (w.heap.size + 1) (1) (.int .i64 c1) (by simp [go_sem, *])
  have c1_8 := hu1.keep (w.heap.size + 1) (2) (.int .i64 m2) (by simp [go_sem, *])
  have c1_9 := hu1.keep (w.heap.size + 1) (3) (.int .i64 c2) (by simp [go_sem, *])
  have c1_10 := hu1.keep (w.heap.size + 1) (4) (.int .i64 m3) (by simp [go_sem, *])
  have c1_11 := hu1.keep (w.heap.size + 1) (5) (.int .i64 c3) (by simp [go_sem, *])
  have c1_12 := hu1.keep (w.heap.size + 1 + 1) (0) (.int .i64 0) (by simp [go_sem, *])
  have c1_13 := hu1.keep (w.heap.size + 1 + 1) (1) (.int .i64 0) (by simp [go_sem, *])
  have c1_14 := hu1.keep (w.heap.size + 1 + 1) (2) (.int .i64 0) (by simp [go_sem, *])
  have c1_15 := hu1.keep (w.heap.size + 1 + 1) (3) (.int .i64 0) (by simp [go_sem, *])
  have c1_16 := hu1.keep (w.heap.size + 1 + 1) (4) (.int .i64 0) (by simp [go_sem, *])
  have c1_17 := hu1.keep (w.heap.size + 1 + 1) (5) (.int .i64 0) (by simp [go_sem, *])
  have l1_0 : w.heap.size < w1.heap.size := World.block_lt_of_cell? _ _ c1_0
  have m1_0 : w.heap.size < w1.heap.size + 1 := by omega
  have n1_0 : w.heap.size < w1.heap.size + 1 + 1 := by omega
  have x1_0 : ¬ w1.heap.size = w.heap.size := by omega
  have y1_0 : ¬ w1.heap.size + 1 = w.heap.size := by omega
  have l1_1 : w.heap.size + 1 < w1.heap.size := World.block_lt_of_cell? _ _ c1_6
  have m1_1 : w.heap.size + 1 < w1.heap.size + 1 := by omega
  have n1_1 : w.heap.size + 1 < w1.heap.size + 1 + 1 := by omega
  have x1_1 : ¬ w1.heap.size = w.heap.size + 1 := by omega
  have y1_1 : ¬ w1.heap.size + 1 = w.heap.size + 1 := by omega
  have l1_2 : w.heap.size + 1 + 1 < w1.heap.size := World.block_lt_of_cell? _ _ c1_12
  have m1_2 : w.heap.size + 1 + 1 < w1.heap.size + 1 := by omega
  have n1_2 : w.heap.size + 1 + 1 < w1.heap.size + 1 + 1 := by omega
  have x1_2 : ¬ w1.heap.size = w.heap.size + 1 + 1 := by omega
  have y1_2 : ¬ w1.heap.size + 1 = w.heap.size + 1 + 1 := by omega
  have HU1 : Hid (Up w w1) := Lib.hid (by ((repeat (first | (with_reducible exact Up.refl _) | (with_reducible refine Up.trans ?_ hu1) | (with_reducible refine Up.alloc ?_ _ _) | (with_reducible refine Up.setCell ?_ ?_ _) | (with_reducible refine Up.drewN ?_ _) | (with_reducible refine Up.drew ?_))); all_goals (first | (simp; done) | (simp; omega) | omega)))
  clear hu1
  go_wp2_with fail
  refine (H1.out _).mono ?_
  rintro e w2 ⟨rfl, hu2⟩
  try unfold got2
  have c2_0 := hu2.keep (w.heap.size) (0) (.int .i64 n1) (by simp [go_sem, *])
  have c2_1 := hu2.keep (w.heap.size) (1) (.int .i64 d1) (by simp [go_sem, *])
  have c2_2 := hu2.keep (w.heap.size) (2) (.int .i64 n2) (by simp [go_sem, *])
  have c2_3 := hu2.keep (w.heap.size) (3) (.int .i64 d2) (by simp [go_sem, *])
  have c2_4 := hu2.keep (w.heap.size) (4) (.int .i64 n3) (by simp [go_sem, *])
  have c2_5 := hu2.keep (w.heap.size) (5) (.int .i64 d3) (by simp [go_sem, *])
  have c2_6 := hu2.keep (w.heap.size + 1) (0) (.int .i64 m1) (by simp [go_sem, *])
  have c2_7 := hu2.keep (w.heap.size + 1) (1) (.int .i64 c1) (by simp [go_sem, *])
  have c2_8 := hu2.keep (w.heap.size + 1) (2) (.int .i64 m2) (by simp [go_sem, *])
  have c2_9 := hu2.keep (w.heap.size + 1) (3) (.int .i64 c2) (by simp [go_sem, *])
  have c2_10 := hu2.keep (w.heap.size + 1) (4) (.int .i64 m3) (by simp [go_sem, *])
  have c2_11 := hu2.keep (w.heap.size + 1) (5) (.int .i64 c3) (by simp [go_sem, *])
  have c2_12 := hu2.keep (w.heap.size + 1 + 1) (0) (.int .i64 0) (by simp [go_sem, *])
  have c2_13 := hu2.keep (w.heap.size + 1 + 1) (1) (.int .i64 0) (by simp [go_sem, *])
  have c2_14 := hu2.keep (w.heap.size + 1 + 1) (2) (.int .i64 0) (by simp [go_sem, *])
  have c2_15 := hu2.keep (w.heap.size + 1 + 1) (3) (.int .i64 0) (by simp [go_sem, *])
  have c2_16 := hu2.keep (w.heap.size + 1 + 1) (4) (.int .i64 0) (by simp [go_sem, *])
  have c2_17 := hu2.keep (w.heap.size + 1 + 1) (5) (.int .i64 0) (by simp [go_sem, *])
  have l2_0 : w.heap.size < w2.heap.size := World.block_lt_of_cell? _ _ c2_0
  have m2_0 : w.heap.size < w2.heap.size + 1 := by omega
  have n2_0 : w.heap.size < w2.heap.size + 1 + 1 := by omega
  have x2_0 : ¬ w2.heap.size = w.heap.size := by omega
  have y2_0 : ¬ w2.heap.size + 1 = w.heap.size := by omega
  have l2_1 : w.heap.size + 1 < w2.heap.size := World.block_lt_of_cell? _ _ c2_6
  have m2_1 : w.heap.size + 1 < w2.heap.size + 1 := by omega
  have n2_1 : w.heap.size + 1 < w2.heap.size + 1 + 1 := by omega
  have x2_1 : ¬ w2.heap.size = w.heap.size + 1 := by omega
  have y2_1 : ¬ w2.heap.size + 1 = w.heap.size + 1 := by omega
  have l2_2 : w.heap.size + 1 + 1 < w2.heap.size := World.block_lt_of_cell? _ _ c2_12
  have m2_2 : w.heap.size + 1 + 1 < w2.heap.size + 1 := by omega
  have n2_2 : w.heap.size + 1 + 1 < w2.heap.size + 1 + 1 := by omega
  have x2_2 : ¬ w2.heap.size = w.heap.size + 1 + 1 := by omega
  have y2_2 : ¬ w2.heap.size + 1 = w.heap.size + 1 + 1 := by omega
  have HU2 : Hid (Up w w2) := Lib.hid (by ((repeat (first | (with_reducible exact Up.refl _) | (with_reducible exact HU1.out) | (with_reducible refine Up.trans ?_ hu2) | (with_reducible refine Up.alloc ?_ _ _) | (with_reducible refine Up.setCell ?_ ?_ _) | (with_reducible refine Up.drewN ?_ _) | (with_reducible refine Up.drew ?_))); all_goals (first | (simp; done) | (simp; omega) | omega)))
  clear hu2 c1_0 c1_1 c1_2 c1_3 c1_4 c1_5 c1_6 c1_7 c1_8 c1_9 c1_10 c1_11 c1_12 c1_13 c1_14 c1_15 c1_16 c1_17
  unfold gotR
  go_wp2_with fail
  refine (H2.out _).mono ?_
  rintro e w3 ⟨rfl, hu3⟩
  try unfold got2
  have c3_0 := hu3.keep (w.heap.size) (0) (.int .i64 n1) (by simp [go_sem, *])
  have c3_1 := hu3.keep (w.heap.size) (1) (.int .i64 d1) (by simp [go_sem, *])
  have c3_2 := hu3.keep (w.heap.size) (2) (.int .i64 n2) (by simp [go_sem, *])
  have c3_3 := hu3.keep (w.heap.size) (3) (.int .i64 d2) (by simp [go_sem, *])
  have c3_4 := hu3.keep (w.heap.size) (4) (.int .i64 n3) (by simp [go_sem, *])
  have c3_5 := hu3.keep (w.heap.size) (5) (.int .i64 d3) (by simp [go_sem, *])
  have c3_6 := hu3.keep (w.heap.size + 1) (0) (.int .i64 m1) (by simp [go_sem, *])
  have c3_7 := hu3.keep (w.heap.size + 1) (1) (.int .i64 c1) (by simp [go_sem, *])
  have c3_8 := hu3.keep (w.heap.size + 1) (2) (.int .i64 m2) (by simp [go_sem, *])
  have c3_9 := hu3.keep (w.heap.size + 1) (3) (.int .i64 c2) (by simp [go_sem, *])
  have c3_10 := hu3.keep (w.heap.size + 1) (4) (.int .i64 m3) (by simp [go_sem, *])
  have c3_11 := hu3.keep (w.heap.size + 1) (5) (.int .i64 c3) (by simp [go_sem, *])
  have c3_12 := hu3.keep (w.heap.size + 1 + 1) (0) (.int .i64 0) (by simp [go_sem, *])
  have c3_13 := hu3.keep (w.heap.size + 1 + 1) (1) (.int .i64 0) (by simp [go_sem, *])
  have c3_14 := hu3.keep (w.heap.size + 1 + 1) (2) (.int .i64 0) (by simp [go_sem, *])
  have c3_15 := hu3.keep (w.heap.size + 1 + 1) (3) (.int .i64 0) (by simp [go_sem, *])
  have c3_16 := hu3.keep (w.heap.size + 1 + 1) (4) (.int .i64 0) (by simp [go_sem, *])
  have c3_17 := hu3.keep (w.heap.size + 1 + 1) (5) (.int .i64 0) (by simp [go_sem, *])
  have c3_18 := hu3.keep (w2.heap.size) (0) (.int .i64 N1) (by simp [go_sem, *])
  have c3_19 := hu3.keep (w2.heap.size) (1) (.int .i64 D1) (by simp [go_sem, *])
  have l3_0 : w.heap.size < w3.heap.size := World.block_lt_of_cell? _ _ c3_0
  have m3_0 : w.heap.size < w3.heap.size + 1 := by omega
  have n3_0 : w.heap.size < w3.heap.size + 1 + 1 := by omega
  have x3_0 : ¬ w3.heap.size = w.heap.size := by omega
  have y3_0 : ¬ w3.heap.size + 1 = w.heap.size := by omega
  have l3_1 : w.heap.size + 1 < w3.heap.size := World.block_lt_of_cell? _ _ c3_6
  have m3_1 : w.heap.size + 1 < w3.heap.size + 1 := by omega
  have n3_1 : w.heap.size + 1 < w3.heap.size + 1 + 1 := by omega
  have x3_1 : ¬ w3.heap.size = w.heap.size + 1 := by omega
  have y3_1 : ¬ w3.heap.size + 1 = w.heap.size + 1 := by omega
  have l3_2 : w.heap.size + 1 + 1 < w3.heap.size := World.block_lt_of_cell? _ _ c3_12
  have m3_2 : w.heap.size + 1 + 1 < w3.heap.size + 1 := by omega
  have n3_2 : w.heap.size + 1 + 1 < w3.heap.size + 1 + 1 := by omega
  have x3_2 : ¬ w3.heap.size = w.heap.size + 1 + 1 := by omega
  have y3_2 : ¬ w3.heap.size + 1 = w.heap.size + 1 + 1 := by omega
  have l3_3 : w2.heap.size < w3.heap.size := World.block_lt_of_cell? _ _ c3_18
  have m3_3 : w2.heap.size < w3.heap.size + 1 := by omega
  have n3_3 : w2.heap.size < w3.heap.size + 1 + 1 := by omega
  have x3_3 : ¬ w3.heap.size = w2.heap.size := by omega
  have y3_3 : ¬ w3.heap.size + 1 = w2.heap.size := by omega
  have HU3 : Hid (Up w w3) := Lib.hid (by ((repeat (first | (with_reducible exact Up.refl _) | (with_reducible exact HU2.out) | (with_reducible refine Up.trans ?_ hu3) | (with_reducible refine Up.alloc ?_ _ _) | (with_reducible refine Up.setCell ?_ ?_ _) | (with_reducible refine Up.drewN ?_ _) | (with_reducible refine Up.drew ?_))); all_goals (first | (simp; done) | (simp; omega) | omega)))
  clear hu3 c2_0 c2_1 c2_2 c2_3 c2_4 c2_5 c2_6 c2_7 c2_8 c2_9 c2_10 c2_11 c2_12 c2_13 c2_14 c2_15 c2_16 c2_17
  unfold gotR
  go_wp2_with fail
  refine (H3.out _).mono ?_
  rintro e w4 ⟨rfl, hu4⟩
  try unfold got2
  have c4_0 := hu4.keep (w.heap.size) (0) (.int .i64 n1) (by simp [go_sem, *])
  have c4_1 := hu4.keep (w.heap.size) (1) (.int .i64 d1) (by simp [go_sem, *])
  have c4_2 := hu4.keep (w.heap.size) (2) (.int .i64 n2) (by simp [go_sem, *])
  have c4_3 := hu4.keep (w.heap.size) (3) (.int .i64 d2) (by simp [go_sem, *])
  have c4_4 := hu4.keep (w.heap.size) (4) (.int .i64 n3) (by simp [go_sem, *])
  have c4_5 := hu4.keep (w.heap.size) (5) (.int .i64 d3) (by simp [go_sem, *])
  have c4_6 := hu4.keep (w.heap.size + 1) (0) (.int .i64 m1) (by simp [go_sem, *])
  have c4_7 := hu4.keep (w.heap.size + 1) (1) (.int .i64 c1) (by simp [go_sem, *])
  have c4_8 := hu4.keep (w.heap.size + 1) (2) (.int .i64 m2) (by simp [go_sem, *])
  have c4_9 := hu4.keep (w.heap.size + 1) (3) (.int .i64 c2) (by simp [go_sem, *])
  have c4_10 := hu4.keep (w.heap.size + 1) (4) (.int .i64 m3) (by simp [go_sem, *])
  have c4_11 := hu4.keep (w.heap.size + 1) (5) (.int .i64 c3) (by simp [go_sem, *])
  have c4_12 := hu4.keep (w.heap.size + 1 + 1) (0) (.int .i64 0) (by simp [go_sem, *])
  have c4_13 := hu4.keep (w.heap.size + 1 + 1) (1) (.int .i64 0) (by simp [go_sem, *])
  have c4_14 := hu4.keep (w.heap.size + 1 + 1) (2) (.int .i64 0) (by simp [go_sem, *])
  have c4_15 := hu4.keep (w.heap.size + 1 + 1) (3) (.int .i64 0) (by simp [go_sem, *])
  have c4_16 := hu4.keep (w.heap.size + 1 + 1) (4) (.int .i64 0) (by simp [go_sem, *])
  have c4_17 := hu4.keep (w.heap.size + 1 + 1) (5) (.int .i64 0) (by simp [go_sem, *])
  have c4_18 := hu4.keep (w2.heap.size) (0) (.int .i64 N1) (by simp [go_sem, *])
  have c4_19 := hu4.keep (w2.heap.size) (1) (.int .i64 D1) (by simp [go_sem, *])
  have c4_20 := hu4.keep (w3.heap.size) (0) (.int .i64 N2) (by simp [go_sem, *])
  have c4_21 := hu4.keep (w3.heap.size) (1) (.int .i64 D2) (by simp [go_sem, *])
  have l4_0 : w.heap.size < w4.heap.size := World.block_lt_of_cell? _ _ c4_0
  have m4_0 : w.heap.size < w4.heap.size + 1 := by omega
  have n4_0 : w.heap.size < w4.heap.size + 1 + 1 := by omega
  have x4_0 : ¬ w4.heap.size = w.heap.size := by omega
  have y4_0 : ¬ w4.heap.size + 1 = w.heap.size := by omega
  have l4_1 : w.heap.size + 1 < w4.heap.size := World.block_lt_of_cell? _ _ c4_6
  have m4_1 : w.heap.size + 1 < w4.heap.size + 1 := by omega
  have n4_1 : w.heap.size + 1 < w4.heap.size + 1 + 1 := by omega
  have x4_1 : ¬ w4.heap.size = w.heap.size + 1 := by omega
  have y4_1 : ¬ w4.heap.size + 1 = w.heap.size + 1 := by omega
  have l4_2 : w.heap.size + 1 + 1 < w4.heap.size := World.block_lt_of_cell? _ _ c4_12
  have m4_2 : w.heap.size + 1 + 1 < w4.heap.size + 1 := by omega
  have n4_2 : w.heap.size + 1 + 1 < w4.heap.size + 1 + 1 := by omega
  have x4_2 : ¬ w4.heap.size = w.heap.size + 1 + 1 := by omega
  have y4_2 : ¬ w4.heap.size + 1 = w.heap.size + 1 + 1 := by omega
  have l4_3 : w2.heap.size < w4.heap.size := World.block_lt_of_cell? _ _ c4_18
  have m4_3 : w2.heap.size < w4.heap.size + 1 := by omega
  have n4_3 : w2.heap.size < w4.heap.size + 1 + 1 := by omega
  have x4_3 : ¬ w4.heap.size = w2.heap.size := by omega
  have y4_3 : ¬ w4.heap.size + 1 = w2.heap.size := by omega
  have l4_4 : w3.heap.size < w4.heap.size := World.block_lt_of_cell? _ _ c4_20
  have m4_4 : w3.heap.size < w4.heap.size + 1 := by omega
  have n4_4 : w3.heap.size < w4.heap.size + 1 + 1 := by omega
  have x4_4 : ¬ w4.heap.size = w3.heap.size := by omega
  have y4_4 : ¬ w4.heap.size + 1 = w3.heap.size := by omega
  have HU4 : Hid (Up w w4) := Lib.hid (by ((repeat (first | (with_reducible exact Up.refl _) | (with_reducible exact HU3.out) | (with_reducible refine Up.trans ?_ hu4) | (with_reducible refine Up.alloc ?_ _ _) | (with_reducible refine Up.setCell ?_ ?_ _) | (with_reducible refine Up.drewN ?_ _) | (with_reducible refine Up.drew ?_))); all_goals (first | (simp; done) | (simp; omega) | omega)))
  clear hu4 c3_0 c3_1 c3_2 c3_3 c3_4 c3_5 c3_6 c3_7 c3_8 c3_9 c3_10 c3_11 c3_12 c3_13 c3_14 c3_15 c3_16 c3_17 c3_18 c3_19
  unfold gotR
  have z0 := own2 HU4.out 0
  have z1 := own2 HU4.out 1
  have z2 := own2 HU4.out 2
  have z3 := own2 HU4.out 3
  have z4 := own2 HU4.out 4
  have z5 := own2 HU4.out 5
  go_wp2_with fail
  refine bodyPost_ret (v := .tuple #[.agg #[.int .i64 N1, .int .i64 D1, .int .i64 N2, .int .i64 D2, .int .i64 N3, .int .i64 D3], .bool true]) (by simp [results, Tryz.results11, go_sem, c4_12, c4_13, c4_14, c4_15, c4_16, c4_17, l4_2]) rfl ⟨?_, ?_⟩
  · rfl
  · ((repeat (first | (with_reducible exact Up.refl _) | (with_reducible exact HU4.out) | (with_reducible refine Up.alloc ?_ _ _) | (with_reducible refine Up.setCell ?_ ?_ _) | (with_reducible refine Up.drewN ?_ _) | (with_reducible refine Up.drew ?_))); all_goals (first | (simp; done) | (simp; omega) | omega))

end Go.Proofs.YtjbgogajnjefmaaGreat
