/- What Within of the reference of package bounds returns. -/
import Derived.Test.YtgafcpklocccdaaBWithin
import Derived.Test.YtgafcpklocccdaaBTimes
namespace Go.Proofs.Ytgafcpklocccdaa
open Go.RowKit

theorem wset {w w1 : World} {L : List (Nat × Nat × Value)} {a b c d v : Value} {g q : Nat} (h : Bd w 1 L w1 ∧ w1.cell? ⟨w.heap.size, 4, none⟩ = some a ∧ w1.cell? ⟨w.heap.size, 1, none⟩ = some b ∧ w1.cell? ⟨w.heap.size, 0, none⟩ = some c ∧ w1.cell? ⟨w.heap.size, 5, none⟩ = some d) (hg : w.heap.size + 1 < g) :
    Bd w 1 L (w1.setCell ⟨g, q, none⟩ v) ∧ (w1.setCell ⟨g, q, none⟩ v).cell? ⟨w.heap.size, 4, none⟩ = some a ∧ (w1.setCell ⟨g, q, none⟩ v).cell? ⟨w.heap.size, 1, none⟩ = some b ∧ (w1.setCell ⟨g, q, none⟩ v).cell? ⟨w.heap.size, 0, none⟩ = some c ∧ (w1.setCell ⟨g, q, none⟩ v).cell? ⟨w.heap.size, 5, none⟩ = some d :=
  bset4 h hg (by omega) (by omega) (by omega) (by omega)
theorem ge_yes {n : Int} (h : decide (n < 0) = false) : decide (0 ≤ n) = true := decide_eq_true (by have := of_decide_eq_false h; omega)
theorem ge_no {n : Int} (h : decide (n < 0) = true) : decide (0 ≤ n) = false := decide_eq_false (by have := of_decide_eq_true h; omega)

set_option maxHeartbeats 16000000 in
set_option maxRecDepth 100000 in
theorem rwithin_up (n1 d1 n2 d2 n3 d3 k n d : Int) (in1 : In n1) (id1 : In d1) (in2 : In n2) (id2 : In d2) (in3 : In n3) (id3 : In d3) (ik : In k) (in_n : In n) (id_d : In d) (w : World) :
    Calls Try.prog 21 #[.agg #[.int .i64 n1, .int .i64 d1, .int .i64 n2, .int .i64 d2, .int .i64 n3, .int .i64 d3], .int .i64 k, .agg #[.int .i64 n, .int .i64 d]] w fun e w' => e = .returned (.bool (wiB n1 d1 n2 d2 n3 d3 k n d)) ∧ Up w w' := by
  have HV := Lib.hid (fun W => rbvalid_up n1 d1 n2 d2 n3 d3 in1 id1 in2 id2 in3 id3 W)
  have HU := Lib.hid (fun W => rvalid_up n d in_n id_d W)
  have HR := Lib.hid (show wiB n1 d1 n2 d2 n3 d3 k n d = (bvB n1 d1 n2 d2 n3 d3 && (decide (1 ≤ k) && (validB n d && (decide (0 ≤ n) && decide (wdZ n1 d1 n3 d3 * (k * d) ≤ d1 * d3 * n))))) from rfl)
  by_cases hv : bvB n1 d1 n2 d2 n3 d3 = true
  case neg =>
    have hv' := Bool.eq_false_iff.2 hv
    have HR' : Hid (wiB n1 d1 n2 d2 n3 d3 k n d = false) := Lib.hid (by rw [HR.out, hv']; simp)
    generalize wiB n1 d1 n2 d2 n3 d3 k n d = r at *
    rw [hv'] at HV
    clear hv hv' HR in1 id1 in2 id2 in3 id3 ik in_n id_d
    go_enter Try.func21, Try.ntmps21
    go_wp2_with fail
    refine (HV.out _).mono ?_
    rintro e w1 ⟨rfl, hu1⟩
    try unfold got2
    have c1_0 := hu1.keep (w.heap.size) (0) (.int .i64 n1) (by simp [go_sem, *])
    have c1_1 := hu1.keep (w.heap.size) (1) (.int .i64 d1) (by simp [go_sem, *])
    have c1_2 := hu1.keep (w.heap.size) (2) (.int .i64 n2) (by simp [go_sem, *])
    have c1_3 := hu1.keep (w.heap.size) (3) (.int .i64 d2) (by simp [go_sem, *])
    have c1_4 := hu1.keep (w.heap.size) (4) (.int .i64 n3) (by simp [go_sem, *])
    have c1_5 := hu1.keep (w.heap.size) (5) (.int .i64 d3) (by simp [go_sem, *])
    have c1_6 := hu1.keep (w.heap.size + 1) (0) (.int .i64 n) (by simp [go_sem, *])
    have c1_7 := hu1.keep (w.heap.size + 1) (1) (.int .i64 d) (by simp [go_sem, *])
    have l1_0 : w.heap.size < w1.heap.size := World.block_lt_of_cell? _ _ c1_0
    have m1_0 : w.heap.size < w1.heap.size + 1 := by omega
    have n1_0 : w.heap.size < w1.heap.size + 1 + 1 := by omega
    have x1_0 : ¬ w1.heap.size = w.heap.size := by omega
    have y1_0 : ¬ w1.heap.size + 1 = w.heap.size := by omega
    have l1_1 : w.heap.size + 1 < w1.heap.size := World.block_lt_of_cell? _ _ c1_6
    have m1_1 : w.heap.size + 1 < w1.heap.size + 1 := by omega
    have n1_1 : w.heap.size + 1 < w1.heap.size + 1 + 1 := by omega
    have x1_1 : ¬ w1.heap.size = w.heap.size + 1 := by omega
    have y1_1 : ¬ w1.heap.size + 1 = w.heap.size + 1 := by omega
    have HU1 : Hid (Up w w1) := Lib.hid (by ((repeat (first | (with_reducible exact Up.refl _) | (with_reducible refine Up.trans ?_ hu1) | (with_reducible refine Up.alloc ?_ _ _) | (with_reducible refine Up.setCell ?_ ?_ _) | (with_reducible refine Up.drewN ?_ _) | (with_reducible refine Up.drew ?_))); all_goals (first | (simp; done) | (simp; omega) | omega)))
    clear hu1
    go_wp2_with fail
    go_ret
    exact ⟨by rw [HR'.out]; rfl, HU1.out⟩
  by_cases hu : validB n d = true
  case neg =>
    have hu' := Bool.eq_false_iff.2 hu
    have HR' : Hid (wiB n1 d1 n2 d2 n3 d3 k n d = false) := Lib.hid (by rw [HR.out, hu']; simp)
    generalize wiB n1 d1 n2 d2 n3 d3 k n d = r at *
    rw [hv] at HV
    rw [hu'] at HU
    clear hv hu hu' HR in1 id1 in2 id2 in3 id3 ik in_n id_d
    go_enter Try.func21, Try.ntmps21
    go_wp2_with fail
    refine (HV.out _).mono ?_
    rintro e w1 ⟨rfl, hu1⟩
    try unfold got2
    have c1_0 := hu1.keep (w.heap.size) (0) (.int .i64 n1) (by simp [go_sem, *])
    have c1_1 := hu1.keep (w.heap.size) (1) (.int .i64 d1) (by simp [go_sem, *])
    have c1_2 := hu1.keep (w.heap.size) (2) (.int .i64 n2) (by simp [go_sem, *])
    have c1_3 := hu1.keep (w.heap.size) (3) (.int .i64 d2) (by simp [go_sem, *])
    have c1_4 := hu1.keep (w.heap.size) (4) (.int .i64 n3) (by simp [go_sem, *])
    have c1_5 := hu1.keep (w.heap.size) (5) (.int .i64 d3) (by simp [go_sem, *])
    have c1_6 := hu1.keep (w.heap.size + 1) (0) (.int .i64 n) (by simp [go_sem, *])
    have c1_7 := hu1.keep (w.heap.size + 1) (1) (.int .i64 d) (by simp [go_sem, *])
    have l1_0 : w.heap.size < w1.heap.size := World.block_lt_of_cell? _ _ c1_0
    have m1_0 : w.heap.size < w1.heap.size + 1 := by omega
    have n1_0 : w.heap.size < w1.heap.size + 1 + 1 := by omega
    have x1_0 : ¬ w1.heap.size = w.heap.size := by omega
    have y1_0 : ¬ w1.heap.size + 1 = w.heap.size := by omega
    have l1_1 : w.heap.size + 1 < w1.heap.size := World.block_lt_of_cell? _ _ c1_6
    have m1_1 : w.heap.size + 1 < w1.heap.size + 1 := by omega
    have n1_1 : w.heap.size + 1 < w1.heap.size + 1 + 1 := by omega
    have x1_1 : ¬ w1.heap.size = w.heap.size + 1 := by omega
    have y1_1 : ¬ w1.heap.size + 1 = w.heap.size + 1 := by omega
    have HU1 : Hid (Up w w1) := Lib.hid (by ((repeat (first | (with_reducible exact Up.refl _) | (with_reducible refine Up.trans ?_ hu1) | (with_reducible refine Up.alloc ?_ _ _) | (with_reducible refine Up.setCell ?_ ?_ _) | (with_reducible refine Up.drewN ?_ _) | (with_reducible refine Up.drew ?_))); all_goals (first | (simp; done) | (simp; omega) | omega)))
    clear hu1
    go_wp2_with fail
    refine (HU.out _).mono ?_
    rintro e w2 ⟨rfl, hu2⟩
    try unfold got2
    have c2_0 := hu2.keep (w.heap.size) (0) (.int .i64 n1) (by simp [go_sem, *])
    have c2_1 := hu2.keep (w.heap.size) (1) (.int .i64 d1) (by simp [go_sem, *])
    have c2_2 := hu2.keep (w.heap.size) (2) (.int .i64 n2) (by simp [go_sem, *])
    have c2_3 := hu2.keep (w.heap.size) (3) (.int .i64 d2) (by simp [go_sem, *])
    have c2_4 := hu2.keep (w.heap.size) (4) (.int .i64 n3) (by simp [go_sem, *])
    have c2_5 := hu2.keep (w.heap.size) (5) (.int .i64 d3) (by simp [go_sem, *])
    have c2_6 := hu2.keep (w.heap.size + 1) (0) (.int .i64 n) (by simp [go_sem, *])
    have c2_7 := hu2.keep (w.heap.size + 1) (1) (.int .i64 d) (by simp [go_sem, *])
    have l2_0 : w.heap.size < w2.heap.size := World.block_lt_of_cell? _ _ c2_0
    have m2_0 : w.heap.size < w2.heap.size + 1 := by omega
    have n2_0 : w.heap.size < w2.heap.size + 1 + 1 := by omega
    have x2_0 : ¬ w2.heap.size = w.heap.size := by omega
    have y2_0 : ¬ w2.heap.size + 1 = w.heap.size := by omega
    have l2_1 : w.heap.size + 1 < w2.heap.size := World.block_lt_of_cell? _ _ c2_6
    have m2_1 : w.heap.size + 1 < w2.heap.size + 1 := by omega
    have n2_1 : w.heap.size + 1 < w2.heap.size + 1 + 1 := by omega
    have x2_1 : ¬ w2.heap.size = w.heap.size + 1 := by omega
    have y2_1 : ¬ w2.heap.size + 1 = w.heap.size + 1 := by omega
    have HU2 : Hid (Up w w2) := Lib.hid (by ((repeat (first | (with_reducible exact Up.refl _) | (with_reducible exact HU1.out) | (with_reducible refine Up.trans ?_ hu2) | (with_reducible refine Up.alloc ?_ _ _) | (with_reducible refine Up.setCell ?_ ?_ _) | (with_reducible refine Up.drewN ?_ _) | (with_reducible refine Up.drew ?_))); all_goals (first | (simp; done) | (simp; omega) | omega)))
    clear hu2 c1_0 c1_1 c1_2 c1_3 c1_4 c1_5 c1_6 c1_7
    go_wp2_with fail
    go_ret
    exact ⟨by rw [HR'.out]; rfl, HU2.out⟩
  by_cases hk : 1 ≤ k
  case neg =>
    have t : decide (k < 1) = true := decide_eq_true (by omega)
    have HR' : Hid (wiB n1 d1 n2 d2 n3 d3 k n d = false) := Lib.hid (by rw [HR.out, decide_eq_false hk]; simp)
    generalize wiB n1 d1 n2 d2 n3 d3 k n d = r at *
    rw [hv] at HV
    rw [hu] at HU
    clear hv hk hu HR in1 id1 in2 id2 in3 id3 ik in_n id_d
    go_enter Try.func21, Try.ntmps21
    go_wp2_with fail
    refine (HV.out _).mono ?_
    rintro e w1 ⟨rfl, hu1⟩
    try unfold got2
    have c1_0 := hu1.keep (w.heap.size) (0) (.int .i64 n1) (by simp [go_sem, *])
    have c1_1 := hu1.keep (w.heap.size) (1) (.int .i64 d1) (by simp [go_sem, *])
    have c1_2 := hu1.keep (w.heap.size) (2) (.int .i64 n2) (by simp [go_sem, *])
    have c1_3 := hu1.keep (w.heap.size) (3) (.int .i64 d2) (by simp [go_sem, *])
    have c1_4 := hu1.keep (w.heap.size) (4) (.int .i64 n3) (by simp [go_sem, *])
    have c1_5 := hu1.keep (w.heap.size) (5) (.int .i64 d3) (by simp [go_sem, *])
    have c1_6 := hu1.keep (w.heap.size + 1) (0) (.int .i64 n) (by simp [go_sem, *])
    have c1_7 := hu1.keep (w.heap.size + 1) (1) (.int .i64 d) (by simp [go_sem, *])
    have l1_0 : w.heap.size < w1.heap.size := World.block_lt_of_cell? _ _ c1_0
    have m1_0 : w.heap.size < w1.heap.size + 1 := by omega
    have n1_0 : w.heap.size < w1.heap.size + 1 + 1 := by omega
    have x1_0 : ¬ w1.heap.size = w.heap.size := by omega
    have y1_0 : ¬ w1.heap.size + 1 = w.heap.size := by omega
    have l1_1 : w.heap.size + 1 < w1.heap.size := World.block_lt_of_cell? _ _ c1_6
    have m1_1 : w.heap.size + 1 < w1.heap.size + 1 := by omega
    have n1_1 : w.heap.size + 1 < w1.heap.size + 1 + 1 := by omega
    have x1_1 : ¬ w1.heap.size = w.heap.size + 1 := by omega
    have y1_1 : ¬ w1.heap.size + 1 = w.heap.size + 1 := by omega
    have HU1 : Hid (Up w w1) := Lib.hid (by ((repeat (first | (with_reducible exact Up.refl _) | (with_reducible refine Up.trans ?_ hu1) | (with_reducible refine Up.alloc ?_ _ _) | (with_reducible refine Up.setCell ?_ ?_ _) | (with_reducible refine Up.drewN ?_ _) | (with_reducible refine Up.drew ?_))); all_goals (first | (simp; done) | (simp; omega) | omega)))
    clear hu1
    go_wp2_with fail
    refine (HU.out _).mono ?_
    rintro e w2 ⟨rfl, hu2⟩
    try unfold got2
    have c2_0 := hu2.keep (w.heap.size) (0) (.int .i64 n1) (by simp [go_sem, *])
    have c2_1 := hu2.keep (w.heap.size) (1) (.int .i64 d1) (by simp [go_sem, *])
    have c2_2 := hu2.keep (w.heap.size) (2) (.int .i64 n2) (by simp [go_sem, *])
    have c2_3 := hu2.keep (w.heap.size) (3) (.int .i64 d2) (by simp [go_sem, *])
    have c2_4 := hu2.keep (w.heap.size) (4) (.int .i64 n3) (by simp [go_sem, *])
    have c2_5 := hu2.keep (w.heap.size) (5) (.int .i64 d3) (by simp [go_sem, *])
    have c2_6 := hu2.keep (w.heap.size + 1) (0) (.int .i64 n) (by simp [go_sem, *])
    have c2_7 := hu2.keep (w.heap.size + 1) (1) (.int .i64 d) (by simp [go_sem, *])
    have l2_0 : w.heap.size < w2.heap.size := World.block_lt_of_cell? _ _ c2_0
    have m2_0 : w.heap.size < w2.heap.size + 1 := by omega
    have n2_0 : w.heap.size < w2.heap.size + 1 + 1 := by omega
    have x2_0 : ¬ w2.heap.size = w.heap.size := by omega
    have y2_0 : ¬ w2.heap.size + 1 = w.heap.size := by omega
    have l2_1 : w.heap.size + 1 < w2.heap.size := World.block_lt_of_cell? _ _ c2_6
    have m2_1 : w.heap.size + 1 < w2.heap.size + 1 := by omega
    have n2_1 : w.heap.size + 1 < w2.heap.size + 1 + 1 := by omega
    have x2_1 : ¬ w2.heap.size = w.heap.size + 1 := by omega
    have y2_1 : ¬ w2.heap.size + 1 = w.heap.size + 1 := by omega
    have HU2 : Hid (Up w w2) := Lib.hid (by ((repeat (first | (with_reducible exact Up.refl _) | (with_reducible exact HU1.out) | (with_reducible refine Up.trans ?_ hu2) | (with_reducible refine Up.alloc ?_ _ _) | (with_reducible refine Up.setCell ?_ ?_ _) | (with_reducible refine Up.drewN ?_ _) | (with_reducible refine Up.drew ?_))); all_goals (first | (simp; done) | (simp; omega) | omega)))
    clear hu2 c1_0 c1_1 c1_2 c1_3 c1_4 c1_5 c1_6 c1_7
    go_wp2_with fail
    go_ret
    exact ⟨by rw [HR'.out]; rfl, HU2.out⟩
  by_cases hn : 0 ≤ n
  case neg =>
    have t : decide (k < 1) = false := decide_eq_false (by omega)
    have tn : decide (n < 0) = true := decide_eq_true (by omega)
    have HR' : Hid (wiB n1 d1 n2 d2 n3 d3 k n d = false) := Lib.hid (by rw [HR.out, decide_eq_false hn]; simp)
    generalize wiB n1 d1 n2 d2 n3 d3 k n d = r at *
    rw [hv] at HV
    rw [hu] at HU
    clear hv hk hu hn HR in1 id1 in2 id2 in3 id3 ik in_n id_d
    go_enter Try.func21, Try.ntmps21
    go_wp2_with fail
    refine (HV.out _).mono ?_
    rintro e w1 ⟨rfl, hu1⟩
    try unfold got2
    have c1_0 := hu1.keep (w.heap.size) (0) (.int .i64 n1) (by simp [go_sem, *])
    have c1_1 := hu1.keep (w.heap.size) (1) (.int .i64 d1) (by simp [go_sem, *])
    have c1_2 := hu1.keep (w.heap.size) (2) (.int .i64 n2) (by simp [go_sem, *])
    have c1_3 := hu1.keep (w.heap.size) (3) (.int .i64 d2) (by simp [go_sem, *])
    have c1_4 := hu1.keep (w.heap.size) (4) (.int .i64 n3) (by simp [go_sem, *])
    have c1_5 := hu1.keep (w.heap.size) (5) (.int .i64 d3) (by simp [go_sem, *])
    have c1_6 := hu1.keep (w.heap.size + 1) (0) (.int .i64 n) (by simp [go_sem, *])
    have c1_7 := hu1.keep (w.heap.size + 1) (1) (.int .i64 d) (by simp [go_sem, *])
    have l1_0 : w.heap.size < w1.heap.size := World.block_lt_of_cell? _ _ c1_0
    have m1_0 : w.heap.size < w1.heap.size + 1 := by omega
    have n1_0 : w.heap.size < w1.heap.size + 1 + 1 := by omega
    have x1_0 : ¬ w1.heap.size = w.heap.size := by omega
    have y1_0 : ¬ w1.heap.size + 1 = w.heap.size := by omega
    have l1_1 : w.heap.size + 1 < w1.heap.size := World.block_lt_of_cell? _ _ c1_6
    have m1_1 : w.heap.size + 1 < w1.heap.size + 1 := by omega
    have n1_1 : w.heap.size + 1 < w1.heap.size + 1 + 1 := by omega
    have x1_1 : ¬ w1.heap.size = w.heap.size + 1 := by omega
    have y1_1 : ¬ w1.heap.size + 1 = w.heap.size + 1 := by omega
    have HU1 : Hid (Up w w1) := Lib.hid (by ((repeat (first | (with_reducible exact Up.refl _) | (with_reducible refine Up.trans ?_ hu1) | (with_reducible refine Up.alloc ?_ _ _) | (with_reducible refine Up.setCell ?_ ?_ _) | (with_reducible refine Up.drewN ?_ _) | (with_reducible refine Up.drew ?_))); all_goals (first | (simp; done) | (simp; omega) | omega)))
    clear hu1
    go_wp2_with fail
    refine (HU.out _).mono ?_
    rintro e w2 ⟨rfl, hu2⟩
    try unfold got2
    have c2_0 := hu2.keep (w.heap.size) (0) (.int .i64 n1) (by simp [go_sem, *])
    have c2_1 := hu2.keep (w.heap.size) (1) (.int .i64 d1) (by simp [go_sem, *])
    have c2_2 := hu2.keep (w.heap.size) (2) (.int .i64 n2) (by simp [go_sem, *])
    have c2_3 := hu2.keep (w.heap.size) (3) (.int .i64 d2) (by simp [go_sem, *])
    have c2_4 := hu2.keep (w.heap.size) (4) (.int .i64 n3) (by simp [go_sem, *])
    have c2_5 := hu2.keep (w.heap.size) (5) (.int .i64 d3) (by simp [go_sem, *])
    have c2_6 := hu2.keep (w.heap.size + 1) (0) (.int .i64 n) (by simp [go_sem, *])
    have c2_7 := hu2.keep (w.heap.size + 1) (1) (.int .i64 d) (by simp [go_sem, *])
    have l2_0 : w.heap.size < w2.heap.size := World.block_lt_of_cell? _ _ c2_0
    have m2_0 : w.heap.size < w2.heap.size + 1 := by omega
    have n2_0 : w.heap.size < w2.heap.size + 1 + 1 := by omega
    have x2_0 : ¬ w2.heap.size = w.heap.size := by omega
    have y2_0 : ¬ w2.heap.size + 1 = w.heap.size := by omega
    have l2_1 : w.heap.size + 1 < w2.heap.size := World.block_lt_of_cell? _ _ c2_6
    have m2_1 : w.heap.size + 1 < w2.heap.size + 1 := by omega
    have n2_1 : w.heap.size + 1 < w2.heap.size + 1 + 1 := by omega
    have x2_1 : ¬ w2.heap.size = w.heap.size + 1 := by omega
    have y2_1 : ¬ w2.heap.size + 1 = w.heap.size + 1 := by omega
    have HU2 : Hid (Up w w2) := Lib.hid (by ((repeat (first | (with_reducible exact Up.refl _) | (with_reducible exact HU1.out) | (with_reducible refine Up.trans ?_ hu2) | (with_reducible refine Up.alloc ?_ _ _) | (with_reducible refine Up.setCell ?_ ?_ _) | (with_reducible refine Up.drewN ?_ _) | (with_reducible refine Up.drew ?_))); all_goals (first | (simp; done) | (simp; omega) | omega)))
    clear hu2 c1_0 c1_1 c1_2 c1_3 c1_4 c1_5 c1_6 c1_7
    go_wp2_with fail
    go_ret
    exact ⟨by rw [HR'.out]; rfl, HU2.out⟩
  obtain ⟨v1, v2, v3, o1, o2⟩ := bvB_of hv
  have hle := cmpR_trans v1 v2 v3 o1 o2
  rw [le_of_cmpR v1 v3] at hle
  have p1 := (validB_of v1).1
  have p3 := (validB_of v3).1
  have pd := (validB_of hu).1
  obtain ⟨iW, ways⟩ := width_ways in1 id1 in3 id3 p1 p3 hle
  have wk := word_nat (by omega) ik
  have wd := word_nat (by omega) id_d
  have w1 := word_nat (by omega) id1
  have w3 := word_nat (by omega) id3
  have wn := word_nat hn in_n
  have M1 := Lib.hid (fun W => rabs_any n1 in1 W)
  have M3 := Lib.hid (fun W => rabs_any n3 in3 W)
  have P1 := Lib.hid (fun W => rproduct_up (n1.natAbs : Int) d3 (abs_word in1) w3 W)
  have P3 := Lib.hid (fun W => rproduct_up (n3.natAbs : Int) d1 (abs_word in3) w1 W)
  have IA := Lib.hid (small_mul in1 p3 id3).1
  have IB := Lib.hid (small_mul in3 p1 id1).1
  have HW := Lib.hid iW
  have HP1 := Lib.hid (fun W => rproduct_up k d wk wd W)
  have HP2 := Lib.hid (fun W => rproduct_up d3 d1 w3 w1 W)
  have HQ1 := Lib.hid (fun W => times_v (wdZ n1 d1 n3 d3) (k * d) iW (w2_in wk wd) W)
  have HQ2 := Lib.hid (fun W => times_v n (d3 * d1) ⟨by obtain ⟨x, _⟩ := wn; omega, by obtain ⟨_, x⟩ := wn; omega⟩ (w2_in w3 w1) W)
  rw [show hiZ n = 0 by unfold hiZ; obtain ⟨x, y⟩ := wn; omega, show loZ n = n by unfold loZ; obtain ⟨x, y⟩ := wn; omega] at HQ2
  have HA := Lib.hid (fun W => ratMost_v (wdZ n1 d1 n3 d3 * (k * d)) (n * (d3 * d1)) (mul_in4 iW (w2_in wk wd)) (mul_in4 ⟨by obtain ⟨x, _⟩ := wn; omega, by obtain ⟨_, x⟩ := wn; omega⟩ (w2_in w3 w1)) W)
  have HM := Lib.hid (wiB_main hv hk hu hn)
  rw [show d1 * d3 * n = n * (d3 * d1) by rw [Int.mul_comm (d1 * d3) n, Int.mul_comm d1 d3]] at HM
  have WA := Lib.hid ways
  have t : decide (k < 1) = false := decide_eq_false (by omega)
  have tn : decide (n < 0) = false := decide_eq_false (by omega)
  have ek := u_keep (show 0 ≤ k by omega) ik
  have ed := u_keep (show 0 ≤ d by omega) id_d
  have e1 := u_keep (show 0 ≤ d1 by omega) id1
  have e3 := u_keep (show 0 ≤ d3 by omega) id3
  have en := u_keep hn in_n
  rw [hv] at HV
  rw [hu] at HU
  generalize wiB n1 d1 n2 d2 n3 d3 k n d = r at *
  generalize wdZ n1 d1 n3 d3 * (k * d) = A at *
  generalize n * (d3 * d1) = B at *
  generalize wdZ n1 d1 n3 d3 = V at *
  generalize k * d = kd at *
  generalize d3 * d1 = dd at *
  generalize decide (A ≤ B) = rr at *
  generalize (n1.natAbs : Int) * d3 = a at *
  generalize (n3.natAbs : Int) * d1 = b at *
  generalize (n1.natAbs : Int) = x1 at *
  generalize (n3.natAbs : Int) = x3 at *
  clear hv hk hu hn v1 v2 v3 o1 o2 hle p1 p3 pd iW ways wk wd w1 w3 wn HR in1 id1 in2 id2 in3 id3 ik in_n id_d
  go_enter Try.func21, Try.ntmps21
  go_wp2_with fail
  refine (HV.out _).mono ?_
  rintro e w1 ⟨rfl, hu1⟩
  try unfold got2
  have c1_0 := hu1.keep (w.heap.size) (0) (.int .i64 n1) (by simp [go_sem, *])
  have c1_1 := hu1.keep (w.heap.size) (1) (.int .i64 d1) (by simp [go_sem, *])
  have c1_2 := hu1.keep (w.heap.size) (2) (.int .i64 n2) (by simp [go_sem, *])
  have c1_3 := hu1.keep (w.heap.size) (3) (.int .i64 d2) (by simp [go_sem, *])
  have c1_4 := hu1.keep (w.heap.size) (4) (.int .i64 n3) (by simp [go_sem, *])
  have c1_5 := hu1.keep (w.heap.size) (5) (.int .i64 d3) (by simp [go_sem, *])
  have c1_6 := hu1.keep (w.heap.size + 1) (0) (.int .i64 n) (by simp [go_sem, *])
  have c1_7 := hu1.keep (w.heap.size + 1) (1) (.int .i64 d) (by simp [go_sem, *])
  have l1_0 : w.heap.size < w1.heap.size := World.block_lt_of_cell? _ _ c1_0
  have m1_0 : w.heap.size < w1.heap.size + 1 := by omega
  have n1_0 : w.heap.size < w1.heap.size + 1 + 1 := by omega
  have x1_0 : ¬ w1.heap.size = w.heap.size := by omega
  have y1_0 : ¬ w1.heap.size + 1 = w.heap.size := by omega
  have l1_1 : w.heap.size + 1 < w1.heap.size := World.block_lt_of_cell? _ _ c1_6
  have m1_1 : w.heap.size + 1 < w1.heap.size + 1 := by omega
  have n1_1 : w.heap.size + 1 < w1.heap.size + 1 + 1 := by omega
  have x1_1 : ¬ w1.heap.size = w.heap.size + 1 := by omega
  have y1_1 : ¬ w1.heap.size + 1 = w.heap.size + 1 := by omega
  have HU1 : Hid (Up w w1) := Lib.hid (by ((repeat (first | (with_reducible exact Up.refl _) | (with_reducible refine Up.trans ?_ hu1) | (with_reducible refine Up.alloc ?_ _ _) | (with_reducible refine Up.setCell ?_ ?_ _) | (with_reducible refine Up.drewN ?_ _) | (with_reducible refine Up.drew ?_))); all_goals (first | (simp; done) | (simp; omega) | omega)))
  clear hu1
  go_wp2_with fail
  refine (HU.out _).mono ?_
  rintro e w2 ⟨rfl, hu2⟩
  try unfold got2
  have c2_0 := hu2.keep (w.heap.size) (0) (.int .i64 n1) (by simp [go_sem, *])
  have c2_1 := hu2.keep (w.heap.size) (1) (.int .i64 d1) (by simp [go_sem, *])
  have c2_2 := hu2.keep (w.heap.size) (2) (.int .i64 n2) (by simp [go_sem, *])
  have c2_3 := hu2.keep (w.heap.size) (3) (.int .i64 d2) (by simp [go_sem, *])
  have c2_4 := hu2.keep (w.heap.size) (4) (.int .i64 n3) (by simp [go_sem, *])
  have c2_5 := hu2.keep (w.heap.size) (5) (.int .i64 d3) (by simp [go_sem, *])
  have c2_6 := hu2.keep (w.heap.size + 1) (0) (.int .i64 n) (by simp [go_sem, *])
  have c2_7 := hu2.keep (w.heap.size + 1) (1) (.int .i64 d) (by simp [go_sem, *])
  have l2_0 : w.heap.size < w2.heap.size := World.block_lt_of_cell? _ _ c2_0
  have m2_0 : w.heap.size < w2.heap.size + 1 := by omega
  have n2_0 : w.heap.size < w2.heap.size + 1 + 1 := by omega
  have x2_0 : ¬ w2.heap.size = w.heap.size := by omega
  have y2_0 : ¬ w2.heap.size + 1 = w.heap.size := by omega
  have l2_1 : w.heap.size + 1 < w2.heap.size := World.block_lt_of_cell? _ _ c2_6
  have m2_1 : w.heap.size + 1 < w2.heap.size + 1 := by omega
  have n2_1 : w.heap.size + 1 < w2.heap.size + 1 + 1 := by omega
  have x2_1 : ¬ w2.heap.size = w.heap.size + 1 := by omega
  have y2_1 : ¬ w2.heap.size + 1 = w.heap.size + 1 := by omega
  have HU2 : Hid (Up w w2) := Lib.hid (by ((repeat (first | (with_reducible exact Up.refl _) | (with_reducible exact HU1.out) | (with_reducible refine Up.trans ?_ hu2) | (with_reducible refine Up.alloc ?_ _ _) | (with_reducible refine Up.setCell ?_ ?_ _) | (with_reducible refine Up.drewN ?_ _) | (with_reducible refine Up.drew ?_))); all_goals (first | (simp; done) | (simp; omega) | omega)))
  clear hu2 c1_0 c1_1 c1_2 c1_3 c1_4 c1_5 c1_6 c1_7
  obtain ⟨LL, hLL⟩ : ∃ X : List (Nat × Nat × Value), X = [(w.heap.size, 0, .int .i64 n1), (w.heap.size, 1, .int .i64 d1), (w.heap.size, 2, .int .i64 n2), (w.heap.size, 3, .int .i64 d2), (w.heap.size, 4, .int .i64 n3), (w.heap.size, 5, .int .i64 d3), (w.heap.size + 1, 0, .int .i64 n), (w.heap.size + 1, 1, .int .i64 d)] := ⟨_, rfl⟩
  have HB : Hid (Bd w 1 LL w2) := Lib.hid (by
    rw [hLL]
    exact ⟨HU2.out, by simp [go_sem, *], by simp⟩)
  have HLL := Lib.hid hLL
  clear hLL
  go_upto_region 3 with fail
  go_cut [7, 8] (fun t7 t8 wx => ∃ gx gy : Nat, w.heap.size + 1 < gx ∧ w.heap.size + 1 < gy ∧ t7 = .pointer (some ⟨gx, 0, none⟩) ∧ t8 = .pointer (some ⟨gy, 0, none⟩) ∧ wx.cell? ⟨gx, 0, none⟩ = some (.int .u64 (hiZ b)) ∧ wx.cell? ⟨gx, 1, none⟩ = some (.int .u64 (loZ b)) ∧ wx.cell? ⟨gy, 0, none⟩ = some (.int .u64 (hiZ a)) ∧ wx.cell? ⟨gy, 1, none⟩ = some (.int .u64 (loZ a)) ∧ Bd w 1 LL wx)
  case first =>
    go_region_held3 (fun w' => Bd w 1 LL w' ∧ w'.cell? ⟨w.heap.size, 4, none⟩ = some (.int .i64 n3) ∧ w'.cell? ⟨w.heap.size, 1, none⟩ = some (.int .i64 d1) ∧ w'.cell? ⟨w.heap.size, 0, none⟩ = some (.int .i64 n1) ∧ w'.cell? ⟨w.heap.size, 5, none⟩ = some (.int .i64 d3))
      (first | (repeat (first | (with_reducible assumption) | (with_reducible refine wset ?_ (by omega)) | (with_reducible exact Hid.out (by assumption)) | (with_reducible exact ⟨HB.out, c2_4, c2_1, c2_0, c2_5⟩) | (with_reducible refine bkeep4 (Lib.hid ((Up.refl _).alloc _ _)) ?_) | (with_reducible refine bkeep4 (Lib.hid (Up.refl _).drew) ?_) | (with_reducible exact bkeep4 (by assumption) (by assumption)))))
      (first
        | (go_at_call 40; (with_reducible refine (M3.out _).mono ?_); rintro e w' ⟨rfl, rfl⟩)
        | (go_at_call 40; (with_reducible refine (M1.out _).mono ?_); rintro e w' ⟨rfl, rfl⟩)
        | (go_at_call 39; (with_reducible refine (P3.out _).mono ?_); rintro e w3 ⟨rfl, hu3⟩; have HU3 := Lib.hid hu3; have HS3 := Lib.hid (bkeep4 HU3 (by with_reducible assumption)); obtain ⟨hc3, hz3⟩ := hu3.cells; have hs3 := hu3.size; (try simp at hs3); clear hu3; (try (have q3_0_0 : w2.heap.size < w3.heap.size := by omega)); (try (have q3_0_1 : w2.heap.size < w3.heap.size + 1 := by omega)); (try (have q3_0_2 : w2.heap.size < w3.heap.size + 1 + 1 := by omega)); (try (have y3_0 : ¬ w3.heap.size = w2.heap.size := by omega)); (try (have yz3_0 : ¬ w3.heap.size + 1 = w2.heap.size := by omega)); (try (have q3_1_0 : w2.heap.size + 1 < w3.heap.size := by omega)); (try (have q3_1_1 : w2.heap.size + 1 < w3.heap.size + 1 := by omega)); (try (have q3_1_2 : w2.heap.size + 1 < w3.heap.size + 1 + 1 := by omega)); (try (have y3_1 : ¬ w3.heap.size = w2.heap.size + 1 := by omega)); (try (have yz3_1 : ¬ w3.heap.size + 1 = w2.heap.size + 1 := by omega)))
        | (go_at_call 39; (with_reducible refine (P1.out _).mono ?_); rintro e w4 ⟨rfl, hu4⟩; have HU4 := Lib.hid hu4; have HS4 := Lib.hid (bkeep4 HU4 (by with_reducible assumption)); obtain ⟨hc4, hz4⟩ := hu4.cells; have hs4 := hu4.size; (try simp at hs4); clear hu4; (try (have q4_0_0 : w2.heap.size < w4.heap.size := by omega)); (try (have q4_0_1 : w2.heap.size < w4.heap.size + 1 := by omega)); (try (have q4_0_2 : w2.heap.size < w4.heap.size + 1 + 1 := by omega)); (try (have y4_0 : ¬ w4.heap.size = w2.heap.size := by omega)); (try (have yz4_0 : ¬ w4.heap.size + 1 = w2.heap.size := by omega)); (try (have q4_1_0 : w2.heap.size + 1 < w4.heap.size := by omega)); (try (have q4_1_1 : w2.heap.size + 1 < w4.heap.size + 1 := by omega)); (try (have q4_1_2 : w2.heap.size + 1 < w4.heap.size + 1 + 1 := by omega)); (try (have y4_1 : ¬ w4.heap.size = w2.heap.size + 1 := by omega)); (try (have yz4_1 : ¬ w4.heap.size + 1 = w2.heap.size + 1 := by omega)); (try (have q4_2_0 : w3.heap.size < w4.heap.size := by omega)); (try (have q4_2_1 : w3.heap.size < w4.heap.size + 1 := by omega)); (try (have q4_2_2 : w3.heap.size < w4.heap.size + 1 + 1 := by omega)); (try (have y4_2 : ¬ w4.heap.size = w3.heap.size := by omega)); (try (have yz4_2 : ¬ w4.heap.size + 1 = w3.heap.size := by omega)); (try (have q4_3_0 : w3.heap.size + 1 < w4.heap.size := by omega)); (try (have q4_3_1 : w3.heap.size + 1 < w4.heap.size + 1 := by omega)); (try (have q4_3_2 : w3.heap.size + 1 < w4.heap.size + 1 + 1 := by omega)); (try (have y4_3 : ¬ w4.heap.size = w3.heap.size + 1 := by omega)); (try (have yz4_3 : ¬ w4.heap.size + 1 = w3.heap.size + 1 := by omega))))
    all_goals
      go_wp2_with fail
      go_meet
      refine ⟨_, _, ?_, ?_, rfl, rfl, ?_, ?_, ?_, ?_, And.left (by assumption)⟩
      · omega
      · omega
      all_goals (first | (simp [go_sem, *]; done) | ((have qa : w2.heap.size < w2.heap.size + 1 + 1 := by omega); (have qb : w3.heap.size < w3.heap.size + 1 + 1 := by omega); (have qc : w4.heap.size < w4.heap.size + 1 + 1 := by omega); simp [go_sem, *]; done))
  obtain ⟨gx, gy, lgx, lgy, rfl, rfl, s0, s1, t0, t1, hB⟩ := hcut
  have hk := hB.kp
  rw [HLL.out] at hk
  have a0 := hk (w.heap.size, 0, .int .i64 n1) (by simp)
  have a1 := hk (w.heap.size, 1, .int .i64 d1) (by simp)
  have a2 := hk (w.heap.size, 2, .int .i64 n2) (by simp)
  have a3 := hk (w.heap.size, 3, .int .i64 d2) (by simp)
  have a4 := hk (w.heap.size, 4, .int .i64 n3) (by simp)
  have a5 := hk (w.heap.size, 5, .int .i64 d3) (by simp)
  have b0 := hk (w.heap.size + 1, 0, .int .i64 n) (by simp)
  have b1 := hk (w.heap.size + 1, 1, .int .i64 d) (by simp)
  have HUc := Lib.hid hB.up
  have lx : gx < wc.heap.size := World.block_lt_of_cell? _ _ s0
  have ly : gy < wc.heap.size := World.block_lt_of_cell? _ _ t0
  have lb : w.heap.size + 1 < wc.heap.size := World.block_lt_of_cell? _ _ b0
  have la : w.heap.size < wc.heap.size := by omega
  clear hk hB HB HLL LL c2_0 c2_1 c2_2 c2_3 c2_4 c2_5 c2_6 c2_7
  rcases WA.out with ⟨u1, u3, e⟩ | ⟨u1, u3, e⟩ | ⟨u1, u3, e⟩
  · have e' : b + a = V := by omega
    have HS := Lib.hid (fun W => radd_v b a IB.out IA.out (by rw [e']; exact HW.out) W)
    rw [e'] at HS
    have v1 := ge_no u1
    have v3 := ge_yes u3
    clear e e' u1 u3
    go_wp2_with fail
    refine (HS.out _).mono ?_
    rintro e w5 ⟨rfl, hu5⟩
    unfold got2
    have a1' := hu5.keep (w.heap.size) 1 (.int .i64 d1) (by simp [go_sem, *])
    have a5' := hu5.keep (w.heap.size) 5 (.int .i64 d3) (by simp [go_sem, *])
    have b0' := hu5.keep (w.heap.size + 1) 0 (.int .i64 n) (by simp [go_sem, *])
    have b1' := hu5.keep (w.heap.size + 1) 1 (.int .i64 d) (by simp [go_sem, *])
    have r0 := hu5.keep (wc.heap.size) 0 (.int .u64 0) (by simp [go_sem])
    have r1 := hu5.keep (wc.heap.size) 1 (.int .u64 0) (by simp [go_sem])
    have HU5 : Hid (Up w w5) := Lib.hid (by ((repeat (first | (with_reducible exact Up.refl _) | (with_reducible exact HUc.out) | (with_reducible refine Up.trans ?_ hu5) | (with_reducible refine Up.alloc ?_ _ _) | (with_reducible refine Up.setCell ?_ ?_ _) | (with_reducible refine Up.drewN ?_ _) | (with_reducible refine Up.drew ?_))); all_goals (first | (simp; done) | (simp; omega) | omega)))
    have zr0 := HU5.out.ownGe (show w.heap.size ≤ wc.heap.size by omega) 0
    have zr1 := HU5.out.ownGe (show w.heap.size ≤ wc.heap.size by omega) 1
    have nr : ¬ wc.heap.size = w.heap.size := by omega
    have nr' : ¬ wc.heap.size = w.heap.size + 1 := by omega
    have lw : w.heap.size ≤ wc.heap.size := by omega
    clear hu5
    go_wp2_with fail
    go_region_held3 (fun w' => Up w w' ∧ w'.cell? ⟨wc.heap.size, 0, none⟩ = some (.int .u64 (hiZ V)) ∧ w'.cell? ⟨wc.heap.size, 1, none⟩ = some (.int .u64 (loZ V)) ∧ w'.cell? ⟨w.heap.size + 1, 0, none⟩ = some (.int .i64 n) ∧ w'.cell? ⟨w.heap.size + 1, 1, none⟩ = some (.int .i64 d) ∧ w'.cell? ⟨w.heap.size, 1, none⟩ = some (.int .i64 d1) ∧ w'.cell? ⟨w.heap.size, 5, none⟩ = some (.int .i64 d3))
      (first | (with_reducible exact keep6 (by assumption) (by assumption)) | (refine ⟨?_, by simp [go_sem, *], by simp [go_sem, *], by simp [go_sem, *], by simp [go_sem, *], by simp [go_sem, *], by simp [go_sem, *]⟩; ((repeat (first | (with_reducible exact Up.refl _) | (with_reducible exact HU5.out) | (with_reducible refine Up.alloc ?_ _ _) | (with_reducible refine Up.setCell ?_ ?_ _) | (with_reducible refine Up.drewN ?_ _) | (with_reducible refine Up.drew ?_))); all_goals (first | (simp; done) | (simp; omega) | omega))))
      (first
        | (go_at_call 39; (with_reducible refine (HP1.out _).mono ?_); rintro e w' ⟨rfl, hu⟩; have HU := Lib.hid hu; clear hu; (try unfold got2); (try unfold gotR))
        | (go_at_call 44; (with_reducible refine (HQ1.out _).mono ?_); rintro e w' ⟨rfl, hu⟩; have HU := Lib.hid hu; clear hu; (try unfold got2); (try unfold gotR))
        | (go_at_call 45; (with_reducible refine (rof_up n _).mono ?_); rintro e w' ⟨rfl, hu⟩; have HU := Lib.hid hu; clear hu; (try unfold got2); (try unfold gotR))
        | (go_at_call 39; (with_reducible refine (HP2.out _).mono ?_); rintro e w' ⟨rfl, hu⟩; have HU := Lib.hid hu; clear hu; (try unfold got2); (try unfold gotR))
        | (go_at_call 44; (with_reducible refine (HQ2.out _).mono ?_); rintro e w' ⟨rfl, hu⟩; have HU := Lib.hid hu; clear hu; (try unfold got2); (try unfold gotR))
        | (go_at_call 43; (with_reducible refine (HA.out _).mono ?_); rintro e w' ⟨rfl, hu⟩; have HU := Lib.hid hu; clear hu; (try unfold got2); (try unfold gotR)))
    all_goals
      go_wp2_with fail
      go_ret
      exact ⟨by rw [HM.out]; rfl, And.left (by assumption)⟩
  · have e' : a - b = V := by omega
    have HS := Lib.hid (fun W => rsub_v a b IA.out IB.out (by rw [e']; exact HW.out) W)
    rw [e'] at HS
    have v1 := ge_no u1
    have v3 := ge_no u3
    clear e e' u1 u3
    go_wp2_with fail
    refine (HS.out _).mono ?_
    rintro e w5 ⟨rfl, hu5⟩
    unfold got2
    have a1' := hu5.keep (w.heap.size) 1 (.int .i64 d1) (by simp [go_sem, *])
    have a5' := hu5.keep (w.heap.size) 5 (.int .i64 d3) (by simp [go_sem, *])
    have b0' := hu5.keep (w.heap.size + 1) 0 (.int .i64 n) (by simp [go_sem, *])
    have b1' := hu5.keep (w.heap.size + 1) 1 (.int .i64 d) (by simp [go_sem, *])
    have r0 := hu5.keep (wc.heap.size) 0 (.int .u64 0) (by simp [go_sem])
    have r1 := hu5.keep (wc.heap.size) 1 (.int .u64 0) (by simp [go_sem])
    have HU5 : Hid (Up w w5) := Lib.hid (by ((repeat (first | (with_reducible exact Up.refl _) | (with_reducible exact HUc.out) | (with_reducible refine Up.trans ?_ hu5) | (with_reducible refine Up.alloc ?_ _ _) | (with_reducible refine Up.setCell ?_ ?_ _) | (with_reducible refine Up.drewN ?_ _) | (with_reducible refine Up.drew ?_))); all_goals (first | (simp; done) | (simp; omega) | omega)))
    have zr0 := HU5.out.ownGe (show w.heap.size ≤ wc.heap.size by omega) 0
    have zr1 := HU5.out.ownGe (show w.heap.size ≤ wc.heap.size by omega) 1
    have nr : ¬ wc.heap.size = w.heap.size := by omega
    have nr' : ¬ wc.heap.size = w.heap.size + 1 := by omega
    have lw : w.heap.size ≤ wc.heap.size := by omega
    clear hu5
    go_wp2_with fail
    go_region_held3 (fun w' => Up w w' ∧ w'.cell? ⟨wc.heap.size, 0, none⟩ = some (.int .u64 (hiZ V)) ∧ w'.cell? ⟨wc.heap.size, 1, none⟩ = some (.int .u64 (loZ V)) ∧ w'.cell? ⟨w.heap.size + 1, 0, none⟩ = some (.int .i64 n) ∧ w'.cell? ⟨w.heap.size + 1, 1, none⟩ = some (.int .i64 d) ∧ w'.cell? ⟨w.heap.size, 1, none⟩ = some (.int .i64 d1) ∧ w'.cell? ⟨w.heap.size, 5, none⟩ = some (.int .i64 d3))
      (first | (with_reducible exact keep6 (by assumption) (by assumption)) | (refine ⟨?_, by simp [go_sem, *], by simp [go_sem, *], by simp [go_sem, *], by simp [go_sem, *], by simp [go_sem, *], by simp [go_sem, *]⟩; ((repeat (first | (with_reducible exact Up.refl _) | (with_reducible exact HU5.out) | (with_reducible refine Up.alloc ?_ _ _) | (with_reducible refine Up.setCell ?_ ?_ _) | (with_reducible refine Up.drewN ?_ _) | (with_reducible refine Up.drew ?_))); all_goals (first | (simp; done) | (simp; omega) | omega))))
      (first
        | (go_at_call 39; (with_reducible refine (HP1.out _).mono ?_); rintro e w' ⟨rfl, hu⟩; have HU := Lib.hid hu; clear hu; (try unfold got2); (try unfold gotR))
        | (go_at_call 44; (with_reducible refine (HQ1.out _).mono ?_); rintro e w' ⟨rfl, hu⟩; have HU := Lib.hid hu; clear hu; (try unfold got2); (try unfold gotR))
        | (go_at_call 45; (with_reducible refine (rof_up n _).mono ?_); rintro e w' ⟨rfl, hu⟩; have HU := Lib.hid hu; clear hu; (try unfold got2); (try unfold gotR))
        | (go_at_call 39; (with_reducible refine (HP2.out _).mono ?_); rintro e w' ⟨rfl, hu⟩; have HU := Lib.hid hu; clear hu; (try unfold got2); (try unfold gotR))
        | (go_at_call 44; (with_reducible refine (HQ2.out _).mono ?_); rintro e w' ⟨rfl, hu⟩; have HU := Lib.hid hu; clear hu; (try unfold got2); (try unfold gotR))
        | (go_at_call 43; (with_reducible refine (HA.out _).mono ?_); rintro e w' ⟨rfl, hu⟩; have HU := Lib.hid hu; clear hu; (try unfold got2); (try unfold gotR)))
    all_goals
      go_wp2_with fail
      go_ret
      exact ⟨by rw [HM.out]; rfl, And.left (by assumption)⟩
  · have e' : b - a = V := by omega
    have HS := Lib.hid (fun W => rsub_v b a IB.out IA.out (by rw [e']; exact HW.out) W)
    rw [e'] at HS
    have v1 := ge_yes u1
    have v3 := ge_yes u3
    clear e e' u1 u3
    go_wp2_with fail
    refine (HS.out _).mono ?_
    rintro e w5 ⟨rfl, hu5⟩
    unfold got2
    have a1' := hu5.keep (w.heap.size) 1 (.int .i64 d1) (by simp [go_sem, *])
    have a5' := hu5.keep (w.heap.size) 5 (.int .i64 d3) (by simp [go_sem, *])
    have b0' := hu5.keep (w.heap.size + 1) 0 (.int .i64 n) (by simp [go_sem, *])
    have b1' := hu5.keep (w.heap.size + 1) 1 (.int .i64 d) (by simp [go_sem, *])
    have r0 := hu5.keep (wc.heap.size) 0 (.int .u64 0) (by simp [go_sem])
    have r1 := hu5.keep (wc.heap.size) 1 (.int .u64 0) (by simp [go_sem])
    have HU5 : Hid (Up w w5) := Lib.hid (by ((repeat (first | (with_reducible exact Up.refl _) | (with_reducible exact HUc.out) | (with_reducible refine Up.trans ?_ hu5) | (with_reducible refine Up.alloc ?_ _ _) | (with_reducible refine Up.setCell ?_ ?_ _) | (with_reducible refine Up.drewN ?_ _) | (with_reducible refine Up.drew ?_))); all_goals (first | (simp; done) | (simp; omega) | omega)))
    have zr0 := HU5.out.ownGe (show w.heap.size ≤ wc.heap.size by omega) 0
    have zr1 := HU5.out.ownGe (show w.heap.size ≤ wc.heap.size by omega) 1
    have nr : ¬ wc.heap.size = w.heap.size := by omega
    have nr' : ¬ wc.heap.size = w.heap.size + 1 := by omega
    have lw : w.heap.size ≤ wc.heap.size := by omega
    clear hu5
    go_wp2_with fail
    go_region_held3 (fun w' => Up w w' ∧ w'.cell? ⟨wc.heap.size, 0, none⟩ = some (.int .u64 (hiZ V)) ∧ w'.cell? ⟨wc.heap.size, 1, none⟩ = some (.int .u64 (loZ V)) ∧ w'.cell? ⟨w.heap.size + 1, 0, none⟩ = some (.int .i64 n) ∧ w'.cell? ⟨w.heap.size + 1, 1, none⟩ = some (.int .i64 d) ∧ w'.cell? ⟨w.heap.size, 1, none⟩ = some (.int .i64 d1) ∧ w'.cell? ⟨w.heap.size, 5, none⟩ = some (.int .i64 d3))
      (first | (with_reducible exact keep6 (by assumption) (by assumption)) | (refine ⟨?_, by simp [go_sem, *], by simp [go_sem, *], by simp [go_sem, *], by simp [go_sem, *], by simp [go_sem, *], by simp [go_sem, *]⟩; ((repeat (first | (with_reducible exact Up.refl _) | (with_reducible exact HU5.out) | (with_reducible refine Up.alloc ?_ _ _) | (with_reducible refine Up.setCell ?_ ?_ _) | (with_reducible refine Up.drewN ?_ _) | (with_reducible refine Up.drew ?_))); all_goals (first | (simp; done) | (simp; omega) | omega))))
      (first
        | (go_at_call 39; (with_reducible refine (HP1.out _).mono ?_); rintro e w' ⟨rfl, hu⟩; have HU := Lib.hid hu; clear hu; (try unfold got2); (try unfold gotR))
        | (go_at_call 44; (with_reducible refine (HQ1.out _).mono ?_); rintro e w' ⟨rfl, hu⟩; have HU := Lib.hid hu; clear hu; (try unfold got2); (try unfold gotR))
        | (go_at_call 45; (with_reducible refine (rof_up n _).mono ?_); rintro e w' ⟨rfl, hu⟩; have HU := Lib.hid hu; clear hu; (try unfold got2); (try unfold gotR))
        | (go_at_call 39; (with_reducible refine (HP2.out _).mono ?_); rintro e w' ⟨rfl, hu⟩; have HU := Lib.hid hu; clear hu; (try unfold got2); (try unfold gotR))
        | (go_at_call 44; (with_reducible refine (HQ2.out _).mono ?_); rintro e w' ⟨rfl, hu⟩; have HU := Lib.hid hu; clear hu; (try unfold got2); (try unfold gotR))
        | (go_at_call 43; (with_reducible refine (HA.out _).mono ?_); rintro e w' ⟨rfl, hu⟩; have HU := Lib.hid hu; clear hu; (try unfold got2); (try unfold gotR)))
    all_goals
      go_wp2_with fail
      go_ret
      exact ⟨by rw [HM.out]; rfl, And.left (by assumption)⟩

end Go.Proofs.Ytgafcpklocccdaa
