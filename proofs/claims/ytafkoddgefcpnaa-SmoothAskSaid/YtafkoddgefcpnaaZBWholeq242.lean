/- What Whole of package bounds, and of its reference, returns; the example of the chapter. -/
import Derived.Test.YtafkoddgefcpnaaRows
import Derived.Test.YtafkoddgefcpnaaZBSmallq240
namespace Go.Proofs.Ytafkoddgefcpnaa
open Go.RowKit

theorem flos2 {a : Int} (_ : In a) : flos a 2 = a / 2 ∧ hasq a 2 = true := by
  have hq : hasq a 2 = true := hasq_yes ⟨by omega, by omega⟩
  refine ⟨?_, hq⟩
  rw [flos_yes hq]
  have e := flo_rest a 2
  have r := rest_pos a 2 (by omega)
  omega
set_option maxHeartbeats 4000000 in
set_option maxRecDepth 100000 in
theorem middle_any (lo hi : Int) (h1 : In lo) (h2 : In hi) (w : World) :
    Calls Try.prog 118 #[.int .i64 lo, .int .i64 hi] w fun e w' => e = .returned (.int .i64 (mid lo hi)) ∧ w = w' := by
  have HA := Lib.hid (fun W => rflo_any lo 2 h1 ⟨by decide, by decide⟩ W)
  have HB := Lib.hid (fun W => rflo_any hi 2 h2 ⟨by decide, by decide⟩ W)
  rw [(flos2 h1).1, (flos2 h1).2] at HA
  rw [(flos2 h2).1, (flos2 h2).2] at HB
  obtain ⟨a1, a2⟩ := h1; obtain ⟨b1, b2⟩ := h2
  have p1 : 2 * (lo / 2) ≤ lo := by omega
  have p2 : lo ≤ 2 * (lo / 2) + 1 := by omega
  have q1 : 2 * (hi / 2) ≤ hi := by omega
  have q2 : hi ≤ 2 * (hi / 2) + 1 := by omega
  generalize lo / 2 = A at *
  generalize hi / 2 = B at *
  have HM := Lib.hid (show mid lo hi = A + B + (lo - 2 * A + hi - 2 * B) / 2 by unfold mid; omega)
  have e1 : wrap64 (wrap64 (lo - 2 * A + hi) - 2 * B) = lo - 2 * A + hi - 2 * B := by unfold wrap64; omega
  have e2 : wrap64 ((lo - 2 * A + hi - 2 * B) / 2) = (lo - 2 * A + hi - 2 * B) / 2 := by unfold wrap64; omega
  have e3 : wrap64 (A + B + (lo - 2 * A + hi - 2 * B) / 2) = A + B + (lo - 2 * A + hi - 2 * B) / 2 := by unfold wrap64; omega
  have HW := Lib.hid (show mid lo hi = wrap64 (A + B + wrap64 ((wrap64 (wrap64 (lo - 2 * A + hi) - 2 * B)).tdiv 2)) by
    rw [HM.out, e1, Int.tdiv_eq_ediv_of_nonneg (by omega), e2, e3])
  clear e1 e2 e3
  go_enter Try.func118, Try.ntmps118
  go_wp2_with fail
  refine (HA.out _).mono ?_
  rintro e w' ⟨rfl, rfl⟩
  unfold got
  go_wp2_with fail
  refine (HB.out _).mono ?_
  rintro e w' ⟨rfl, rfl⟩
  unfold got
  go_wp2_with fail
  go_ret
  exact ⟨by rw [HW.out]; rfl, rfl⟩

set_option maxHeartbeats 4000000 in
set_option maxRecDepth 100000 in
theorem rwhole_up (lo hi : Int) (h1 : In lo) (h2 : In hi) (w : World) :
    Calls Try.prog 79 #[.int .i64 lo, .int .i64 hi] w fun e w' =>
      e = gotB (oz (decide (lo ≤ hi)) lo) (oz (decide (lo ≤ hi)) 1) (oz (decide (lo ≤ hi)) (mid lo hi)) (oz (decide (lo ≤ hi)) 1) (oz (decide (lo ≤ hi)) hi) (oz (decide (lo ≤ hi)) 1) (decide (lo ≤ hi)) ∧ Up w w' := by
  by_cases h : lo ≤ hi
  · have HM := Lib.hid (fun W => middle_any lo hi h1 h2 W)
    have t : decide (hi < lo) = false := decide_eq_false (by omega)
    rw [decide_eq_true h]
    clear h h1 h2
    generalize mid lo hi = q at *
    go_enter Try.func79, Try.ntmps79
    go_wp2_with fail
    refine (rofr_up lo _).mono ?_
    rintro e w1 ⟨rfl, hu1⟩
    try unfold got2
    have c1_0 := hu1.keep (w.heap.size) (0) (.int .i64 0) (by simp [go_sem, *])
    have c1_1 := hu1.keep (w.heap.size) (1) (.int .i64 0) (by simp [go_sem, *])
    have c1_2 := hu1.keep (w.heap.size) (2) (.int .i64 0) (by simp [go_sem, *])
    have c1_3 := hu1.keep (w.heap.size) (3) (.int .i64 0) (by simp [go_sem, *])
    have c1_4 := hu1.keep (w.heap.size) (4) (.int .i64 0) (by simp [go_sem, *])
    have c1_5 := hu1.keep (w.heap.size) (5) (.int .i64 0) (by simp [go_sem, *])
    have l1_0 : w.heap.size < w1.heap.size := World.block_lt_of_cell? _ _ c1_0
    have m1_0 : w.heap.size < w1.heap.size + 1 := by omega
    have n1_0 : w.heap.size < w1.heap.size + 1 + 1 := by omega
    have x1_0 : ¬ w1.heap.size = w.heap.size := by omega
    have y1_0 : ¬ w1.heap.size + 1 = w.heap.size := by omega
    have HU1 : Hid (Up w w1) := Lib.hid (by ((repeat (first | (with_reducible exact Up.refl _) | (with_reducible refine Up.trans ?_ hu1) | (with_reducible refine Up.alloc ?_ _ _) | (with_reducible refine Up.setCell ?_ ?_ _) | (with_reducible refine Up.drewN ?_ _) | (with_reducible refine Up.drew ?_))); all_goals (first | (simp; done) | (simp; omega) | omega)))
    clear hu1
    go_wp2_with fail
    refine (HM.out _).mono ?_
    rintro e w' ⟨rfl, rfl⟩
    go_wp2_with fail
    refine (rofr_up q _).mono ?_
    rintro e w2 ⟨rfl, hu2⟩
    try unfold got2
    have c2_0 := hu2.keep (w.heap.size) (0) (.int .i64 0) (by simp [go_sem, *])
    have c2_1 := hu2.keep (w.heap.size) (1) (.int .i64 0) (by simp [go_sem, *])
    have c2_2 := hu2.keep (w.heap.size) (2) (.int .i64 0) (by simp [go_sem, *])
    have c2_3 := hu2.keep (w.heap.size) (3) (.int .i64 0) (by simp [go_sem, *])
    have c2_4 := hu2.keep (w.heap.size) (4) (.int .i64 0) (by simp [go_sem, *])
    have c2_5 := hu2.keep (w.heap.size) (5) (.int .i64 0) (by simp [go_sem, *])
    have l2_0 : w.heap.size < w2.heap.size := World.block_lt_of_cell? _ _ c2_0
    have m2_0 : w.heap.size < w2.heap.size + 1 := by omega
    have n2_0 : w.heap.size < w2.heap.size + 1 + 1 := by omega
    have x2_0 : ¬ w2.heap.size = w.heap.size := by omega
    have y2_0 : ¬ w2.heap.size + 1 = w.heap.size := by omega
    have HU2 : Hid (Up w w2) := Lib.hid (by ((repeat (first | (with_reducible exact Up.refl _) | (with_reducible exact HU1.out) | (with_reducible refine Up.trans ?_ hu2) | (with_reducible refine Up.alloc ?_ _ _) | (with_reducible refine Up.setCell ?_ ?_ _) | (with_reducible refine Up.drewN ?_ _) | (with_reducible refine Up.drew ?_))); all_goals (first | (simp; done) | (simp; omega) | omega)))
    clear hu2 c1_0 c1_1 c1_2 c1_3 c1_4 c1_5
    go_wp2_with fail
    refine (rofr_up hi _).mono ?_
    rintro e w3 ⟨rfl, hu3⟩
    try unfold got2
    have c3_0 := hu3.keep (w.heap.size) (0) (.int .i64 0) (by simp [go_sem, *])
    have c3_1 := hu3.keep (w.heap.size) (1) (.int .i64 0) (by simp [go_sem, *])
    have c3_2 := hu3.keep (w.heap.size) (2) (.int .i64 0) (by simp [go_sem, *])
    have c3_3 := hu3.keep (w.heap.size) (3) (.int .i64 0) (by simp [go_sem, *])
    have c3_4 := hu3.keep (w.heap.size) (4) (.int .i64 0) (by simp [go_sem, *])
    have c3_5 := hu3.keep (w.heap.size) (5) (.int .i64 0) (by simp [go_sem, *])
    have l3_0 : w.heap.size < w3.heap.size := World.block_lt_of_cell? _ _ c3_0
    have m3_0 : w.heap.size < w3.heap.size + 1 := by omega
    have n3_0 : w.heap.size < w3.heap.size + 1 + 1 := by omega
    have x3_0 : ¬ w3.heap.size = w.heap.size := by omega
    have y3_0 : ¬ w3.heap.size + 1 = w.heap.size := by omega
    have HU3 : Hid (Up w w3) := Lib.hid (by ((repeat (first | (with_reducible exact Up.refl _) | (with_reducible exact HU2.out) | (with_reducible refine Up.trans ?_ hu3) | (with_reducible refine Up.alloc ?_ _ _) | (with_reducible refine Up.setCell ?_ ?_ _) | (with_reducible refine Up.drewN ?_ _) | (with_reducible refine Up.drew ?_))); all_goals (first | (simp; done) | (simp; omega) | omega)))
    clear hu3 c2_0 c2_1 c2_2 c2_3 c2_4 c2_5
    have z0 := own0 HU3.out 0
    have z1 := own0 HU3.out 1
    have z2 := own0 HU3.out 2
    have z3 := own0 HU3.out 3
    have z4 := own0 HU3.out 4
    have z5 := own0 HU3.out 5
    go_wp2_with fail
    refine bodyPost_ret (v := .tuple #[.agg #[.int .i64 lo, .int .i64 1, .int .i64 q, .int .i64 1, .int .i64 hi, .int .i64 1], .bool true]) (by simp [results, Try.results79, go_sem, c3_0, c3_1, c3_2, c3_3, c3_4, c3_5]) rfl ⟨?_, ?_⟩
    · rfl
    · ((repeat (first | (with_reducible exact Up.refl _) | (with_reducible exact HU3.out) | (with_reducible refine Up.alloc ?_ _ _) | (with_reducible refine Up.setCell ?_ ?_ _) | (with_reducible refine Up.drewN ?_ _) | (with_reducible refine Up.drew ?_))); all_goals (first | (simp; done) | (simp; omega) | omega))
  · have t : decide (hi < lo) = true := decide_eq_true (by omega)
    rw [decide_eq_false h]
    clear h h1 h2
    go_enter Try.func79, Try.ntmps79
    go_wp2_with fail
    refine bodyPost_ret (v := .tuple #[.agg #[.int .i64 0, .int .i64 0, .int .i64 0, .int .i64 0, .int .i64 0, .int .i64 0], .bool false]) (by simp [results, Try.results79, go_sem]) rfl ⟨?_, ?_⟩
    · rfl
    · repeat (first | exact Up.refl _ | refine Up.alloc ?_ _ _ | refine Up.setCell ?_ (by first | (simp; done) | (simp; omega) | omega) _ | refine Up.drewN ?_ _ | refine Up.drew ?_)

end Go.Proofs.Ytafkoddgefcpnaa
