/- Proved: for all rational numbers a and b the law RatioUndoes returns true: for valid numbers subtraction undoes addition and division undoes multiplication, wherever the first result fits. Conditions: none. -/
import Derived.Test.YtgkoccnnafilnaaRows
import Derived.WalkKit
import Derived.ProofKit
import Derived.OpenShut
import Derived.Lib.SmallJoins
import Derived.Test.YtgkoccnnafilnaaRArith
namespace Go.Proofs.Ytgkoccnnafilnaa
open Go.ChangeShapes Go.WideShapes Go.ChangeAt Go.RowKit Go.Joins
set_option linter.unusedVariables false

theorem ratioUndoes_own : ownKnob Try.prog.godebug = none := by kernel_rfl
theorem ratioUndoes_cellsr : Try.prog.cellsOf 23 = 2 := by kernel_rfl

theorem undo_add {n d m c : Int} (hn : In n) (hd : In d) (hv : validB n d = true) (hu : validB m c = true) (h : quoB (n * c + m * d) (d * c) = true) :
    (validB (quoN (n * c + m * d) (d * c)) (quoD (n * c + m * d) (d * c)) && validB m c) = true ∧
    quoB (quoN (n * c + m * d) (d * c) * c - m * quoD (n * c + m * d) (d * c)) (quoD (n * c + m * d) (d * c) * c) = true ∧
    quoN (quoN (n * c + m * d) (d * c) * c - m * quoD (n * c + m * d) (d * c)) (quoD (n * c + m * d) (d * c) * c) = n ∧
    quoD (quoN (n * c + m * d) (d * c) * c - m * quoD (n * c + m * d) (d * c)) (quoD (n * c + m * d) (d * c) * c) = d := by
  obtain ⟨q0, _, _, q3, q4⟩ := quo_yes h
  obtain ⟨d1, _⟩ := validB_of q3
  obtain ⟨c1, _⟩ := validB_of hu
  generalize quoN (n * c + m * d) (d * c) = N at *
  generalize quoD (n * c + m * d) (d * c) = D at *
  refine ⟨by rw [q3, hu]; rfl, quo_is ?_ hn hd hv ?_⟩
  · have := Int.mul_pos (show 0 < D by omega) (show 0 < c by omega); omega
  · rw [Int.sub_mul, show N * c * d = N * (d * c) by ac_rfl, q4, Int.add_mul, show m * D * d = m * d * D by ac_rfl, Int.add_sub_cancel]
    ac_rfl
theorem undo_mul {n d m c : Int} (hn : In n) (hd : In d) (hv : validB n d = true) (hu : validB m c = true) (hm : m ≠ 0) (h : quoB (n * m) (d * c) = true) :
    (validB (quoN (n * m) (d * c)) (quoD (n * m) (d * c)) && validB m c) = true ∧
    quoB (quoN (n * m) (d * c) * c) (quoD (n * m) (d * c) * m) = true ∧
    quoN (quoN (n * m) (d * c) * c) (quoD (n * m) (d * c) * m) = n ∧
    quoD (quoN (n * m) (d * c) * c) (quoD (n * m) (d * c) * m) = d := by
  obtain ⟨q0, _, _, q3, q4⟩ := quo_yes h
  obtain ⟨d1, _⟩ := validB_of q3
  generalize quoN (n * m) (d * c) = N at *
  generalize quoD (n * m) (d * c) = D at *
  refine ⟨by rw [q3, hu]; rfl, quo_is ?_ hn hd hv ?_⟩
  · exact Int.mul_ne_zero (by omega) hm
  · rw [show N * c * d = N * (d * c) by ac_rfl, q4]
    ac_rfl
set_option maxHeartbeats 8000000 in
set_option maxRecDepth 100000 in
theorem ratioUndoes_walk (n d m c : Int) (w0 : (Lit.int .i64 n).wf = true) (w1 : (Lit.int .i64 d).wf = true) (w2 : (Lit.int .i64 m).wf = true) (w3 : (Lit.int .i64 c).wf = true) (w : World) :
    Calls Try.prog 8 #[.agg #[.int .i64 n, .int .i64 d], .agg #[.int .i64 m, .int .i64 c]] w fun e w' => e = .returned (.bool true) ∧ Grown w w' := by
  have h0 := in_of_wf w0
  have h1 := in_of_wf w1
  have h2 := in_of_wf w2
  have h3 := in_of_wf w3
  clear w0 w1 w2 w3
  have HV := Lib.hid (fun W => rvalid_up n d h0 h1 W)
  have HU := Lib.hid (fun W => rvalid_up m c h2 h3 W)
  by_cases hv : validB n d = true
  case neg =>
    have hv' : validB n d = false := by simpa using hv
    rw [hv'] at HV
    clear hv hv' h0 h1 h2 h3
    go_enter Try.func8, Try.ntmps8
    go_wp2_with fail
    refine (HV.out _).mono ?_
    rintro e w1 ⟨rfl, hu1⟩
    try unfold got2
    have HU1 : Hid (Up w w1) := Lib.hid (by ((repeat (first | (with_reducible exact Up.refl _) | (with_reducible refine Up.trans ?_ hu1) | (with_reducible refine Up.alloc ?_ _ _) | (with_reducible refine Up.setCell ?_ ?_ _) | (with_reducible refine Up.drewN ?_ _) | (with_reducible refine Up.drew ?_))); all_goals (first | (simp; done) | (simp; omega) | omega)))
    clear hu1
    go_wp2_with fail
    refine (awaker_up _).mono ?_
    rintro e w3 ⟨rfl, hu3⟩
    go_wp2
    go_ret
    exact ⟨rfl, (HU1.out.trans hu3).grown⟩
  rw [hv] at HV
  by_cases hu : validB m c = true
  case neg =>
    have hu' : validB m c = false := by simpa using hu
    rw [hu'] at HU
    clear hu hu' hv h0 h1 h2 h3
    go_enter Try.func8, Try.ntmps8
    go_wp2_with fail
    refine (HV.out _).mono ?_
    rintro e w1 ⟨rfl, hu1⟩
    try unfold got2
    have c1_0 := hu1.keep (w.heap.size + 1) (0) (.int .i64 m) (by simp [go_sem, *])
    have c1_1 := hu1.keep (w.heap.size + 1) (1) (.int .i64 c) (by simp [go_sem, *])
    have l1_0 : w.heap.size + 1 < w1.heap.size := World.block_lt_of_cell? _ _ c1_0
    have m1_0 : w.heap.size + 1 < w1.heap.size + 1 := by omega
    have n1_0 : w.heap.size + 1 < w1.heap.size + 1 + 1 := by omega
    have x1_0 : ¬ w1.heap.size = w.heap.size + 1 := by omega
    have y1_0 : ¬ w1.heap.size + 1 = w.heap.size + 1 := by omega
    have HU1 : Hid (Up w w1) := Lib.hid (by ((repeat (first | (with_reducible exact Up.refl _) | (with_reducible refine Up.trans ?_ hu1) | (with_reducible refine Up.alloc ?_ _ _) | (with_reducible refine Up.setCell ?_ ?_ _) | (with_reducible refine Up.drewN ?_ _) | (with_reducible refine Up.drew ?_))); all_goals (first | (simp; done) | (simp; omega) | omega)))
    clear hu1
    go_wp2_with fail
    refine (HU.out _).mono ?_
    rintro e w2 ⟨rfl, hu2⟩
    try unfold got2
    have HU2 : Hid (Up w w2) := Lib.hid (by ((repeat (first | (with_reducible exact Up.refl _) | (with_reducible exact HU1.out) | (with_reducible refine Up.trans ?_ hu2) | (with_reducible refine Up.alloc ?_ _ _) | (with_reducible refine Up.setCell ?_ ?_ _) | (with_reducible refine Up.drewN ?_ _) | (with_reducible refine Up.drew ?_))); all_goals (first | (simp; done) | (simp; omega) | omega)))
    clear hu2 c1_0 c1_1
    go_wp2_with fail
    refine (awaker_up _).mono ?_
    rintro e w3 ⟨rfl, hu3⟩
    go_wp2
    go_ret
    exact ⟨rfl, (HU2.out.trans hu3).grown⟩
  rw [hu] at HU
  have hvu : (validB n d && validB m c) = true := by rw [hv, hu]; rfl
  have HA := Lib.hid (fun W => addr_up n d m c h0 h1 h2 h3 W)
  rw [hvu, v_yes] at HA
  have HM := Lib.hid (fun W => mulr_up n d m c h0 h1 h2 h3 W)
  rw [hvu, v_yes] at HM
  have HAS := Lib.hid (show quoB (n * c + m * d) (d * c) = true → ∀ W, Calls Try.prog 22 #[.agg #[.int .i64 (quoN (n * c + m * d) (d * c)), .int .i64 (quoD (n * c + m * d) (d * c))], .agg #[.int .i64 m, .int .i64 c]] W fun e w' => e = gotR n d true ∧ Up W w' from fun hB W => by
    obtain ⟨u0, u1, u2, u3⟩ := undo_add h0 h1 hv hu hB
    have h := subr_up (quoN (n * c + m * d) (d * c)) (quoD (n * c + m * d) (d * c)) m c (quo_yes hB).2.1 (quo_yes hB).2.2.1 h2 h3 W
    rw [u0, v_yes, u1, u2, u3] at h
    exact h)
  have HMD := Lib.hid (show m ≠ 0 → quoB (n * m) (d * c) = true → ∀ W, Calls Try.prog 25 #[.agg #[.int .i64 (quoN (n * m) (d * c)), .int .i64 (quoD (n * m) (d * c))], .agg #[.int .i64 m, .int .i64 c]] W fun e w' => e = gotR n d true ∧ Up W w' from fun hm hB W => by
    obtain ⟨u0, u1, u2, u3⟩ := undo_mul h0 h1 hv hu hm hB
    have h := divr_up (quoN (n * m) (d * c)) (quoD (n * m) (d * c)) m c (quo_yes hB).2.1 (quo_yes hB).2.2.1 h2 h3 W
    rw [u0, v_yes, u1, u2, u3] at h
    exact h)
  clear hv hu hvu h0 h1 h2 h3
  generalize quoN (n * c + m * d) (d * c) = N1 at *
  generalize quoD (n * c + m * d) (d * c) = D1 at *
  generalize quoB (n * c + m * d) (d * c) = B1 at *
  generalize quoN (n * m) (d * c) = N2 at *
  generalize quoD (n * m) (d * c) = D2 at *
  generalize quoB (n * m) (d * c) = B2 at *
  cases B1
  · clear HAS
    by_cases hm : m = 0
    · have tm : (m != 0) = false := bne_eq_false_iff_eq.2 hm
      clear HMD hm
      cases B2
      all_goals
        go_enter Try.func8, Try.ntmps8
        go_wp2_with fail
        refine (HV.out _).mono ?_
        rintro e w1 ⟨rfl, hu1⟩
        try unfold got2
        have c1_0 := hu1.keep (w.heap.size) (0) (.int .i64 n) (by simp [go_sem, *])
        have c1_1 := hu1.keep (w.heap.size) (1) (.int .i64 d) (by simp [go_sem, *])
        have c1_2 := hu1.keep (w.heap.size + 1) (0) (.int .i64 m) (by simp [go_sem, *])
        have c1_3 := hu1.keep (w.heap.size + 1) (1) (.int .i64 c) (by simp [go_sem, *])
        have l1_0 : w.heap.size < w1.heap.size := World.block_lt_of_cell? _ _ c1_0
        have m1_0 : w.heap.size < w1.heap.size + 1 := by omega
        have n1_0 : w.heap.size < w1.heap.size + 1 + 1 := by omega
        have x1_0 : ¬ w1.heap.size = w.heap.size := by omega
        have y1_0 : ¬ w1.heap.size + 1 = w.heap.size := by omega
        have l1_1 : w.heap.size + 1 < w1.heap.size := World.block_lt_of_cell? _ _ c1_2
        have m1_1 : w.heap.size + 1 < w1.heap.size + 1 := by omega
        have n1_1 : w.heap.size + 1 < w1.heap.size + 1 + 1 := by omega
        have x1_1 : ¬ w1.heap.size = w.heap.size + 1 := by omega
        have y1_1 : ¬ w1.heap.size + 1 = w.heap.size + 1 := by omega
        have HU1 : Hid (Up w w1) := Lib.hid (by ((repeat (first | (with_reducible exact Up.refl _) | (with_reducible refine Up.trans ?_ hu1) | (with_reducible refine Up.alloc ?_ _ _) | (with_reducible refine Up.setCell ?_ ?_ _) | (with_reducible refine Up.drewN ?_ _) | (with_reducible refine Up.drew ?_))); all_goals (first | (simp; done) | (simp; omega) | omega)))
        clear hu1
        go_wp2_with fail
        refine (HU.out _).mono ?_
        rintro e w2 ⟨rfl, hu2⟩
        try unfold got2
        have c2_0 := hu2.keep (w.heap.size) (0) (.int .i64 n) (by simp [go_sem, *])
        have c2_1 := hu2.keep (w.heap.size) (1) (.int .i64 d) (by simp [go_sem, *])
        have c2_2 := hu2.keep (w.heap.size + 1) (0) (.int .i64 m) (by simp [go_sem, *])
        have c2_3 := hu2.keep (w.heap.size + 1) (1) (.int .i64 c) (by simp [go_sem, *])
        have l2_0 : w.heap.size < w2.heap.size := World.block_lt_of_cell? _ _ c2_0
        have m2_0 : w.heap.size < w2.heap.size + 1 := by omega
        have n2_0 : w.heap.size < w2.heap.size + 1 + 1 := by omega
        have x2_0 : ¬ w2.heap.size = w.heap.size := by omega
        have y2_0 : ¬ w2.heap.size + 1 = w.heap.size := by omega
        have l2_1 : w.heap.size + 1 < w2.heap.size := World.block_lt_of_cell? _ _ c2_2
        have m2_1 : w.heap.size + 1 < w2.heap.size + 1 := by omega
        have n2_1 : w.heap.size + 1 < w2.heap.size + 1 + 1 := by omega
        have x2_1 : ¬ w2.heap.size = w.heap.size + 1 := by omega
        have y2_1 : ¬ w2.heap.size + 1 = w.heap.size + 1 := by omega
        have HU2 : Hid (Up w w2) := Lib.hid (by ((repeat (first | (with_reducible exact Up.refl _) | (with_reducible exact HU1.out) | (with_reducible refine Up.trans ?_ hu2) | (with_reducible refine Up.alloc ?_ _ _) | (with_reducible refine Up.setCell ?_ ?_ _) | (with_reducible refine Up.drewN ?_ _) | (with_reducible refine Up.drew ?_))); all_goals (first | (simp; done) | (simp; omega) | omega)))
        clear hu2 c1_0 c1_1 c1_2 c1_3
        go_wp2_with fail
        refine (HA.out _).mono ?_
        rintro e w3 ⟨rfl, hu3⟩
        try unfold got2
        have c3_0 := hu3.keep (w.heap.size) (0) (.int .i64 n) (by simp [go_sem, *])
        have c3_1 := hu3.keep (w.heap.size) (1) (.int .i64 d) (by simp [go_sem, *])
        have c3_2 := hu3.keep (w.heap.size + 1) (0) (.int .i64 m) (by simp [go_sem, *])
        have c3_3 := hu3.keep (w.heap.size + 1) (1) (.int .i64 c) (by simp [go_sem, *])
        have l3_0 : w.heap.size < w3.heap.size := World.block_lt_of_cell? _ _ c3_0
        have m3_0 : w.heap.size < w3.heap.size + 1 := by omega
        have n3_0 : w.heap.size < w3.heap.size + 1 + 1 := by omega
        have x3_0 : ¬ w3.heap.size = w.heap.size := by omega
        have y3_0 : ¬ w3.heap.size + 1 = w.heap.size := by omega
        have l3_1 : w.heap.size + 1 < w3.heap.size := World.block_lt_of_cell? _ _ c3_2
        have m3_1 : w.heap.size + 1 < w3.heap.size + 1 := by omega
        have n3_1 : w.heap.size + 1 < w3.heap.size + 1 + 1 := by omega
        have x3_1 : ¬ w3.heap.size = w.heap.size + 1 := by omega
        have y3_1 : ¬ w3.heap.size + 1 = w.heap.size + 1 := by omega
        have HU3 : Hid (Up w w3) := Lib.hid (by ((repeat (first | (with_reducible exact Up.refl _) | (with_reducible exact HU2.out) | (with_reducible refine Up.trans ?_ hu3) | (with_reducible refine Up.alloc ?_ _ _) | (with_reducible refine Up.setCell ?_ ?_ _) | (with_reducible refine Up.drewN ?_ _) | (with_reducible refine Up.drew ?_))); all_goals (first | (simp; done) | (simp; omega) | omega)))
        clear hu3 c2_0 c2_1 c2_2 c2_3
        unfold gotR
        go_wp2_with fail
        refine (HM.out _).mono ?_
        rintro e w4 ⟨rfl, hu4⟩
        try unfold got2
        have c4_0 := hu4.keep (w.heap.size) (0) (.int .i64 n) (by simp [go_sem, *])
        have c4_1 := hu4.keep (w.heap.size) (1) (.int .i64 d) (by simp [go_sem, *])
        have c4_2 := hu4.keep (w.heap.size + 1) (0) (.int .i64 m) (by simp [go_sem, *])
        have c4_3 := hu4.keep (w.heap.size + 1) (1) (.int .i64 c) (by simp [go_sem, *])
        have l4_0 : w.heap.size < w4.heap.size := World.block_lt_of_cell? _ _ c4_0
        have m4_0 : w.heap.size < w4.heap.size + 1 := by omega
        have n4_0 : w.heap.size < w4.heap.size + 1 + 1 := by omega
        have x4_0 : ¬ w4.heap.size = w.heap.size := by omega
        have y4_0 : ¬ w4.heap.size + 1 = w.heap.size := by omega
        have l4_1 : w.heap.size + 1 < w4.heap.size := World.block_lt_of_cell? _ _ c4_2
        have m4_1 : w.heap.size + 1 < w4.heap.size + 1 := by omega
        have n4_1 : w.heap.size + 1 < w4.heap.size + 1 + 1 := by omega
        have x4_1 : ¬ w4.heap.size = w.heap.size + 1 := by omega
        have y4_1 : ¬ w4.heap.size + 1 = w.heap.size + 1 := by omega
        have HU4 : Hid (Up w w4) := Lib.hid (by ((repeat (first | (with_reducible exact Up.refl _) | (with_reducible exact HU3.out) | (with_reducible refine Up.trans ?_ hu4) | (with_reducible refine Up.alloc ?_ _ _) | (with_reducible refine Up.setCell ?_ ?_ _) | (with_reducible refine Up.drewN ?_ _) | (with_reducible refine Up.drew ?_))); all_goals (first | (simp; done) | (simp; omega) | omega)))
        clear hu4 c3_0 c3_1 c3_2 c3_3
        unfold gotR
        go_wp2_with fail
        refine (awaker_up _).mono ?_
        rintro e w5 ⟨rfl, hu5⟩
        go_wp2
        go_ret
        refine ⟨rfl, Up.grown ?_⟩
        ((repeat (first | (with_reducible exact Up.refl _) | (with_reducible exact HU4.out) | (with_reducible refine Up.trans ?_ hu5) | (with_reducible refine Up.alloc ?_ _ _) | (with_reducible refine Up.setCell ?_ ?_ _) | (with_reducible refine Up.drewN ?_ _) | (with_reducible refine Up.drew ?_))); all_goals (first | (simp; done) | (simp; omega) | omega))
    · have tm : (m != 0) = true := bne_iff_ne.2 hm
      cases B2
      · clear HMD hm
        go_enter Try.func8, Try.ntmps8
        go_wp2_with fail
        refine (HV.out _).mono ?_
        rintro e w1 ⟨rfl, hu1⟩
        try unfold got2
        have c1_0 := hu1.keep (w.heap.size) (0) (.int .i64 n) (by simp [go_sem, *])
        have c1_1 := hu1.keep (w.heap.size) (1) (.int .i64 d) (by simp [go_sem, *])
        have c1_2 := hu1.keep (w.heap.size + 1) (0) (.int .i64 m) (by simp [go_sem, *])
        have c1_3 := hu1.keep (w.heap.size + 1) (1) (.int .i64 c) (by simp [go_sem, *])
        have l1_0 : w.heap.size < w1.heap.size := World.block_lt_of_cell? _ _ c1_0
        have m1_0 : w.heap.size < w1.heap.size + 1 := by omega
        have n1_0 : w.heap.size < w1.heap.size + 1 + 1 := by omega
        have x1_0 : ¬ w1.heap.size = w.heap.size := by omega
        have y1_0 : ¬ w1.heap.size + 1 = w.heap.size := by omega
        have l1_1 : w.heap.size + 1 < w1.heap.size := World.block_lt_of_cell? _ _ c1_2
        have m1_1 : w.heap.size + 1 < w1.heap.size + 1 := by omega
        have n1_1 : w.heap.size + 1 < w1.heap.size + 1 + 1 := by omega
        have x1_1 : ¬ w1.heap.size = w.heap.size + 1 := by omega
        have y1_1 : ¬ w1.heap.size + 1 = w.heap.size + 1 := by omega
        have HU1 : Hid (Up w w1) := Lib.hid (by ((repeat (first | (with_reducible exact Up.refl _) | (with_reducible refine Up.trans ?_ hu1) | (with_reducible refine Up.alloc ?_ _ _) | (with_reducible refine Up.setCell ?_ ?_ _) | (with_reducible refine Up.drewN ?_ _) | (with_reducible refine Up.drew ?_))); all_goals (first | (simp; done) | (simp; omega) | omega)))
        clear hu1
        go_wp2_with fail
        refine (HU.out _).mono ?_
        rintro e w2 ⟨rfl, hu2⟩
        try unfold got2
        have c2_0 := hu2.keep (w.heap.size) (0) (.int .i64 n) (by simp [go_sem, *])
        have c2_1 := hu2.keep (w.heap.size) (1) (.int .i64 d) (by simp [go_sem, *])
        have c2_2 := hu2.keep (w.heap.size + 1) (0) (.int .i64 m) (by simp [go_sem, *])
        have c2_3 := hu2.keep (w.heap.size + 1) (1) (.int .i64 c) (by simp [go_sem, *])
        have l2_0 : w.heap.size < w2.heap.size := World.block_lt_of_cell? _ _ c2_0
        have m2_0 : w.heap.size < w2.heap.size + 1 := by omega
        have n2_0 : w.heap.size < w2.heap.size + 1 + 1 := by omega
        have x2_0 : ¬ w2.heap.size = w.heap.size := by omega
        have y2_0 : ¬ w2.heap.size + 1 = w.heap.size := by omega
        have l2_1 : w.heap.size + 1 < w2.heap.size := World.block_lt_of_cell? _ _ c2_2
        have m2_1 : w.heap.size + 1 < w2.heap.size + 1 := by omega
        have n2_1 : w.heap.size + 1 < w2.heap.size + 1 + 1 := by omega
        have x2_1 : ¬ w2.heap.size = w.heap.size + 1 := by omega
        have y2_1 : ¬ w2.heap.size + 1 = w.heap.size + 1 := by omega
        have HU2 : Hid (Up w w2) := Lib.hid (by ((repeat (first | (with_reducible exact Up.refl _) | (with_reducible exact HU1.out) | (with_reducible refine Up.trans ?_ hu2) | (with_reducible refine Up.alloc ?_ _ _) | (with_reducible refine Up.setCell ?_ ?_ _) | (with_reducible refine Up.drewN ?_ _) | (with_reducible refine Up.drew ?_))); all_goals (first | (simp; done) | (simp; omega) | omega)))
        clear hu2 c1_0 c1_1 c1_2 c1_3
        go_wp2_with fail
        refine (HA.out _).mono ?_
        rintro e w3 ⟨rfl, hu3⟩
        try unfold got2
        have c3_0 := hu3.keep (w.heap.size) (0) (.int .i64 n) (by simp [go_sem, *])
        have c3_1 := hu3.keep (w.heap.size) (1) (.int .i64 d) (by simp [go_sem, *])
        have c3_2 := hu3.keep (w.heap.size + 1) (0) (.int .i64 m) (by simp [go_sem, *])
        have c3_3 := hu3.keep (w.heap.size + 1) (1) (.int .i64 c) (by simp [go_sem, *])
        have l3_0 : w.heap.size < w3.heap.size := World.block_lt_of_cell? _ _ c3_0
        have m3_0 : w.heap.size < w3.heap.size + 1 := by omega
        have n3_0 : w.heap.size < w3.heap.size + 1 + 1 := by omega
        have x3_0 : ¬ w3.heap.size = w.heap.size := by omega
        have y3_0 : ¬ w3.heap.size + 1 = w.heap.size := by omega
        have l3_1 : w.heap.size + 1 < w3.heap.size := World.block_lt_of_cell? _ _ c3_2
        have m3_1 : w.heap.size + 1 < w3.heap.size + 1 := by omega
        have n3_1 : w.heap.size + 1 < w3.heap.size + 1 + 1 := by omega
        have x3_1 : ¬ w3.heap.size = w.heap.size + 1 := by omega
        have y3_1 : ¬ w3.heap.size + 1 = w.heap.size + 1 := by omega
        have HU3 : Hid (Up w w3) := Lib.hid (by ((repeat (first | (with_reducible exact Up.refl _) | (with_reducible exact HU2.out) | (with_reducible refine Up.trans ?_ hu3) | (with_reducible refine Up.alloc ?_ _ _) | (with_reducible refine Up.setCell ?_ ?_ _) | (with_reducible refine Up.drewN ?_ _) | (with_reducible refine Up.drew ?_))); all_goals (first | (simp; done) | (simp; omega) | omega)))
        clear hu3 c2_0 c2_1 c2_2 c2_3
        unfold gotR
        go_wp2_with fail
        refine (HM.out _).mono ?_
        rintro e w4 ⟨rfl, hu4⟩
        try unfold got2
        have c4_0 := hu4.keep (w.heap.size) (0) (.int .i64 n) (by simp [go_sem, *])
        have c4_1 := hu4.keep (w.heap.size) (1) (.int .i64 d) (by simp [go_sem, *])
        have c4_2 := hu4.keep (w.heap.size + 1) (0) (.int .i64 m) (by simp [go_sem, *])
        have c4_3 := hu4.keep (w.heap.size + 1) (1) (.int .i64 c) (by simp [go_sem, *])
        have l4_0 : w.heap.size < w4.heap.size := World.block_lt_of_cell? _ _ c4_0
        have m4_0 : w.heap.size < w4.heap.size + 1 := by omega
        have n4_0 : w.heap.size < w4.heap.size + 1 + 1 := by omega
        have x4_0 : ¬ w4.heap.size = w.heap.size := by omega
        have y4_0 : ¬ w4.heap.size + 1 = w.heap.size := by omega
        have l4_1 : w.heap.size + 1 < w4.heap.size := World.block_lt_of_cell? _ _ c4_2
        have m4_1 : w.heap.size + 1 < w4.heap.size + 1 := by omega
        have n4_1 : w.heap.size + 1 < w4.heap.size + 1 + 1 := by omega
        have x4_1 : ¬ w4.heap.size = w.heap.size + 1 := by omega
        have y4_1 : ¬ w4.heap.size + 1 = w.heap.size + 1 := by omega
        have HU4 : Hid (Up w w4) := Lib.hid (by ((repeat (first | (with_reducible exact Up.refl _) | (with_reducible exact HU3.out) | (with_reducible refine Up.trans ?_ hu4) | (with_reducible refine Up.alloc ?_ _ _) | (with_reducible refine Up.setCell ?_ ?_ _) | (with_reducible refine Up.drewN ?_ _) | (with_reducible refine Up.drew ?_))); all_goals (first | (simp; done) | (simp; omega) | omega)))
        clear hu4 c3_0 c3_1 c3_2 c3_3
        unfold gotR
        go_wp2_with fail
        refine (awaker_up _).mono ?_
        rintro e w5 ⟨rfl, hu5⟩
        go_wp2
        go_ret
        refine ⟨rfl, Up.grown ?_⟩
        ((repeat (first | (with_reducible exact Up.refl _) | (with_reducible exact HU4.out) | (with_reducible refine Up.trans ?_ hu5) | (with_reducible refine Up.alloc ?_ _ _) | (with_reducible refine Up.setCell ?_ ?_ _) | (with_reducible refine Up.drewN ?_ _) | (with_reducible refine Up.drew ?_))); all_goals (first | (simp; done) | (simp; omega) | omega))
      · have HD := Lib.hid (HMD.out hm rfl)
        clear HMD hm
        go_enter Try.func8, Try.ntmps8
        go_wp2_with fail
        refine (HV.out _).mono ?_
        rintro e w1 ⟨rfl, hu1⟩
        try unfold got2
        have c1_0 := hu1.keep (w.heap.size) (0) (.int .i64 n) (by simp [go_sem, *])
        have c1_1 := hu1.keep (w.heap.size) (1) (.int .i64 d) (by simp [go_sem, *])
        have c1_2 := hu1.keep (w.heap.size + 1) (0) (.int .i64 m) (by simp [go_sem, *])
        have c1_3 := hu1.keep (w.heap.size + 1) (1) (.int .i64 c) (by simp [go_sem, *])
        have l1_0 : w.heap.size < w1.heap.size := World.block_lt_of_cell? _ _ c1_0
        have m1_0 : w.heap.size < w1.heap.size + 1 := by omega
        have n1_0 : w.heap.size < w1.heap.size + 1 + 1 := by omega
        have x1_0 : ¬ w1.heap.size = w.heap.size := by omega
        have y1_0 : ¬ w1.heap.size + 1 = w.heap.size := by omega
        have l1_1 : w.heap.size + 1 < w1.heap.size := World.block_lt_of_cell? _ _ c1_2
        have m1_1 : w.heap.size + 1 < w1.heap.size + 1 := by omega
        have n1_1 : w.heap.size + 1 < w1.heap.size + 1 + 1 := by omega
        have x1_1 : ¬ w1.heap.size = w.heap.size + 1 := by omega
        have y1_1 : ¬ w1.heap.size + 1 = w.heap.size + 1 := by omega
        have HU1 : Hid (Up w w1) := Lib.hid (by ((repeat (first | (with_reducible exact Up.refl _) | (with_reducible refine Up.trans ?_ hu1) | (with_reducible refine Up.alloc ?_ _ _) | (with_reducible refine Up.setCell ?_ ?_ _) | (with_reducible refine Up.drewN ?_ _) | (with_reducible refine Up.drew ?_))); all_goals (first | (simp; done) | (simp; omega) | omega)))
        clear hu1
        go_wp2_with fail
        refine (HU.out _).mono ?_
        rintro e w2 ⟨rfl, hu2⟩
        try unfold got2
        have c2_0 := hu2.keep (w.heap.size) (0) (.int .i64 n) (by simp [go_sem, *])
        have c2_1 := hu2.keep (w.heap.size) (1) (.int .i64 d) (by simp [go_sem, *])
        have c2_2 := hu2.keep (w.heap.size + 1) (0) (.int .i64 m) (by simp [go_sem, *])
        have c2_3 := hu2.keep (w.heap.size + 1) (1) (.int .i64 c) (by simp [go_sem, *])
        have l2_0 : w.heap.size < w2.heap.size := World.block_lt_of_cell? _ _ c2_0
        have m2_0 : w.heap.size < w2.heap.size + 1 := by omega
        have n2_0 : w.heap.size < w2.heap.size + 1 + 1 := by omega
        have x2_0 : ¬ w2.heap.size = w.heap.size := by omega
        have y2_0 : ¬ w2.heap.size + 1 = w.heap.size := by omega
        have l2_1 : w.heap.size + 1 < w2.heap.size := World.block_lt_of_cell? _ _ c2_2
        have m2_1 : w.heap.size + 1 < w2.heap.size + 1 := by omega
        have n2_1 : w.heap.size + 1 < w2.heap.size + 1 + 1 := by omega
        have x2_1 : ¬ w2.heap.size = w.heap.size + 1 := by omega
        have y2_1 : ¬ w2.heap.size + 1 = w.heap.size + 1 := by omega
        have HU2 : Hid (Up w w2) := Lib.hid (by ((repeat (first | (with_reducible exact Up.refl _) | (with_reducible exact HU1.out) | (with_reducible refine Up.trans ?_ hu2) | (with_reducible refine Up.alloc ?_ _ _) | (with_reducible refine Up.setCell ?_ ?_ _) | (with_reducible refine Up.drewN ?_ _) | (with_reducible refine Up.drew ?_))); all_goals (first | (simp; done) | (simp; omega) | omega)))
        clear hu2 c1_0 c1_1 c1_2 c1_3
        go_wp2_with fail
        refine (HA.out _).mono ?_
        rintro e w3 ⟨rfl, hu3⟩
        try unfold got2
        have c3_0 := hu3.keep (w.heap.size) (0) (.int .i64 n) (by simp [go_sem, *])
        have c3_1 := hu3.keep (w.heap.size) (1) (.int .i64 d) (by simp [go_sem, *])
        have c3_2 := hu3.keep (w.heap.size + 1) (0) (.int .i64 m) (by simp [go_sem, *])
        have c3_3 := hu3.keep (w.heap.size + 1) (1) (.int .i64 c) (by simp [go_sem, *])
        have l3_0 : w.heap.size < w3.heap.size := World.block_lt_of_cell? _ _ c3_0
        have m3_0 : w.heap.size < w3.heap.size + 1 := by omega
        have n3_0 : w.heap.size < w3.heap.size + 1 + 1 := by omega
        have x3_0 : ¬ w3.heap.size = w.heap.size := by omega
        have y3_0 : ¬ w3.heap.size + 1 = w.heap.size := by omega
        have l3_1 : w.heap.size + 1 < w3.heap.size := World.block_lt_of_cell? _ _ c3_2
        have m3_1 : w.heap.size + 1 < w3.heap.size + 1 := by omega
        have n3_1 : w.heap.size + 1 < w3.heap.size + 1 + 1 := by omega
        have x3_1 : ¬ w3.heap.size = w.heap.size + 1 := by omega
        have y3_1 : ¬ w3.heap.size + 1 = w.heap.size + 1 := by omega
        have HU3 : Hid (Up w w3) := Lib.hid (by ((repeat (first | (with_reducible exact Up.refl _) | (with_reducible exact HU2.out) | (with_reducible refine Up.trans ?_ hu3) | (with_reducible refine Up.alloc ?_ _ _) | (with_reducible refine Up.setCell ?_ ?_ _) | (with_reducible refine Up.drewN ?_ _) | (with_reducible refine Up.drew ?_))); all_goals (first | (simp; done) | (simp; omega) | omega)))
        clear hu3 c2_0 c2_1 c2_2 c2_3
        unfold gotR
        go_wp2_with fail
        refine (HM.out _).mono ?_
        rintro e w4 ⟨rfl, hu4⟩
        try unfold got2
        have c4_0 := hu4.keep (w.heap.size) (0) (.int .i64 n) (by simp [go_sem, *])
        have c4_1 := hu4.keep (w.heap.size) (1) (.int .i64 d) (by simp [go_sem, *])
        have c4_2 := hu4.keep (w.heap.size + 1) (0) (.int .i64 m) (by simp [go_sem, *])
        have c4_3 := hu4.keep (w.heap.size + 1) (1) (.int .i64 c) (by simp [go_sem, *])
        have l4_0 : w.heap.size < w4.heap.size := World.block_lt_of_cell? _ _ c4_0
        have m4_0 : w.heap.size < w4.heap.size + 1 := by omega
        have n4_0 : w.heap.size < w4.heap.size + 1 + 1 := by omega
        have x4_0 : ¬ w4.heap.size = w.heap.size := by omega
        have y4_0 : ¬ w4.heap.size + 1 = w.heap.size := by omega
        have l4_1 : w.heap.size + 1 < w4.heap.size := World.block_lt_of_cell? _ _ c4_2
        have m4_1 : w.heap.size + 1 < w4.heap.size + 1 := by omega
        have n4_1 : w.heap.size + 1 < w4.heap.size + 1 + 1 := by omega
        have x4_1 : ¬ w4.heap.size = w.heap.size + 1 := by omega
        have y4_1 : ¬ w4.heap.size + 1 = w.heap.size + 1 := by omega
        have HU4 : Hid (Up w w4) := Lib.hid (by ((repeat (first | (with_reducible exact Up.refl _) | (with_reducible exact HU3.out) | (with_reducible refine Up.trans ?_ hu4) | (with_reducible refine Up.alloc ?_ _ _) | (with_reducible refine Up.setCell ?_ ?_ _) | (with_reducible refine Up.drewN ?_ _) | (with_reducible refine Up.drew ?_))); all_goals (first | (simp; done) | (simp; omega) | omega)))
        clear hu4 c3_0 c3_1 c3_2 c3_3
        unfold gotR
        go_wp2_with fail
        refine (HD.out _).mono ?_
        rintro e w5 ⟨rfl, hu5⟩
        try unfold got2
        have c5_0 := hu5.keep (w.heap.size) (0) (.int .i64 n) (by simp [go_sem, *])
        have c5_1 := hu5.keep (w.heap.size) (1) (.int .i64 d) (by simp [go_sem, *])
        have c5_2 := hu5.keep (w.heap.size + 1) (0) (.int .i64 m) (by simp [go_sem, *])
        have c5_3 := hu5.keep (w.heap.size + 1) (1) (.int .i64 c) (by simp [go_sem, *])
        have l5_0 : w.heap.size < w5.heap.size := World.block_lt_of_cell? _ _ c5_0
        have m5_0 : w.heap.size < w5.heap.size + 1 := by omega
        have n5_0 : w.heap.size < w5.heap.size + 1 + 1 := by omega
        have x5_0 : ¬ w5.heap.size = w.heap.size := by omega
        have y5_0 : ¬ w5.heap.size + 1 = w.heap.size := by omega
        have l5_1 : w.heap.size + 1 < w5.heap.size := World.block_lt_of_cell? _ _ c5_2
        have m5_1 : w.heap.size + 1 < w5.heap.size + 1 := by omega
        have n5_1 : w.heap.size + 1 < w5.heap.size + 1 + 1 := by omega
        have x5_1 : ¬ w5.heap.size = w.heap.size + 1 := by omega
        have y5_1 : ¬ w5.heap.size + 1 = w.heap.size + 1 := by omega
        have HU5 : Hid (Up w w5) := Lib.hid (by ((repeat (first | (with_reducible exact Up.refl _) | (with_reducible exact HU4.out) | (with_reducible refine Up.trans ?_ hu5) | (with_reducible refine Up.alloc ?_ _ _) | (with_reducible refine Up.setCell ?_ ?_ _) | (with_reducible refine Up.drewN ?_ _) | (with_reducible refine Up.drew ?_))); all_goals (first | (simp; done) | (simp; omega) | omega)))
        clear hu5 c4_0 c4_1 c4_2 c4_3
        unfold gotR
        go_wp2_with fail
        refine (awaker_up _).mono ?_
        rintro e w6 ⟨rfl, hu6⟩
        go_wp2
        go_ret
        refine ⟨rfl, Up.grown ?_⟩
        ((repeat (first | (with_reducible exact Up.refl _) | (with_reducible exact HU5.out) | (with_reducible refine Up.trans ?_ hu6) | (with_reducible refine Up.alloc ?_ _ _) | (with_reducible refine Up.setCell ?_ ?_ _) | (with_reducible refine Up.drewN ?_ _) | (with_reducible refine Up.drew ?_))); all_goals (first | (simp; done) | (simp; omega) | omega))
  · have HS := Lib.hid (HAS.out rfl)
    clear HAS
    by_cases hm : m = 0
    · have tm : (m != 0) = false := bne_eq_false_iff_eq.2 hm
      clear HMD hm
      cases B2
      all_goals
        go_enter Try.func8, Try.ntmps8
        go_wp2_with fail
        refine (HV.out _).mono ?_
        rintro e w1 ⟨rfl, hu1⟩
        try unfold got2
        have c1_0 := hu1.keep (w.heap.size) (0) (.int .i64 n) (by simp [go_sem, *])
        have c1_1 := hu1.keep (w.heap.size) (1) (.int .i64 d) (by simp [go_sem, *])
        have c1_2 := hu1.keep (w.heap.size + 1) (0) (.int .i64 m) (by simp [go_sem, *])
        have c1_3 := hu1.keep (w.heap.size + 1) (1) (.int .i64 c) (by simp [go_sem, *])
        have l1_0 : w.heap.size < w1.heap.size := World.block_lt_of_cell? _ _ c1_0
        have m1_0 : w.heap.size < w1.heap.size + 1 := by omega
        have n1_0 : w.heap.size < w1.heap.size + 1 + 1 := by omega
        have x1_0 : ¬ w1.heap.size = w.heap.size := by omega
        have y1_0 : ¬ w1.heap.size + 1 = w.heap.size := by omega
        have l1_1 : w.heap.size + 1 < w1.heap.size := World.block_lt_of_cell? _ _ c1_2
        have m1_1 : w.heap.size + 1 < w1.heap.size + 1 := by omega
        have n1_1 : w.heap.size + 1 < w1.heap.size + 1 + 1 := by omega
        have x1_1 : ¬ w1.heap.size = w.heap.size + 1 := by omega
        have y1_1 : ¬ w1.heap.size + 1 = w.heap.size + 1 := by omega
        have HU1 : Hid (Up w w1) := Lib.hid (by ((repeat (first | (with_reducible exact Up.refl _) | (with_reducible refine Up.trans ?_ hu1) | (with_reducible refine Up.alloc ?_ _ _) | (with_reducible refine Up.setCell ?_ ?_ _) | (with_reducible refine Up.drewN ?_ _) | (with_reducible refine Up.drew ?_))); all_goals (first | (simp; done) | (simp; omega) | omega)))
        clear hu1
        go_wp2_with fail
        refine (HU.out _).mono ?_
        rintro e w2 ⟨rfl, hu2⟩
        try unfold got2
        have c2_0 := hu2.keep (w.heap.size) (0) (.int .i64 n) (by simp [go_sem, *])
        have c2_1 := hu2.keep (w.heap.size) (1) (.int .i64 d) (by simp [go_sem, *])
        have c2_2 := hu2.keep (w.heap.size + 1) (0) (.int .i64 m) (by simp [go_sem, *])
        have c2_3 := hu2.keep (w.heap.size + 1) (1) (.int .i64 c) (by simp [go_sem, *])
        have l2_0 : w.heap.size < w2.heap.size := World.block_lt_of_cell? _ _ c2_0
        have m2_0 : w.heap.size < w2.heap.size + 1 := by omega
        have n2_0 : w.heap.size < w2.heap.size + 1 + 1 := by omega
        have x2_0 : ¬ w2.heap.size = w.heap.size := by omega
        have y2_0 : ¬ w2.heap.size + 1 = w.heap.size := by omega
        have l2_1 : w.heap.size + 1 < w2.heap.size := World.block_lt_of_cell? _ _ c2_2
        have m2_1 : w.heap.size + 1 < w2.heap.size + 1 := by omega
        have n2_1 : w.heap.size + 1 < w2.heap.size + 1 + 1 := by omega
        have x2_1 : ¬ w2.heap.size = w.heap.size + 1 := by omega
        have y2_1 : ¬ w2.heap.size + 1 = w.heap.size + 1 := by omega
        have HU2 : Hid (Up w w2) := Lib.hid (by ((repeat (first | (with_reducible exact Up.refl _) | (with_reducible exact HU1.out) | (with_reducible refine Up.trans ?_ hu2) | (with_reducible refine Up.alloc ?_ _ _) | (with_reducible refine Up.setCell ?_ ?_ _) | (with_reducible refine Up.drewN ?_ _) | (with_reducible refine Up.drew ?_))); all_goals (first | (simp; done) | (simp; omega) | omega)))
        clear hu2 c1_0 c1_1 c1_2 c1_3
        go_wp2_with fail
        refine (HA.out _).mono ?_
        rintro e w3 ⟨rfl, hu3⟩
        try unfold got2
        have c3_0 := hu3.keep (w.heap.size) (0) (.int .i64 n) (by simp [go_sem, *])
        have c3_1 := hu3.keep (w.heap.size) (1) (.int .i64 d) (by simp [go_sem, *])
        have c3_2 := hu3.keep (w.heap.size + 1) (0) (.int .i64 m) (by simp [go_sem, *])
        have c3_3 := hu3.keep (w.heap.size + 1) (1) (.int .i64 c) (by simp [go_sem, *])
        have l3_0 : w.heap.size < w3.heap.size := World.block_lt_of_cell? _ _ c3_0
        have m3_0 : w.heap.size < w3.heap.size + 1 := by omega
        have n3_0 : w.heap.size < w3.heap.size + 1 + 1 := by omega
        have x3_0 : ¬ w3.heap.size = w.heap.size := by omega
        have y3_0 : ¬ w3.heap.size + 1 = w.heap.size := by omega
        have l3_1 : w.heap.size + 1 < w3.heap.size := World.block_lt_of_cell? _ _ c3_2
        have m3_1 : w.heap.size + 1 < w3.heap.size + 1 := by omega
        have n3_1 : w.heap.size + 1 < w3.heap.size + 1 + 1 := by omega
        have x3_1 : ¬ w3.heap.size = w.heap.size + 1 := by omega
        have y3_1 : ¬ w3.heap.size + 1 = w.heap.size + 1 := by omega
        have HU3 : Hid (Up w w3) := Lib.hid (by ((repeat (first | (with_reducible exact Up.refl _) | (with_reducible exact HU2.out) | (with_reducible refine Up.trans ?_ hu3) | (with_reducible refine Up.alloc ?_ _ _) | (with_reducible refine Up.setCell ?_ ?_ _) | (with_reducible refine Up.drewN ?_ _) | (with_reducible refine Up.drew ?_))); all_goals (first | (simp; done) | (simp; omega) | omega)))
        clear hu3 c2_0 c2_1 c2_2 c2_3
        unfold gotR
        go_wp2_with fail
        refine (HS.out _).mono ?_
        rintro e w4 ⟨rfl, hu4⟩
        try unfold got2
        have c4_0 := hu4.keep (w.heap.size) (0) (.int .i64 n) (by simp [go_sem, *])
        have c4_1 := hu4.keep (w.heap.size) (1) (.int .i64 d) (by simp [go_sem, *])
        have c4_2 := hu4.keep (w.heap.size + 1) (0) (.int .i64 m) (by simp [go_sem, *])
        have c4_3 := hu4.keep (w.heap.size + 1) (1) (.int .i64 c) (by simp [go_sem, *])
        have l4_0 : w.heap.size < w4.heap.size := World.block_lt_of_cell? _ _ c4_0
        have m4_0 : w.heap.size < w4.heap.size + 1 := by omega
        have n4_0 : w.heap.size < w4.heap.size + 1 + 1 := by omega
        have x4_0 : ¬ w4.heap.size = w.heap.size := by omega
        have y4_0 : ¬ w4.heap.size + 1 = w.heap.size := by omega
        have l4_1 : w.heap.size + 1 < w4.heap.size := World.block_lt_of_cell? _ _ c4_2
        have m4_1 : w.heap.size + 1 < w4.heap.size + 1 := by omega
        have n4_1 : w.heap.size + 1 < w4.heap.size + 1 + 1 := by omega
        have x4_1 : ¬ w4.heap.size = w.heap.size + 1 := by omega
        have y4_1 : ¬ w4.heap.size + 1 = w.heap.size + 1 := by omega
        have HU4 : Hid (Up w w4) := Lib.hid (by ((repeat (first | (with_reducible exact Up.refl _) | (with_reducible exact HU3.out) | (with_reducible refine Up.trans ?_ hu4) | (with_reducible refine Up.alloc ?_ _ _) | (with_reducible refine Up.setCell ?_ ?_ _) | (with_reducible refine Up.drewN ?_ _) | (with_reducible refine Up.drew ?_))); all_goals (first | (simp; done) | (simp; omega) | omega)))
        clear hu4 c3_0 c3_1 c3_2 c3_3
        unfold gotR
        go_wp2_with fail
        refine (HM.out _).mono ?_
        rintro e w5 ⟨rfl, hu5⟩
        try unfold got2
        have c5_0 := hu5.keep (w.heap.size) (0) (.int .i64 n) (by simp [go_sem, *])
        have c5_1 := hu5.keep (w.heap.size) (1) (.int .i64 d) (by simp [go_sem, *])
        have c5_2 := hu5.keep (w.heap.size + 1) (0) (.int .i64 m) (by simp [go_sem, *])
        have c5_3 := hu5.keep (w.heap.size + 1) (1) (.int .i64 c) (by simp [go_sem, *])
        have l5_0 : w.heap.size < w5.heap.size := World.block_lt_of_cell? _ _ c5_0
        have m5_0 : w.heap.size < w5.heap.size + 1 := by omega
        have n5_0 : w.heap.size < w5.heap.size + 1 + 1 := by omega
        have x5_0 : ¬ w5.heap.size = w.heap.size := by omega
        have y5_0 : ¬ w5.heap.size + 1 = w.heap.size := by omega
        have l5_1 : w.heap.size + 1 < w5.heap.size := World.block_lt_of_cell? _ _ c5_2
        have m5_1 : w.heap.size + 1 < w5.heap.size + 1 := by omega
        have n5_1 : w.heap.size + 1 < w5.heap.size + 1 + 1 := by omega
        have x5_1 : ¬ w5.heap.size = w.heap.size + 1 := by omega
        have y5_1 : ¬ w5.heap.size + 1 = w.heap.size + 1 := by omega
        have HU5 : Hid (Up w w5) := Lib.hid (by ((repeat (first | (with_reducible exact Up.refl _) | (with_reducible exact HU4.out) | (with_reducible refine Up.trans ?_ hu5) | (with_reducible refine Up.alloc ?_ _ _) | (with_reducible refine Up.setCell ?_ ?_ _) | (with_reducible refine Up.drewN ?_ _) | (with_reducible refine Up.drew ?_))); all_goals (first | (simp; done) | (simp; omega) | omega)))
        clear hu5 c4_0 c4_1 c4_2 c4_3
        unfold gotR
        go_wp2_with fail
        refine (awaker_up _).mono ?_
        rintro e w6 ⟨rfl, hu6⟩
        go_wp2
        go_ret
        refine ⟨rfl, Up.grown ?_⟩
        ((repeat (first | (with_reducible exact Up.refl _) | (with_reducible exact HU5.out) | (with_reducible refine Up.trans ?_ hu6) | (with_reducible refine Up.alloc ?_ _ _) | (with_reducible refine Up.setCell ?_ ?_ _) | (with_reducible refine Up.drewN ?_ _) | (with_reducible refine Up.drew ?_))); all_goals (first | (simp; done) | (simp; omega) | omega))
    · have tm : (m != 0) = true := bne_iff_ne.2 hm
      cases B2
      · clear HMD hm
        go_enter Try.func8, Try.ntmps8
        go_wp2_with fail
        refine (HV.out _).mono ?_
        rintro e w1 ⟨rfl, hu1⟩
        try unfold got2
        have c1_0 := hu1.keep (w.heap.size) (0) (.int .i64 n) (by simp [go_sem, *])
        have c1_1 := hu1.keep (w.heap.size) (1) (.int .i64 d) (by simp [go_sem, *])
        have c1_2 := hu1.keep (w.heap.size + 1) (0) (.int .i64 m) (by simp [go_sem, *])
        have c1_3 := hu1.keep (w.heap.size + 1) (1) (.int .i64 c) (by simp [go_sem, *])
        have l1_0 : w.heap.size < w1.heap.size := World.block_lt_of_cell? _ _ c1_0
        have m1_0 : w.heap.size < w1.heap.size + 1 := by omega
        have n1_0 : w.heap.size < w1.heap.size + 1 + 1 := by omega
        have x1_0 : ¬ w1.heap.size = w.heap.size := by omega
        have y1_0 : ¬ w1.heap.size + 1 = w.heap.size := by omega
        have l1_1 : w.heap.size + 1 < w1.heap.size := World.block_lt_of_cell? _ _ c1_2
        have m1_1 : w.heap.size + 1 < w1.heap.size + 1 := by omega
        have n1_1 : w.heap.size + 1 < w1.heap.size + 1 + 1 := by omega
        have x1_1 : ¬ w1.heap.size = w.heap.size + 1 := by omega
        have y1_1 : ¬ w1.heap.size + 1 = w.heap.size + 1 := by omega
        have HU1 : Hid (Up w w1) := Lib.hid (by ((repeat (first | (with_reducible exact Up.refl _) | (with_reducible refine Up.trans ?_ hu1) | (with_reducible refine Up.alloc ?_ _ _) | (with_reducible refine Up.setCell ?_ ?_ _) | (with_reducible refine Up.drewN ?_ _) | (with_reducible refine Up.drew ?_))); all_goals (first | (simp; done) | (simp; omega) | omega)))
        clear hu1
        go_wp2_with fail
        refine (HU.out _).mono ?_
        rintro e w2 ⟨rfl, hu2⟩
        try unfold got2
        have c2_0 := hu2.keep (w.heap.size) (0) (.int .i64 n) (by simp [go_sem, *])
        have c2_1 := hu2.keep (w.heap.size) (1) (.int .i64 d) (by simp [go_sem, *])
        have c2_2 := hu2.keep (w.heap.size + 1) (0) (.int .i64 m) (by simp [go_sem, *])
        have c2_3 := hu2.keep (w.heap.size + 1) (1) (.int .i64 c) (by simp [go_sem, *])
        have l2_0 : w.heap.size < w2.heap.size := World.block_lt_of_cell? _ _ c2_0
        have m2_0 : w.heap.size < w2.heap.size + 1 := by omega
        have n2_0 : w.heap.size < w2.heap.size + 1 + 1 := by omega
        have x2_0 : ¬ w2.heap.size = w.heap.size := by omega
        have y2_0 : ¬ w2.heap.size + 1 = w.heap.size := by omega
        have l2_1 : w.heap.size + 1 < w2.heap.size := World.block_lt_of_cell? _ _ c2_2
        have m2_1 : w.heap.size + 1 < w2.heap.size + 1 := by omega
        have n2_1 : w.heap.size + 1 < w2.heap.size + 1 + 1 := by omega
        have x2_1 : ¬ w2.heap.size = w.heap.size + 1 := by omega
        have y2_1 : ¬ w2.heap.size + 1 = w.heap.size + 1 := by omega
        have HU2 : Hid (Up w w2) := Lib.hid (by ((repeat (first | (with_reducible exact Up.refl _) | (with_reducible exact HU1.out) | (with_reducible refine Up.trans ?_ hu2) | (with_reducible refine Up.alloc ?_ _ _) | (with_reducible refine Up.setCell ?_ ?_ _) | (with_reducible refine Up.drewN ?_ _) | (with_reducible refine Up.drew ?_))); all_goals (first | (simp; done) | (simp; omega) | omega)))
        clear hu2 c1_0 c1_1 c1_2 c1_3
        go_wp2_with fail
        refine (HA.out _).mono ?_
        rintro e w3 ⟨rfl, hu3⟩
        try unfold got2
        have c3_0 := hu3.keep (w.heap.size) (0) (.int .i64 n) (by simp [go_sem, *])
        have c3_1 := hu3.keep (w.heap.size) (1) (.int .i64 d) (by simp [go_sem, *])
        have c3_2 := hu3.keep (w.heap.size + 1) (0) (.int .i64 m) (by simp [go_sem, *])
        have c3_3 := hu3.keep (w.heap.size + 1) (1) (.int .i64 c) (by simp [go_sem, *])
        have l3_0 : w.heap.size < w3.heap.size := World.block_lt_of_cell? _ _ c3_0
        have m3_0 : w.heap.size < w3.heap.size + 1 := by omega
        have n3_0 : w.heap.size < w3.heap.size + 1 + 1 := by omega
        have x3_0 : ¬ w3.heap.size = w.heap.size := by omega
        have y3_0 : ¬ w3.heap.size + 1 = w.heap.size := by omega
        have l3_1 : w.heap.size + 1 < w3.heap.size := World.block_lt_of_cell? _ _ c3_2
        have m3_1 : w.heap.size + 1 < w3.heap.size + 1 := by omega
        have n3_1 : w.heap.size + 1 < w3.heap.size + 1 + 1 := by omega
        have x3_1 : ¬ w3.heap.size = w.heap.size + 1 := by omega
        have y3_1 : ¬ w3.heap.size + 1 = w.heap.size + 1 := by omega
        have HU3 : Hid (Up w w3) := Lib.hid (by ((repeat (first | (with_reducible exact Up.refl _) | (with_reducible exact HU2.out) | (with_reducible refine Up.trans ?_ hu3) | (with_reducible refine Up.alloc ?_ _ _) | (with_reducible refine Up.setCell ?_ ?_ _) | (with_reducible refine Up.drewN ?_ _) | (with_reducible refine Up.drew ?_))); all_goals (first | (simp; done) | (simp; omega) | omega)))
        clear hu3 c2_0 c2_1 c2_2 c2_3
        unfold gotR
        go_wp2_with fail
        refine (HS.out _).mono ?_
        rintro e w4 ⟨rfl, hu4⟩
        try unfold got2
        have c4_0 := hu4.keep (w.heap.size) (0) (.int .i64 n) (by simp [go_sem, *])
        have c4_1 := hu4.keep (w.heap.size) (1) (.int .i64 d) (by simp [go_sem, *])
        have c4_2 := hu4.keep (w.heap.size + 1) (0) (.int .i64 m) (by simp [go_sem, *])
        have c4_3 := hu4.keep (w.heap.size + 1) (1) (.int .i64 c) (by simp [go_sem, *])
        have l4_0 : w.heap.size < w4.heap.size := World.block_lt_of_cell? _ _ c4_0
        have m4_0 : w.heap.size < w4.heap.size + 1 := by omega
        have n4_0 : w.heap.size < w4.heap.size + 1 + 1 := by omega
        have x4_0 : ¬ w4.heap.size = w.heap.size := by omega
        have y4_0 : ¬ w4.heap.size + 1 = w.heap.size := by omega
        have l4_1 : w.heap.size + 1 < w4.heap.size := World.block_lt_of_cell? _ _ c4_2
        have m4_1 : w.heap.size + 1 < w4.heap.size + 1 := by omega
        have n4_1 : w.heap.size + 1 < w4.heap.size + 1 + 1 := by omega
        have x4_1 : ¬ w4.heap.size = w.heap.size + 1 := by omega
        have y4_1 : ¬ w4.heap.size + 1 = w.heap.size + 1 := by omega
        have HU4 : Hid (Up w w4) := Lib.hid (by ((repeat (first | (with_reducible exact Up.refl _) | (with_reducible exact HU3.out) | (with_reducible refine Up.trans ?_ hu4) | (with_reducible refine Up.alloc ?_ _ _) | (with_reducible refine Up.setCell ?_ ?_ _) | (with_reducible refine Up.drewN ?_ _) | (with_reducible refine Up.drew ?_))); all_goals (first | (simp; done) | (simp; omega) | omega)))
        clear hu4 c3_0 c3_1 c3_2 c3_3
        unfold gotR
        go_wp2_with fail
        refine (HM.out _).mono ?_
        rintro e w5 ⟨rfl, hu5⟩
        try unfold got2
        have c5_0 := hu5.keep (w.heap.size) (0) (.int .i64 n) (by simp [go_sem, *])
        have c5_1 := hu5.keep (w.heap.size) (1) (.int .i64 d) (by simp [go_sem, *])
        have c5_2 := hu5.keep (w.heap.size + 1) (0) (.int .i64 m) (by simp [go_sem, *])
        have c5_3 := hu5.keep (w.heap.size + 1) (1) (.int .i64 c) (by simp [go_sem, *])
        have l5_0 : w.heap.size < w5.heap.size := World.block_lt_of_cell? _ _ c5_0
        have m5_0 : w.heap.size < w5.heap.size + 1 := by omega
        have n5_0 : w.heap.size < w5.heap.size + 1 + 1 := by omega
        have x5_0 : ¬ w5.heap.size = w.heap.size := by omega
        have y5_0 : ¬ w5.heap.size + 1 = w.heap.size := by omega
        have l5_1 : w.heap.size + 1 < w5.heap.size := World.block_lt_of_cell? _ _ c5_2
        have m5_1 : w.heap.size + 1 < w5.heap.size + 1 := by omega
        have n5_1 : w.heap.size + 1 < w5.heap.size + 1 + 1 := by omega
        have x5_1 : ¬ w5.heap.size = w.heap.size + 1 := by omega
        have y5_1 : ¬ w5.heap.size + 1 = w.heap.size + 1 := by omega
        have HU5 : Hid (Up w w5) := Lib.hid (by ((repeat (first | (with_reducible exact Up.refl _) | (with_reducible exact HU4.out) | (with_reducible refine Up.trans ?_ hu5) | (with_reducible refine Up.alloc ?_ _ _) | (with_reducible refine Up.setCell ?_ ?_ _) | (with_reducible refine Up.drewN ?_ _) | (with_reducible refine Up.drew ?_))); all_goals (first | (simp; done) | (simp; omega) | omega)))
        clear hu5 c4_0 c4_1 c4_2 c4_3
        unfold gotR
        go_wp2_with fail
        refine (awaker_up _).mono ?_
        rintro e w6 ⟨rfl, hu6⟩
        go_wp2
        go_ret
        refine ⟨rfl, Up.grown ?_⟩
        ((repeat (first | (with_reducible exact Up.refl _) | (with_reducible exact HU5.out) | (with_reducible refine Up.trans ?_ hu6) | (with_reducible refine Up.alloc ?_ _ _) | (with_reducible refine Up.setCell ?_ ?_ _) | (with_reducible refine Up.drewN ?_ _) | (with_reducible refine Up.drew ?_))); all_goals (first | (simp; done) | (simp; omega) | omega))
      · have HD := Lib.hid (HMD.out hm rfl)
        clear HMD hm
        go_enter Try.func8, Try.ntmps8
        go_wp2_with fail
        refine (HV.out _).mono ?_
        rintro e w1 ⟨rfl, hu1⟩
        try unfold got2
        have c1_0 := hu1.keep (w.heap.size) (0) (.int .i64 n) (by simp [go_sem, *])
        have c1_1 := hu1.keep (w.heap.size) (1) (.int .i64 d) (by simp [go_sem, *])
        have c1_2 := hu1.keep (w.heap.size + 1) (0) (.int .i64 m) (by simp [go_sem, *])
        have c1_3 := hu1.keep (w.heap.size + 1) (1) (.int .i64 c) (by simp [go_sem, *])
        have l1_0 : w.heap.size < w1.heap.size := World.block_lt_of_cell? _ _ c1_0
        have m1_0 : w.heap.size < w1.heap.size + 1 := by omega
        have n1_0 : w.heap.size < w1.heap.size + 1 + 1 := by omega
        have x1_0 : ¬ w1.heap.size = w.heap.size := by omega
        have y1_0 : ¬ w1.heap.size + 1 = w.heap.size := by omega
        have l1_1 : w.heap.size + 1 < w1.heap.size := World.block_lt_of_cell? _ _ c1_2
        have m1_1 : w.heap.size + 1 < w1.heap.size + 1 := by omega
        have n1_1 : w.heap.size + 1 < w1.heap.size + 1 + 1 := by omega
        have x1_1 : ¬ w1.heap.size = w.heap.size + 1 := by omega
        have y1_1 : ¬ w1.heap.size + 1 = w.heap.size + 1 := by omega
        have HU1 : Hid (Up w w1) := Lib.hid (by ((repeat (first | (with_reducible exact Up.refl _) | (with_reducible refine Up.trans ?_ hu1) | (with_reducible refine Up.alloc ?_ _ _) | (with_reducible refine Up.setCell ?_ ?_ _) | (with_reducible refine Up.drewN ?_ _) | (with_reducible refine Up.drew ?_))); all_goals (first | (simp; done) | (simp; omega) | omega)))
        clear hu1
        go_wp2_with fail
        refine (HU.out _).mono ?_
        rintro e w2 ⟨rfl, hu2⟩
        try unfold got2
        have c2_0 := hu2.keep (w.heap.size) (0) (.int .i64 n) (by simp [go_sem, *])
        have c2_1 := hu2.keep (w.heap.size) (1) (.int .i64 d) (by simp [go_sem, *])
        have c2_2 := hu2.keep (w.heap.size + 1) (0) (.int .i64 m) (by simp [go_sem, *])
        have c2_3 := hu2.keep (w.heap.size + 1) (1) (.int .i64 c) (by simp [go_sem, *])
        have l2_0 : w.heap.size < w2.heap.size := World.block_lt_of_cell? _ _ c2_0
        have m2_0 : w.heap.size < w2.heap.size + 1 := by omega
        have n2_0 : w.heap.size < w2.heap.size + 1 + 1 := by omega
        have x2_0 : ¬ w2.heap.size = w.heap.size := by omega
        have y2_0 : ¬ w2.heap.size + 1 = w.heap.size := by omega
        have l2_1 : w.heap.size + 1 < w2.heap.size := World.block_lt_of_cell? _ _ c2_2
        have m2_1 : w.heap.size + 1 < w2.heap.size + 1 := by omega
        have n2_1 : w.heap.size + 1 < w2.heap.size + 1 + 1 := by omega
        have x2_1 : ¬ w2.heap.size = w.heap.size + 1 := by omega
        have y2_1 : ¬ w2.heap.size + 1 = w.heap.size + 1 := by omega
        have HU2 : Hid (Up w w2) := Lib.hid (by ((repeat (first | (with_reducible exact Up.refl _) | (with_reducible exact HU1.out) | (with_reducible refine Up.trans ?_ hu2) | (with_reducible refine Up.alloc ?_ _ _) | (with_reducible refine Up.setCell ?_ ?_ _) | (with_reducible refine Up.drewN ?_ _) | (with_reducible refine Up.drew ?_))); all_goals (first | (simp; done) | (simp; omega) | omega)))
        clear hu2 c1_0 c1_1 c1_2 c1_3
        go_wp2_with fail
        refine (HA.out _).mono ?_
        rintro e w3 ⟨rfl, hu3⟩
        try unfold got2
        have c3_0 := hu3.keep (w.heap.size) (0) (.int .i64 n) (by simp [go_sem, *])
        have c3_1 := hu3.keep (w.heap.size) (1) (.int .i64 d) (by simp [go_sem, *])
        have c3_2 := hu3.keep (w.heap.size + 1) (0) (.int .i64 m) (by simp [go_sem, *])
        have c3_3 := hu3.keep (w.heap.size + 1) (1) (.int .i64 c) (by simp [go_sem, *])
        have l3_0 : w.heap.size < w3.heap.size := World.block_lt_of_cell? _ _ c3_0
        have m3_0 : w.heap.size < w3.heap.size + 1 := by omega
        have n3_0 : w.heap.size < w3.heap.size + 1 + 1 := by omega
        have x3_0 : ¬ w3.heap.size = w.heap.size := by omega
        have y3_0 : ¬ w3.heap.size + 1 = w.heap.size := by omega
        have l3_1 : w.heap.size + 1 < w3.heap.size := World.block_lt_of_cell? _ _ c3_2
        have m3_1 : w.heap.size + 1 < w3.heap.size + 1 := by omega
        have n3_1 : w.heap.size + 1 < w3.heap.size + 1 + 1 := by omega
        have x3_1 : ¬ w3.heap.size = w.heap.size + 1 := by omega
        have y3_1 : ¬ w3.heap.size + 1 = w.heap.size + 1 := by omega
        have HU3 : Hid (Up w w3) := Lib.hid (by ((repeat (first | (with_reducible exact Up.refl _) | (with_reducible exact HU2.out) | (with_reducible refine Up.trans ?_ hu3) | (with_reducible refine Up.alloc ?_ _ _) | (with_reducible refine Up.setCell ?_ ?_ _) | (with_reducible refine Up.drewN ?_ _) | (with_reducible refine Up.drew ?_))); all_goals (first | (simp; done) | (simp; omega) | omega)))
        clear hu3 c2_0 c2_1 c2_2 c2_3
        unfold gotR
        go_wp2_with fail
        refine (HS.out _).mono ?_
        rintro e w4 ⟨rfl, hu4⟩
        try unfold got2
        have c4_0 := hu4.keep (w.heap.size) (0) (.int .i64 n) (by simp [go_sem, *])
        have c4_1 := hu4.keep (w.heap.size) (1) (.int .i64 d) (by simp [go_sem, *])
        have c4_2 := hu4.keep (w.heap.size + 1) (0) (.int .i64 m) (by simp [go_sem, *])
        have c4_3 := hu4.keep (w.heap.size + 1) (1) (.int .i64 c) (by simp [go_sem, *])
        have l4_0 : w.heap.size < w4.heap.size := World.block_lt_of_cell? _ _ c4_0
        have m4_0 : w.heap.size < w4.heap.size + 1 := by omega
        have n4_0 : w.heap.size < w4.heap.size + 1 + 1 := by omega
        have x4_0 : ¬ w4.heap.size = w.heap.size := by omega
        have y4_0 : ¬ w4.heap.size + 1 = w.heap.size := by omega
        have l4_1 : w.heap.size + 1 < w4.heap.size := World.block_lt_of_cell? _ _ c4_2
        have m4_1 : w.heap.size + 1 < w4.heap.size + 1 := by omega
        have n4_1 : w.heap.size + 1 < w4.heap.size + 1 + 1 := by omega
        have x4_1 : ¬ w4.heap.size = w.heap.size + 1 := by omega
        have y4_1 : ¬ w4.heap.size + 1 = w.heap.size + 1 := by omega
        have HU4 : Hid (Up w w4) := Lib.hid (by ((repeat (first | (with_reducible exact Up.refl _) | (with_reducible exact HU3.out) | (with_reducible refine Up.trans ?_ hu4) | (with_reducible refine Up.alloc ?_ _ _) | (with_reducible refine Up.setCell ?_ ?_ _) | (with_reducible refine Up.drewN ?_ _) | (with_reducible refine Up.drew ?_))); all_goals (first | (simp; done) | (simp; omega) | omega)))
        clear hu4 c3_0 c3_1 c3_2 c3_3
        unfold gotR
        go_wp2_with fail
        refine (HM.out _).mono ?_
        rintro e w5 ⟨rfl, hu5⟩
        try unfold got2
        have c5_0 := hu5.keep (w.heap.size) (0) (.int .i64 n) (by simp [go_sem, *])
        have c5_1 := hu5.keep (w.heap.size) (1) (.int .i64 d) (by simp [go_sem, *])
        have c5_2 := hu5.keep (w.heap.size + 1) (0) (.int .i64 m) (by simp [go_sem, *])
        have c5_3 := hu5.keep (w.heap.size + 1) (1) (.int .i64 c) (by simp [go_sem, *])
        have l5_0 : w.heap.size < w5.heap.size := World.block_lt_of_cell? _ _ c5_0
        have m5_0 : w.heap.size < w5.heap.size + 1 := by omega
        have n5_0 : w.heap.size < w5.heap.size + 1 + 1 := by omega
        have x5_0 : ¬ w5.heap.size = w.heap.size := by omega
        have y5_0 : ¬ w5.heap.size + 1 = w.heap.size := by omega
        have l5_1 : w.heap.size + 1 < w5.heap.size := World.block_lt_of_cell? _ _ c5_2
        have m5_1 : w.heap.size + 1 < w5.heap.size + 1 := by omega
        have n5_1 : w.heap.size + 1 < w5.heap.size + 1 + 1 := by omega
        have x5_1 : ¬ w5.heap.size = w.heap.size + 1 := by omega
        have y5_1 : ¬ w5.heap.size + 1 = w.heap.size + 1 := by omega
        have HU5 : Hid (Up w w5) := Lib.hid (by ((repeat (first | (with_reducible exact Up.refl _) | (with_reducible exact HU4.out) | (with_reducible refine Up.trans ?_ hu5) | (with_reducible refine Up.alloc ?_ _ _) | (with_reducible refine Up.setCell ?_ ?_ _) | (with_reducible refine Up.drewN ?_ _) | (with_reducible refine Up.drew ?_))); all_goals (first | (simp; done) | (simp; omega) | omega)))
        clear hu5 c4_0 c4_1 c4_2 c4_3
        unfold gotR
        go_wp2_with fail
        refine (HD.out _).mono ?_
        rintro e w6 ⟨rfl, hu6⟩
        try unfold got2
        have c6_0 := hu6.keep (w.heap.size) (0) (.int .i64 n) (by simp [go_sem, *])
        have c6_1 := hu6.keep (w.heap.size) (1) (.int .i64 d) (by simp [go_sem, *])
        have c6_2 := hu6.keep (w.heap.size + 1) (0) (.int .i64 m) (by simp [go_sem, *])
        have c6_3 := hu6.keep (w.heap.size + 1) (1) (.int .i64 c) (by simp [go_sem, *])
        have l6_0 : w.heap.size < w6.heap.size := World.block_lt_of_cell? _ _ c6_0
        have m6_0 : w.heap.size < w6.heap.size + 1 := by omega
        have n6_0 : w.heap.size < w6.heap.size + 1 + 1 := by omega
        have x6_0 : ¬ w6.heap.size = w.heap.size := by omega
        have y6_0 : ¬ w6.heap.size + 1 = w.heap.size := by omega
        have l6_1 : w.heap.size + 1 < w6.heap.size := World.block_lt_of_cell? _ _ c6_2
        have m6_1 : w.heap.size + 1 < w6.heap.size + 1 := by omega
        have n6_1 : w.heap.size + 1 < w6.heap.size + 1 + 1 := by omega
        have x6_1 : ¬ w6.heap.size = w.heap.size + 1 := by omega
        have y6_1 : ¬ w6.heap.size + 1 = w.heap.size + 1 := by omega
        have HU6 : Hid (Up w w6) := Lib.hid (by ((repeat (first | (with_reducible exact Up.refl _) | (with_reducible exact HU5.out) | (with_reducible refine Up.trans ?_ hu6) | (with_reducible refine Up.alloc ?_ _ _) | (with_reducible refine Up.setCell ?_ ?_ _) | (with_reducible refine Up.drewN ?_ _) | (with_reducible refine Up.drew ?_))); all_goals (first | (simp; done) | (simp; omega) | omega)))
        clear hu6 c5_0 c5_1 c5_2 c5_3
        unfold gotR
        go_wp2_with fail
        refine (awaker_up _).mono ?_
        rintro e w7 ⟨rfl, hu7⟩
        go_wp2
        go_ret
        refine ⟨rfl, Up.grown ?_⟩
        ((repeat (first | (with_reducible exact Up.refl _) | (with_reducible exact HU6.out) | (with_reducible refine Up.trans ?_ hu7) | (with_reducible refine Up.alloc ?_ _ _) | (with_reducible refine Up.setCell ?_ ?_ _) | (with_reducible refine Up.drewN ?_ _) | (with_reducible refine Up.drew ?_))); all_goals (first | (simp; done) | (simp; omega) | omega))

set_option maxRecDepth 100000 in
theorem ratioUndoes_lifted (os : Os) (started : os.Started) (H : Type) (enc : TypeId × Value → H) :
    ReturnsInHanded {} Try.checked os 8 .any (Rows.ratioUndoesSpec.pre6 enc Try.prog Try.f8 Rows.ratioUndoesRow.domain false) (Rows.ratioUndoesSpec.post enc Try.prog Try.f8 false true false false) := by
  refine returnsInHanded_of_change (C := Try.checked) ratioUndoes_own started (by kernel_rfl) Try.func8
    (ChangeSpec.witness6 (enc := enc) (C := Try.checked) false ⟨#[], #[.agg #[.int .i64 0, .int .i64 0], .agg #[.int .i64 0, .int .i64 0]], []⟩ 8 (by kernel_rfl) (by kernel_rfl) (by kernel_rfl) (by kernel_rfl)) ?_
  intro W base args ds gs before hval0 hW hcnd _
  have hval : ∀ (j : Nat) t v, Try.f8.params[j]? = some t → args[j]? = some v → Value.okWide Try.prog W .any base t v := hval0
  have hW' := hW
  obtain ⟨p, q, hA0, hV, rfl, hfz, hnd⟩ := hW
  have hA : DataW.TrodAll enc Try.prog W 0 (fun _ => true) true Try.f8.params.toList args.toList ds p := hA0
  rw [Try.params8] at hA hval
  obtain ⟨v0, vs0, d0, ds0, p0, q0, hargs, rfl, rfl, h0, r0⟩ := trodAll_cons hA
  obtain ⟨v1, vs1, d1, ds1, p1, q1, rfl, rfl, rfl, h1, r1⟩ := trodAll_cons r0
  obtain ⟨rfl, rfl, rfl⟩ := trodAll_nil r1
  obtain rfl : args = #[v0, v1] := by cases args; simp_all
  obtain ⟨rfl, rfl⟩ := trodVars_none hV
  obtain ⟨ca0, cb0, ya0, yb0, m0, rfl, rfl, rfl, hya0, hyb0⟩ := open_agg2 Try.underlying23 (by kernel_rfl) ratioUndoes_cellsr (hval 0 23 v0 rfl rfl) h0
  obtain ⟨a0, ea0, rfl, w0⟩ := DataW.trod_int Try.underlying2 hya0
  obtain ⟨b0, eb0, rfl, x0⟩ := DataW.trod_int Try.underlying2 hyb0
  simp at ea0 eb0
  subst ea0 eb0
  obtain ⟨ca1, cb1, ya1, yb1, m1, rfl, rfl, rfl, hya1, hyb1⟩ := open_agg2 Try.underlying23 (by kernel_rfl) ratioUndoes_cellsr (hval 1 23 v1 rfl rfl) h1
  obtain ⟨a1, ea1, rfl, w1⟩ := DataW.trod_int Try.underlying2 hya1
  obtain ⟨b1, eb1, rfl, x1⟩ := DataW.trod_int Try.underlying2 hyb1
  simp at ea1 eb1
  subst ea1 eb1
  clear hA0 hval0
  simp only [List.append_nil] at hW'
  refine (ratioUndoes_walk a0 b0 a1 b1 w0 x0 w1 x1 W).mono fun e W' ⟨he, hg⟩ => ?_
  subst he
  exact ⟨_, rfl, post_of_same (pa := []) (pv := []) hW' (fun _ _ _ => (trodAll_cons_mk (shut_bool Try.underlying4 _) trodAll_mk0)) (fun sp _ => (trodAll_cons_mk (shut_agg2 (y0 := (.lit (.int .i64 a0), [])) (y1 := (.lit (.int .i64 b0), [])) Try.underlying23 (by kernel_rfl) ratioUndoes_cellsr ⟨1, by simp [DataW.trod, Try.underlying2, w0]⟩ ⟨1, by simp [DataW.trod, Try.underlying2, x0]⟩) (trodAll_cons_mk (shut_agg2 (y0 := (.lit (.int .i64 a1), [])) (y1 := (.lit (.int .i64 b1), [])) Try.underlying23 (by kernel_rfl) ratioUndoes_cellsr ⟨1, by simp [DataW.trod, Try.underlying2, w1]⟩ ⟨1, by simp [DataW.trod, Try.underlying2, x1]⟩) trodAll_mk0))) (fun _ _ => rfl) rfl
    (hg.frame _) hg.2.1 (ok_one (by kernel_rfl) rfl (okWide_bool_mk Try.underlying4 _))⟩

theorem ratioUndoes_over : Rows.ratioUndoesRow.holds Try.pinned (OpenSpec.ofChange Rows.ratioUndoesSpec) :=
  OpenClaim.holds_of_wide 8 Try.f8 rfl rfl rfl rfl rfl rfl rfl ⟨rfl, rfl, rfl, rfl, rfl⟩ rfl rfl rfl rfl rfl (by kernel_rfl) Try.func8 (by kernel_rfl)
    (of_decide_eq_true (by kernel_rfl)) (by unfold Func.isWrapper; first | (rw [if_pos (by decide +kernel)]; kernel_rfl) | (rw [if_neg (by decide +kernel)]; exact ⟨rfl, rfl⟩))
    (fun os started H enc _ => ratioUndoes_lifted os started H enc)

theorem ratioUndoes_holds : Rows.RatioUndoesSaid :=
  ratioUndoes_over
#print axioms ratioUndoes_holds
end Go.Proofs.Ytgkoccnnafilnaa
