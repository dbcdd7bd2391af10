/- What ratio.sum returns. -/
import Derived.Test.YtjbgogajnjefmaaGreatZRQuo
import Derived.Test.YtjbgogajnjefmaaGreatZWAdd
import Derived.Test.YtjbgogajnjefmaaGreatZWCmp
import Derived.Test.YtjbgogajnjefmaaGreatZWGcd
import Derived.Test.YtjbgogajnjefmaaGreatZWMathm8
import Derived.Test.YtjbgogajnjefmaaGreatZWMul
import Derived.Test.YtjbgogajnjefmaaGreatZWRDiv2
import Derived.Test.YtjbgogajnjefmaaGreatZWShortm3
namespace Go.Proofs.YtjbgogajnjefmaaGreat
open Go.RowKit

theorem add_v (x y : Int) (hx : In2 x) (hy : In2 y) (h : In2 (x + y)) (w : World) :
    Calls Tryz.prog 65 #[.agg #[.int .u64 (hiZ x), .int .u64 (loZ x)], .agg #[.int .u64 (hiZ y), .int .u64 (loZ y)]] w fun e w' => e = got2 (x + y) true ∧ Up w w' := by
  have g := add_up (hiZ x) (loZ x) (hiZ y) (loZ y) (hiZ_word hx) (loZ_word x) (hiZ_word hy) (loZ_word y) w
  rw [val_hilo, val_hilo, fit2_yes h, fits2_yes h] at g
  exact g
theorem sub_v (x y : Int) (hx : In2 x) (hy : In2 y) (h : In2 (x - y)) (w : World) :
    Calls Tryz.prog 67 #[.agg #[.int .u64 (hiZ x), .int .u64 (loZ x)], .agg #[.int .u64 (hiZ y), .int .u64 (loZ y)]] w fun e w' => e = got2 (x - y) true ∧ Up w w' := by
  have g := sub_up (hiZ x) (loZ x) (hiZ y) (loZ y) (hiZ_word hx) (loZ_word x) (hiZ_word hy) (loZ_word y) w
  rw [val_hilo, val_hilo, fit2_yes h, fits2_yes h] at g
  exact g
theorem radd_v (x y : Int) (hx : In2 x) (hy : In2 y) (h : In2 (x + y)) (w : World) :
    Calls Tryz.prog 46 #[.agg #[.int .u64 (hiZ x), .int .u64 (loZ x)], .agg #[.int .u64 (hiZ y), .int .u64 (loZ y)]] w fun e w' => e = got2 (x + y) true ∧ Up w w' := by
  have g := radd_up (hiZ x) (loZ x) (hiZ y) (loZ y) (hiZ_word hx) (loZ_word x) (hiZ_word hy) (loZ_word y) w
  rw [val_hilo, val_hilo, fit2_yes h, fits2_yes h] at g
  exact g
theorem rsub_v (x y : Int) (hx : In2 x) (hy : In2 y) (h : In2 (x - y)) (w : World) :
    Calls Tryz.prog 49 #[.agg #[.int .u64 (hiZ x), .int .u64 (loZ x)], .agg #[.int .u64 (hiZ y), .int .u64 (loZ y)]] w fun e w' => e = got2 (x - y) true ∧ Up w w' := by
  have g := rsub_up (hiZ x) (loZ x) (hiZ y) (loZ y) (hiZ_word hx) (loZ_word x) (hiZ_word hy) (loZ_word y) w
  rw [val_hilo, val_hilo, fit2_yes h, fits2_yes h] at g
  exact g

set_option maxHeartbeats 4000000 in
set_option maxRecDepth 100000 in
theorem sum_up (s t : Bool) (x y : Int) (hx : In2 x) (hy : In2 y) (hs : In2 (x + y)) (w : World) :
    Calls Tryz.prog 36 #[.agg #[.bool s, .int .u64 (hiZ x), .int .u64 (loZ x)], .agg #[.bool t, .int .u64 (hiZ y), .int .u64 (loZ y)]] w fun e w' =>
      e = .returned (.agg #[.bool (sumS s t x y), .int .u64 (hiZ (sumV s t x y)), .int .u64 (loZ (sumV s t x y))]) ∧ Up w w' := by
  by_cases h : s = t
  · have H1 := Lib.hid (show sumS s t x y = s from if_pos h)
    have H2 := Lib.hid (show sumV s t x y = x + y from if_pos h)
    have HA := Lib.hid (fun W => add_v x y hx hy hs W)
    subst h
    clear hx hy hs
    generalize x + y = v at *
    go_enter Tryz.func36, Tryz.ntmps36
    go_wp2_with fail
    refine (HA.out _).mono ?_
    rintro e w1 ⟨rfl, hu1⟩
    try unfold got2
    have c1_0 := hu1.keep (w.heap.size) (0) (.bool s) (by simp [go_sem, *])
    have c1_1 := hu1.keep (w.heap.size + 1 + 1) (0) (.bool false) (by simp [go_sem, *])
    have c1_2 := hu1.keep (w.heap.size + 1 + 1) (1) (.int .u64 0) (by simp [go_sem, *])
    have c1_3 := hu1.keep (w.heap.size + 1 + 1) (2) (.int .u64 0) (by simp [go_sem, *])
    have l1_0 : w.heap.size < w1.heap.size := World.block_lt_of_cell? _ _ c1_0
    have m1_0 : w.heap.size < w1.heap.size + 1 := by omega
    have n1_0 : w.heap.size < w1.heap.size + 1 + 1 := by omega
    have x1_0 : ¬ w1.heap.size = w.heap.size := by omega
    have y1_0 : ¬ w1.heap.size + 1 = w.heap.size := by omega
    have l1_1 : w.heap.size + 1 + 1 < w1.heap.size := World.block_lt_of_cell? _ _ c1_1
    have m1_1 : w.heap.size + 1 + 1 < w1.heap.size + 1 := by omega
    have n1_1 : w.heap.size + 1 + 1 < w1.heap.size + 1 + 1 := by omega
    have x1_1 : ¬ w1.heap.size = w.heap.size + 1 + 1 := by omega
    have y1_1 : ¬ w1.heap.size + 1 = w.heap.size + 1 + 1 := by omega
    have HU1 : Hid (Up w w1) := Lib.hid (by ((repeat (first | (with_reducible exact Up.refl _) | (with_reducible refine Up.trans ?_ hu1) | (with_reducible refine Up.alloc ?_ _ _) | (with_reducible refine Up.setCell ?_ ?_ _) | (with_reducible refine Up.drewN ?_ _) | (with_reducible refine Up.drew ?_))); all_goals (first | (simp; done) | (simp; omega) | omega)))
    clear hu1
    have z0 := own2 HU1.out 0
    have z1 := own2 HU1.out 1
    have z2 := own2 HU1.out 2
    go_wp2_with fail
    refine bodyPost_ret (v := .agg #[.bool s, .int .u64 (hiZ v), .int .u64 (loZ v)]) (by simp [results, Tryz.results36, go_sem, c1_1, c1_2, c1_3, l1_1]) rfl ⟨?_, ?_⟩
    · rw [H1.out, H2.out]
    · ((repeat (first | (with_reducible exact Up.refl _) | (with_reducible exact HU1.out) | (with_reducible refine Up.alloc ?_ _ _) | (with_reducible refine Up.setCell ?_ ?_ _) | (with_reducible refine Up.drewN ?_ _) | (with_reducible refine Up.drew ?_))); all_goals (first | (simp; done) | (simp; omega) | omega))
  · have t0 : (s == t) = false := beq_eq_false_iff_ne.2 h
    have HC := Lib.hid (fun W => compare_v x y hx hy W)
    by_cases hl : x < y
    · have H1 := Lib.hid (show sumS s t x y = t by unfold sumS; rw [if_neg h, if_pos hl])
      have H2 := Lib.hid (show sumV s t x y = y - x by unfold sumV; rw [if_neg h, if_pos hl])
      have hi : In2 (y - x) := by unfold In2 at *; omega
      have HS := Lib.hid (fun W => sub_v y x hy hx hi W)
      have tc : decide (cmpZ x y < 0) = true := decide_eq_true ((cmpZ_neg _ _).2 hl)
      clear hx hy hs hi hl h
      generalize y - x = v at *
      generalize cmpZ x y = c at *
      go_enter Tryz.func36, Tryz.ntmps36
      go_wp2_with fail
      refine (HC.out _).mono ?_
      rintro e w1 ⟨rfl, hu1⟩
      try unfold got2
      have c1_0 := hu1.keep (w.heap.size) (0) (.bool s) (by simp [go_sem, *])
      have c1_1 := hu1.keep (w.heap.size) (1) (.int .u64 (hiZ x)) (by simp [go_sem, *])
      have c1_2 := hu1.keep (w.heap.size) (2) (.int .u64 (loZ x)) (by simp [go_sem, *])
      have c1_3 := hu1.keep (w.heap.size + 1) (0) (.bool t) (by simp [go_sem, *])
      have c1_4 := hu1.keep (w.heap.size + 1) (1) (.int .u64 (hiZ y)) (by simp [go_sem, *])
      have c1_5 := hu1.keep (w.heap.size + 1) (2) (.int .u64 (loZ y)) (by simp [go_sem, *])
      have c1_6 := hu1.keep (w.heap.size + 1 + 1) (0) (.bool false) (by simp [go_sem, *])
      have c1_7 := hu1.keep (w.heap.size + 1 + 1) (1) (.int .u64 0) (by simp [go_sem, *])
      have c1_8 := hu1.keep (w.heap.size + 1 + 1) (2) (.int .u64 0) (by simp [go_sem, *])
      have l1_0 : w.heap.size < w1.heap.size := World.block_lt_of_cell? _ _ c1_0
      have m1_0 : w.heap.size < w1.heap.size + 1 := by omega
      have n1_0 : w.heap.size < w1.heap.size + 1 + 1 := by omega
      have x1_0 : ¬ w1.heap.size = w.heap.size := by omega
      have y1_0 : ¬ w1.heap.size + 1 = w.heap.size := by omega
      have l1_1 : w.heap.size + 1 < w1.heap.size := World.block_lt_of_cell? _ _ c1_3
      have m1_1 : w.heap.size + 1 < w1.heap.size + 1 := by omega
      have n1_1 : w.heap.size + 1 < w1.heap.size + 1 + 1 := by omega
      have x1_1 : ¬ w1.heap.size = w.heap.size + 1 := by omega
      have y1_1 : ¬ w1.heap.size + 1 = w.heap.size + 1 := by omega
      have l1_2 : w.heap.size + 1 + 1 < w1.heap.size := World.block_lt_of_cell? _ _ c1_6
      have m1_2 : w.heap.size + 1 + 1 < w1.heap.size + 1 := by omega
      have n1_2 : w.heap.size + 1 + 1 < w1.heap.size + 1 + 1 := by omega
      have x1_2 : ¬ w1.heap.size = w.heap.size + 1 + 1 := by omega
      have y1_2 : ¬ w1.heap.size + 1 = w.heap.size + 1 + 1 := by omega
      have HU1 : Hid (Up w w1) := Lib.hid (by ((repeat (first | (with_reducible exact Up.refl _) | (with_reducible refine Up.trans ?_ hu1) | (with_reducible refine Up.alloc ?_ _ _) | (with_reducible refine Up.setCell ?_ ?_ _) | (with_reducible refine Up.drewN ?_ _) | (with_reducible refine Up.drew ?_))); all_goals (first | (simp; done) | (simp; omega) | omega)))
      clear hu1
      have z0 := own0 HU1.out 0
      have z1 := own0 HU1.out 1
      have z2 := own0 HU1.out 2
      have z3 := own1 HU1.out 0
      have z4 := own1 HU1.out 1
      have z5 := own1 HU1.out 2
      go_wp2_with fail
      refine (HS.out _).mono ?_
      rintro e w2 ⟨rfl, hu2⟩
      try unfold got2
      have c2_0 := hu2.keep (w.heap.size) (0) (.bool t) (by simp [go_sem, *])
      have c2_1 := hu2.keep (w.heap.size + 1 + 1) (0) (.bool false) (by simp [go_sem, *])
      have c2_2 := hu2.keep (w.heap.size + 1 + 1) (1) (.int .u64 0) (by simp [go_sem, *])
      have c2_3 := hu2.keep (w.heap.size + 1 + 1) (2) (.int .u64 0) (by simp [go_sem, *])
      have l2_0 : w.heap.size < w2.heap.size := World.block_lt_of_cell? _ _ c2_0
      have m2_0 : w.heap.size < w2.heap.size + 1 := by omega
      have n2_0 : w.heap.size < w2.heap.size + 1 + 1 := by omega
      have x2_0 : ¬ w2.heap.size = w.heap.size := by omega
      have y2_0 : ¬ w2.heap.size + 1 = w.heap.size := by omega
      have l2_1 : w.heap.size + 1 + 1 < w2.heap.size := World.block_lt_of_cell? _ _ c2_1
      have m2_1 : w.heap.size + 1 + 1 < w2.heap.size + 1 := by omega
      have n2_1 : w.heap.size + 1 + 1 < w2.heap.size + 1 + 1 := by omega
      have x2_1 : ¬ w2.heap.size = w.heap.size + 1 + 1 := by omega
      have y2_1 : ¬ w2.heap.size + 1 = w.heap.size + 1 + 1 := by omega
      have HU2 : Hid (Up w w2) := Lib.hid (by ((repeat (first | (with_reducible exact Up.refl _) | (with_reducible exact HU1.out) | (with_reducible refine Up.trans ?_ hu2) | (with_reducible refine Up.alloc ?_ _ _) | (with_reducible refine Up.setCell ?_ ?_ _) | (with_reducible refine Up.drewN ?_ _) | (with_reducible refine Up.drew ?_))); all_goals (first | (simp; done) | (simp; omega) | omega)))
      clear hu2 c1_0 c1_1 c1_2 c1_3 c1_4 c1_5 c1_6 c1_7 c1_8
      have y0 := own2 HU2.out 0
      have y1 := own2 HU2.out 1
      have y2 := own2 HU2.out 2
      go_wp2_with fail
      refine bodyPost_ret (v := .agg #[.bool t, .int .u64 (hiZ v), .int .u64 (loZ v)]) (by simp [results, Tryz.results36, go_sem, c2_1, c2_2, c2_3, l2_1]) rfl ⟨?_, ?_⟩
      · rw [H1.out, H2.out]
      · ((repeat (first | (with_reducible exact Up.refl _) | (with_reducible exact HU2.out) | (with_reducible refine Up.alloc ?_ _ _) | (with_reducible refine Up.setCell ?_ ?_ _) | (with_reducible refine Up.drewN ?_ _) | (with_reducible refine Up.drew ?_))); all_goals (first | (simp; done) | (simp; omega) | omega))
    · have H1 := Lib.hid (show sumS s t x y = s by unfold sumS; rw [if_neg h, if_neg hl])
      have H2 := Lib.hid (show sumV s t x y = x - y by unfold sumV; rw [if_neg h, if_neg hl])
      have hi : In2 (x - y) := by unfold In2 at *; omega
      have HS := Lib.hid (fun W => sub_v x y hx hy hi W)
      have tc : decide (cmpZ x y < 0) = false := decide_eq_false (fun g => hl ((cmpZ_neg _ _).1 g))
      clear hx hy hs hi hl h
      generalize x - y = v at *
      generalize cmpZ x y = c at *
      go_enter Tryz.func36, Tryz.ntmps36
      go_wp2_with fail
      refine (HC.out _).mono ?_
      rintro e w1 ⟨rfl, hu1⟩
      try unfold got2
      have c1_0 := hu1.keep (w.heap.size) (0) (.bool s) (by simp [go_sem, *])
      have c1_1 := hu1.keep (w.heap.size) (1) (.int .u64 (hiZ x)) (by simp [go_sem, *])
      have c1_2 := hu1.keep (w.heap.size) (2) (.int .u64 (loZ x)) (by simp [go_sem, *])
      have c1_3 := hu1.keep (w.heap.size + 1) (0) (.bool t) (by simp [go_sem, *])
      have c1_4 := hu1.keep (w.heap.size + 1) (1) (.int .u64 (hiZ y)) (by simp [go_sem, *])
      have c1_5 := hu1.keep (w.heap.size + 1) (2) (.int .u64 (loZ y)) (by simp [go_sem, *])
      have c1_6 := hu1.keep (w.heap.size + 1 + 1) (0) (.bool false) (by simp [go_sem, *])
      have c1_7 := hu1.keep (w.heap.size + 1 + 1) (1) (.int .u64 0) (by simp [go_sem, *])
      have c1_8 := hu1.keep (w.heap.size + 1 + 1) (2) (.int .u64 0) (by simp [go_sem, *])
      have l1_0 : w.heap.size < w1.heap.size := World.block_lt_of_cell? _ _ c1_0
      have m1_0 : w.heap.size < w1.heap.size + 1 := by omega
      have n1_0 : w.heap.size < w1.heap.size + 1 + 1 := by omega
      have x1_0 : ¬ w1.heap.size = w.heap.size := by omega
      have y1_0 : ¬ w1.heap.size + 1 = w.heap.size := by omega
      have l1_1 : w.heap.size + 1 < w1.heap.size := World.block_lt_of_cell? _ _ c1_3
      have m1_1 : w.heap.size + 1 < w1.heap.size + 1 := by omega
      have n1_1 : w.heap.size + 1 < w1.heap.size + 1 + 1 := by omega
      have x1_1 : ¬ w1.heap.size = w.heap.size + 1 := by omega
      have y1_1 : ¬ w1.heap.size + 1 = w.heap.size + 1 := by omega
      have l1_2 : w.heap.size + 1 + 1 < w1.heap.size := World.block_lt_of_cell? _ _ c1_6
      have m1_2 : w.heap.size + 1 + 1 < w1.heap.size + 1 := by omega
      have n1_2 : w.heap.size + 1 + 1 < w1.heap.size + 1 + 1 := by omega
      have x1_2 : ¬ w1.heap.size = w.heap.size + 1 + 1 := by omega
      have y1_2 : ¬ w1.heap.size + 1 = w.heap.size + 1 + 1 := by omega
      have HU1 : Hid (Up w w1) := Lib.hid (by ((repeat (first | (with_reducible exact Up.refl _) | (with_reducible refine Up.trans ?_ hu1) | (with_reducible refine Up.alloc ?_ _ _) | (with_reducible refine Up.setCell ?_ ?_ _) | (with_reducible refine Up.drewN ?_ _) | (with_reducible refine Up.drew ?_))); all_goals (first | (simp; done) | (simp; omega) | omega)))
      clear hu1
      go_wp2_with fail
      refine (HS.out _).mono ?_
      rintro e w2 ⟨rfl, hu2⟩
      try unfold got2
      have c2_0 := hu2.keep (w.heap.size) (0) (.bool s) (by simp [go_sem, *])
      have c2_1 := hu2.keep (w.heap.size + 1 + 1) (0) (.bool false) (by simp [go_sem, *])
      have c2_2 := hu2.keep (w.heap.size + 1 + 1) (1) (.int .u64 0) (by simp [go_sem, *])
      have c2_3 := hu2.keep (w.heap.size + 1 + 1) (2) (.int .u64 0) (by simp [go_sem, *])
      have l2_0 : w.heap.size < w2.heap.size := World.block_lt_of_cell? _ _ c2_0
      have m2_0 : w.heap.size < w2.heap.size + 1 := by omega
      have n2_0 : w.heap.size < w2.heap.size + 1 + 1 := by omega
      have x2_0 : ¬ w2.heap.size = w.heap.size := by omega
      have y2_0 : ¬ w2.heap.size + 1 = w.heap.size := by omega
      have l2_1 : w.heap.size + 1 + 1 < w2.heap.size := World.block_lt_of_cell? _ _ c2_1
      have m2_1 : w.heap.size + 1 + 1 < w2.heap.size + 1 := by omega
      have n2_1 : w.heap.size + 1 + 1 < w2.heap.size + 1 + 1 := by omega
      have x2_1 : ¬ w2.heap.size = w.heap.size + 1 + 1 := by omega
      have y2_1 : ¬ w2.heap.size + 1 = w.heap.size + 1 + 1 := by omega
      have HU2 : Hid (Up w w2) := Lib.hid (by ((repeat (first | (with_reducible exact Up.refl _) | (with_reducible exact HU1.out) | (with_reducible refine Up.trans ?_ hu2) | (with_reducible refine Up.alloc ?_ _ _) | (with_reducible refine Up.setCell ?_ ?_ _) | (with_reducible refine Up.drewN ?_ _) | (with_reducible refine Up.drew ?_))); all_goals (first | (simp; done) | (simp; omega) | omega)))
      clear hu2 c1_0 c1_1 c1_2 c1_3 c1_4 c1_5 c1_6 c1_7 c1_8
      have y0 := own2 HU2.out 0
      have y1 := own2 HU2.out 1
      have y2 := own2 HU2.out 2
      go_wp2_with fail
      refine bodyPost_ret (v := .agg #[.bool s, .int .u64 (hiZ v), .int .u64 (loZ v)]) (by simp [results, Tryz.results36, go_sem, c2_1, c2_2, c2_3, l2_1]) rfl ⟨?_, ?_⟩
      · rw [H1.out, H2.out]
      · ((repeat (first | (with_reducible exact Up.refl _) | (with_reducible exact HU2.out) | (with_reducible refine Up.alloc ?_ _ _) | (with_reducible refine Up.setCell ?_ ?_ _) | (with_reducible refine Up.drewN ?_ _) | (with_reducible refine Up.drew ?_))); all_goals (first | (simp; done) | (simp; omega) | omega))

end Go.Proofs.YtjbgogajnjefmaaGreat
