/- What wide.Left and wide.Right return, for every shift. -/
import Derived.Test.YtegaeaonoggmkaaRows
import Derived.Test.YtegaeaonoggmkaaZMathq15
import Derived.Test.YtegaeaonoggmkaaZWShiftq100
namespace Go.Proofs.Ytegaeaonoggmkaa
open Go.RowKit

theorem pow_split (n : Int) (h : 64 ≤ n) : (2 : Int) ^ n.toNat = 18446744073709551616 * 2 ^ (n - 64).toNat := by
  rw [← pow_cast, ← pow_cast, show n.toNat = 64 + (n - 64).toNat by omega, Nat.pow_add, Int.natCast_mul]; rfl
theorem shl_high {l n : Int} (hl : Word l) (h : 64 ≤ n) (hi : In2 (val 0 l * 2 ^ n.toNat)) :
    IntKind.u64.wrap (l * 2 ^ (n - 64).toNat) = hiZ (val 0 l * 2 ^ n.toNat) ∧ loZ (val 0 l * 2 ^ n.toNat) = 0 := by
  have e0 : val 0 l = l := by unfold val; omega
  have e : val 0 l * 2 ^ n.toNat = l * 2 ^ (n - 64).toNat * 18446744073709551616 := by rw [e0, pow_split n h]; ac_rfl
  rw [e] at hi ⊢
  obtain ⟨b1, b2⟩ := hl
  have hp := pow_nonneg2 (n - 64).toNat
  have hm := Int.mul_nonneg b1 (Int.le_of_lt hp)
  generalize l * 2 ^ (n - 64).toNat = z at *
  unfold In2 at hi
  rw [IntKind.wrap_u64]
  unfold hiZ loZ
  omega
theorem high_zero {h l n : Int} (hh : Word h) (hl : Word l) (h0 : 64 ≤ n) (hb : n ≤ 128 - blZ (val h l)) : h = 0 := by
  by_cases e : h = 0
  · exact e
  · exfalso
    rw [blZ_hi hh hl e] at hb
    have := blZ_nonneg h
    obtain ⟨a1, a2⟩ := hh
    obtain ⟨k, ek, _, _⟩ := blZ_spec (v := h) (by omega)
    omega
theorem low_small {h l n : Int} (hl : Word l) (hi : In2 (val h l * 2 ^ n.toNat)) : h * 2 ^ n.toNat < 18446744073709551616 := by
  have hp := pow_nonneg2 n.toNat
  obtain ⟨b1, b2⟩ := hl
  have e : val h l * 2 ^ n.toNat = h * 2 ^ n.toNat * 18446744073709551616 + l * 2 ^ n.toNat := by
    unfold val; rw [Int.add_mul, Int.mul_right_comm]
  rw [e] at hi
  have := Int.mul_nonneg b1 (Int.le_of_lt hp)
  unfold In2 at hi
  generalize h * 2 ^ n.toNat = x at *
  generalize l * 2 ^ n.toNat = y at *
  omega

set_option maxHeartbeats 4000000 in
set_option maxRecDepth 100000 in
theorem left_up (h l n : Int) (hh : Word h) (hl : Word l) (hn : In n) (w : World) :
    Calls Try.prog 39 #[.agg #[.int .u64 h, .int .u64 l], .int .i64 n] w fun e w' => e = got2 (leftV (val h l) n) (leftB (val h l) n) ∧ Up w w' := by
  obtain ⟨n1, n2⟩ := hn
  have hv := val_in hh hl
  by_cases hneg : n < 0
  · have t1 : decide (n < 0) = true := decide_eq_true hneg
    rw [(leftB_neg hneg).1, (leftB_neg hneg).2]
    clear hneg n1 n2
    go_enter Try.func39, Try.ntmps39
    go_wp2_with fail
    refine bodyPost_ret (v := .tuple #[.agg #[.int .u64 0, .int .u64 0], .bool false]) (by simp [results, Try.results39, go_sem]) rfl ⟨?_, ?_⟩
    · rfl
    · repeat (first | exact Up.refl _ | refine Up.alloc ?_ _ _ | refine Up.setCell ?_ (by first | (simp; done) | (simp; omega) | omega) _ | refine Up.drewN ?_ _ | refine Up.drew ?_)
  have t1 : decide (n < 0) = false := decide_eq_false hneg
  have n0 : 0 ≤ n := by omega
  by_cases hz : val h l = 0
  · have t := zB_yes hz
    have hy := leftB_yes (v := val h l) n0 (by rw [hz, Int.zero_mul]; exact ⟨by decide, by decide⟩)
    rw [hy.1, hy.2, hz, Int.zero_mul]
    have HZ := Lib.hid hz
    clear hz hy hneg n1 n2
    go_enter Try.func39, Try.ntmps39
    go_wp2_with fail
    refine (isZero_up h l hh hl _).mono ?_
    rintro e w1 ⟨rfl, hu1⟩
    try unfold got2
    have c1_0 := hu1.keep (w.heap.size + 1) (0) (.int .u64 0) (by simp [go_sem, *])
    have c1_1 := hu1.keep (w.heap.size + 1) (1) (.int .u64 0) (by simp [go_sem, *])
    have l1_0 : w.heap.size + 1 < w1.heap.size := World.block_lt_of_cell? _ _ c1_0
    have m1_0 : w.heap.size + 1 < w1.heap.size + 1 := by omega
    have n1_0 : w.heap.size + 1 < w1.heap.size + 1 + 1 := by omega
    have x1_0 : ¬ w1.heap.size = w.heap.size + 1 := by omega
    have y1_0 : ¬ w1.heap.size + 1 = w.heap.size + 1 := by omega
    have HU1 : Hid (Up w w1) := Lib.hid (by ((repeat (first | (with_reducible exact Up.refl _) | (with_reducible refine Up.trans ?_ hu1) | (with_reducible refine Up.alloc ?_ _ _) | (with_reducible refine Up.setCell ?_ ?_ _) | (with_reducible refine Up.drewN ?_ _) | (with_reducible refine Up.drew ?_))); all_goals (first | (simp; done) | (simp; omega) | omega)))
    clear hu1
    have z0 := HU1.out.own 1 0
    have z1 := HU1.out.own 1 1
    go_wp2_with fail
    refine bodyPost_ret (v := .tuple #[.agg #[.int .u64 0, .int .u64 0], .bool true]) (by simp [results, Try.results39, go_sem, c1_0, c1_1]) rfl ⟨?_, ?_⟩
    · rfl
    · ((repeat (first | (with_reducible exact Up.refl _) | (with_reducible exact HU1.out) | (with_reducible refine Up.alloc ?_ _ _) | (with_reducible refine Up.setCell ?_ ?_ _) | (with_reducible refine Up.drewN ?_ _) | (with_reducible refine Up.drew ?_))); all_goals (first | (simp; done) | (simp; omega) | omega))
  have t := zB_no hz
  have hv0 : 0 < val h l := by unfold In2 at hv; omega
  have HB := Lib.hid (fun W => bits_up h l hh hl W)
  have b0 := blZ_nonneg (val h l)
  have b1 := blZ_le hv
  by_cases hfit : n ≤ 128 - blZ (val h l)
  case neg =>
    have hy := leftB_no (left_no hv0 n0 hfit)
    rw [hy.1, hy.2]
    have t3 : decide (128 - blZ (val h l) < n) = true := decide_eq_true (by omega)
    clear hy hfit hz hv0 hneg hv
    generalize blZ (val h l) = b at *
    go_enter Try.func39, Try.ntmps39
    go_wp2_with fail
    refine (isZero_up h l hh hl _).mono ?_
    rintro e w1 ⟨rfl, hu1⟩
    try unfold got2
    have c1_0 := hu1.keep (w.heap.size) (0) (.int .u64 h) (by simp [go_sem, *])
    have c1_1 := hu1.keep (w.heap.size) (1) (.int .u64 l) (by simp [go_sem, *])
    have c1_2 := hu1.keep (w.heap.size + 1) (0) (.int .u64 0) (by simp [go_sem, *])
    have c1_3 := hu1.keep (w.heap.size + 1) (1) (.int .u64 0) (by simp [go_sem, *])
    have l1_0 : w.heap.size < w1.heap.size := World.block_lt_of_cell? _ _ c1_0
    have m1_0 : w.heap.size < w1.heap.size + 1 := by omega
    have n1_0 : w.heap.size < w1.heap.size + 1 + 1 := by omega
    have x1_0 : ¬ w1.heap.size = w.heap.size := by omega
    have y1_0 : ¬ w1.heap.size + 1 = w.heap.size := by omega
    have l1_1 : w.heap.size + 1 < w1.heap.size := World.block_lt_of_cell? _ _ c1_2
    have m1_1 : w.heap.size + 1 < w1.heap.size + 1 := by omega
    have n1_1 : w.heap.size + 1 < w1.heap.size + 1 + 1 := by omega
    have x1_1 : ¬ w1.heap.size = w.heap.size + 1 := by omega
    have y1_1 : ¬ w1.heap.size + 1 = w.heap.size + 1 := by omega
    have HU1 : Hid (Up w w1) := Lib.hid (by ((repeat (first | (with_reducible exact Up.refl _) | (with_reducible refine Up.trans ?_ hu1) | (with_reducible refine Up.alloc ?_ _ _) | (with_reducible refine Up.setCell ?_ ?_ _) | (with_reducible refine Up.drewN ?_ _) | (with_reducible refine Up.drew ?_))); all_goals (first | (simp; done) | (simp; omega) | omega)))
    clear hu1
    go_wp2_with fail
    refine (HB.out _).mono ?_
    rintro e w2 ⟨rfl, hu2⟩
    try unfold got2
    have c2_0 := hu2.keep (w.heap.size + 1) (0) (.int .u64 0) (by simp [go_sem, *])
    have c2_1 := hu2.keep (w.heap.size + 1) (1) (.int .u64 0) (by simp [go_sem, *])
    have l2_0 : w.heap.size + 1 < w2.heap.size := World.block_lt_of_cell? _ _ c2_0
    have m2_0 : w.heap.size + 1 < w2.heap.size + 1 := by omega
    have n2_0 : w.heap.size + 1 < w2.heap.size + 1 + 1 := by omega
    have x2_0 : ¬ w2.heap.size = w.heap.size + 1 := by omega
    have y2_0 : ¬ w2.heap.size + 1 = w.heap.size + 1 := by omega
    have HU2 : Hid (Up w w2) := Lib.hid (by ((repeat (first | (with_reducible exact Up.refl _) | (with_reducible exact HU1.out) | (with_reducible refine Up.trans ?_ hu2) | (with_reducible refine Up.alloc ?_ _ _) | (with_reducible refine Up.setCell ?_ ?_ _) | (with_reducible refine Up.drewN ?_ _) | (with_reducible refine Up.drew ?_))); all_goals (first | (simp; done) | (simp; omega) | omega)))
    clear hu2 c1_0 c1_1 c1_2 c1_3
    have z0 := HU2.out.own 1 0
    have z1 := HU2.out.own 1 1
    go_wp2_with fail
    refine bodyPost_ret (v := .tuple #[.agg #[.int .u64 0, .int .u64 0], .bool false]) (by simp [results, Try.results39, go_sem, c2_0, c2_1]) rfl ⟨?_, ?_⟩
    · rfl
    · ((repeat (first | (with_reducible exact Up.refl _) | (with_reducible exact HU2.out) | (with_reducible refine Up.alloc ?_ _ _) | (with_reducible refine Up.setCell ?_ ?_ _) | (with_reducible refine Up.drewN ?_ _) | (with_reducible refine Up.drew ?_))); all_goals (first | (simp; done) | (simp; omega) | omega))
  have hi := left_yes hv0 n0 hfit
  have hy := leftB_yes n0 hi
  rw [hy.1, hy.2]
  have t3 : decide (128 - blZ (val h l) < n) = false := decide_eq_false (by omega)
  have n3 : n ≤ 128 := by omega
  by_cases h64 : 64 ≤ n
  · have t4 : decide (64 ≤ n) = true := decide_eq_true h64
    have h00 := high_zero hh hl h64 hfit
    subst h00
    obtain ⟨e1, e2⟩ := shl_high hl h64 hi
    have HE2 := Lib.hid e2
    clear hy hfit hz hv0 hneg hv hi e2 n1 n2
    generalize hX : hiZ (val 0 l * 2 ^ n.toNat) = X at *
    have HX := Lib.hid hX
    clear hX
    generalize blZ (val 0 l) = b at *
    go_enter Try.func39, Try.ntmps39
    go_wp2_with fail
    refine (isZero_up 0 l hh hl _).mono ?_
    rintro e w1 ⟨rfl, hu1⟩
    try unfold got2
    have c1_0 := hu1.keep (w.heap.size) (0) (.int .u64 0) (by simp [go_sem, *])
    have c1_1 := hu1.keep (w.heap.size) (1) (.int .u64 l) (by simp [go_sem, *])
    have c1_2 := hu1.keep (w.heap.size + 1) (0) (.int .u64 0) (by simp [go_sem, *])
    have c1_3 := hu1.keep (w.heap.size + 1) (1) (.int .u64 0) (by simp [go_sem, *])
    have l1_0 : w.heap.size < w1.heap.size := World.block_lt_of_cell? _ _ c1_0
    have m1_0 : w.heap.size < w1.heap.size + 1 := by omega
    have n1_0 : w.heap.size < w1.heap.size + 1 + 1 := by omega
    have x1_0 : ¬ w1.heap.size = w.heap.size := by omega
    have y1_0 : ¬ w1.heap.size + 1 = w.heap.size := by omega
    have l1_1 : w.heap.size + 1 < w1.heap.size := World.block_lt_of_cell? _ _ c1_2
    have m1_1 : w.heap.size + 1 < w1.heap.size + 1 := by omega
    have n1_1 : w.heap.size + 1 < w1.heap.size + 1 + 1 := by omega
    have x1_1 : ¬ w1.heap.size = w.heap.size + 1 := by omega
    have y1_1 : ¬ w1.heap.size + 1 = w.heap.size + 1 := by omega
    have HU1 : Hid (Up w w1) := Lib.hid (by ((repeat (first | (with_reducible exact Up.refl _) | (with_reducible refine Up.trans ?_ hu1) | (with_reducible refine Up.alloc ?_ _ _) | (with_reducible refine Up.setCell ?_ ?_ _) | (with_reducible refine Up.drewN ?_ _) | (with_reducible refine Up.drew ?_))); all_goals (first | (simp; done) | (simp; omega) | omega)))
    clear hu1
    go_wp2_with fail
    refine (HB.out _).mono ?_
    rintro e w2 ⟨rfl, hu2⟩
    try unfold got2
    have c2_0 := hu2.keep (w.heap.size) (0) (.int .u64 0) (by simp [go_sem, *])
    have c2_1 := hu2.keep (w.heap.size) (1) (.int .u64 l) (by simp [go_sem, *])
    have c2_2 := hu2.keep (w.heap.size + 1) (0) (.int .u64 0) (by simp [go_sem, *])
    have c2_3 := hu2.keep (w.heap.size + 1) (1) (.int .u64 0) (by simp [go_sem, *])
    have l2_0 : w.heap.size < w2.heap.size := World.block_lt_of_cell? _ _ c2_0
    have m2_0 : w.heap.size < w2.heap.size + 1 := by omega
    have n2_0 : w.heap.size < w2.heap.size + 1 + 1 := by omega
    have x2_0 : ¬ w2.heap.size = w.heap.size := by omega
    have y2_0 : ¬ w2.heap.size + 1 = w.heap.size := by omega
    have l2_1 : w.heap.size + 1 < w2.heap.size := World.block_lt_of_cell? _ _ c2_2
    have m2_1 : w.heap.size + 1 < w2.heap.size + 1 := by omega
    have n2_1 : w.heap.size + 1 < w2.heap.size + 1 + 1 := by omega
    have x2_1 : ¬ w2.heap.size = w.heap.size + 1 := by omega
    have y2_1 : ¬ w2.heap.size + 1 = w.heap.size + 1 := by omega
    have HU2 : Hid (Up w w2) := Lib.hid (by ((repeat (first | (with_reducible exact Up.refl _) | (with_reducible exact HU1.out) | (with_reducible refine Up.trans ?_ hu2) | (with_reducible refine Up.alloc ?_ _ _) | (with_reducible refine Up.setCell ?_ ?_ _) | (with_reducible refine Up.drewN ?_ _) | (with_reducible refine Up.drew ?_))); all_goals (first | (simp; done) | (simp; omega) | omega)))
    clear hu2 c1_0 c1_1 c1_2 c1_3
    have z0 := HU2.out.own 1 0
    have z1 := HU2.out.own 1 1
    go_wp2_with fail
    refine bodyPost_ret (v := .tuple #[.agg #[.int .u64 X, .int .u64 0], .bool true]) (by simp [results, Try.results39, go_sem, c2_2, c2_3]) rfl ⟨?_, ?_⟩
    · unfold got2; rw [HX.out, HE2.out]
    · ((repeat (first | (with_reducible exact Up.refl _) | (with_reducible exact HU2.out) | (with_reducible refine Up.alloc ?_ _ _) | (with_reducible refine Up.setCell ?_ ?_ _) | (with_reducible refine Up.drewN ?_ _) | (with_reducible refine Up.drew ?_))); all_goals (first | (simp; done) | (simp; omega) | omega))
  · have t4 : decide (64 ≤ n) = false := decide_eq_false h64
    have hk := low_small hl hi
    obtain ⟨e1, e2, _⟩ := shl_words h l n hh hl n0 (by omega) hk
    have n4 : n ≤ 63 := by omega
    have hw : IntKind.i64.wrap (64 - n) = 64 - n := IntWalk.i64_in _ (by omega)
    clear hy hfit hz hv0 hneg hv hi n1 n2 hk h64
    generalize hX : hiZ (val h l * 2 ^ n.toNat) = X at *
    generalize hY : loZ (val h l * 2 ^ n.toNat) = Y at *
    have HX := Lib.hid hX
    have HY := Lib.hid hY
    clear hX hY
    generalize blZ (val h l) = b at *
    go_enter Try.func39, Try.ntmps39
    go_wp2_with fail
    refine (isZero_up h l hh hl _).mono ?_
    rintro e w1 ⟨rfl, hu1⟩
    try unfold got2
    have c1_0 := hu1.keep (w.heap.size) (0) (.int .u64 h) (by simp [go_sem, *])
    have c1_1 := hu1.keep (w.heap.size) (1) (.int .u64 l) (by simp [go_sem, *])
    have c1_2 := hu1.keep (w.heap.size + 1) (0) (.int .u64 0) (by simp [go_sem, *])
    have c1_3 := hu1.keep (w.heap.size + 1) (1) (.int .u64 0) (by simp [go_sem, *])
    have l1_0 : w.heap.size < w1.heap.size := World.block_lt_of_cell? _ _ c1_0
    have m1_0 : w.heap.size < w1.heap.size + 1 := by omega
    have n1_0 : w.heap.size < w1.heap.size + 1 + 1 := by omega
    have x1_0 : ¬ w1.heap.size = w.heap.size := by omega
    have y1_0 : ¬ w1.heap.size + 1 = w.heap.size := by omega
    have l1_1 : w.heap.size + 1 < w1.heap.size := World.block_lt_of_cell? _ _ c1_2
    have m1_1 : w.heap.size + 1 < w1.heap.size + 1 := by omega
    have n1_1 : w.heap.size + 1 < w1.heap.size + 1 + 1 := by omega
    have x1_1 : ¬ w1.heap.size = w.heap.size + 1 := by omega
    have y1_1 : ¬ w1.heap.size + 1 = w.heap.size + 1 := by omega
    have HU1 : Hid (Up w w1) := Lib.hid (by ((repeat (first | (with_reducible exact Up.refl _) | (with_reducible refine Up.trans ?_ hu1) | (with_reducible refine Up.alloc ?_ _ _) | (with_reducible refine Up.setCell ?_ ?_ _) | (with_reducible refine Up.drewN ?_ _) | (with_reducible refine Up.drew ?_))); all_goals (first | (simp; done) | (simp; omega) | omega)))
    clear hu1
    go_wp2_with fail
    refine (HB.out _).mono ?_
    rintro e w2 ⟨rfl, hu2⟩
    try unfold got2
    have c2_0 := hu2.keep (w.heap.size) (0) (.int .u64 h) (by simp [go_sem, *])
    have c2_1 := hu2.keep (w.heap.size) (1) (.int .u64 l) (by simp [go_sem, *])
    have c2_2 := hu2.keep (w.heap.size + 1) (0) (.int .u64 0) (by simp [go_sem, *])
    have c2_3 := hu2.keep (w.heap.size + 1) (1) (.int .u64 0) (by simp [go_sem, *])
    have l2_0 : w.heap.size < w2.heap.size := World.block_lt_of_cell? _ _ c2_0
    have m2_0 : w.heap.size < w2.heap.size + 1 := by omega
    have n2_0 : w.heap.size < w2.heap.size + 1 + 1 := by omega
    have x2_0 : ¬ w2.heap.size = w.heap.size := by omega
    have y2_0 : ¬ w2.heap.size + 1 = w.heap.size := by omega
    have l2_1 : w.heap.size + 1 < w2.heap.size := World.block_lt_of_cell? _ _ c2_2
    have m2_1 : w.heap.size + 1 < w2.heap.size + 1 := by omega
    have n2_1 : w.heap.size + 1 < w2.heap.size + 1 + 1 := by omega
    have x2_1 : ¬ w2.heap.size = w.heap.size + 1 := by omega
    have y2_1 : ¬ w2.heap.size + 1 = w.heap.size + 1 := by omega
    have HU2 : Hid (Up w w2) := Lib.hid (by ((repeat (first | (with_reducible exact Up.refl _) | (with_reducible exact HU1.out) | (with_reducible refine Up.trans ?_ hu2) | (with_reducible refine Up.alloc ?_ _ _) | (with_reducible refine Up.setCell ?_ ?_ _) | (with_reducible refine Up.drewN ?_ _) | (with_reducible refine Up.drew ?_))); all_goals (first | (simp; done) | (simp; omega) | omega)))
    clear hu2 c1_0 c1_1 c1_2 c1_3
    have z0 := HU2.out.own 1 0
    have z1 := HU2.out.own 1 1
    go_wp2_with fail
    go_region
    go_wp2_with fail
    refine bodyPost_ret (v := .tuple #[.agg #[.int .u64 X, .int .u64 Y], .bool true]) (by simp [results, Try.results39, go_sem, c2_2, c2_3]) rfl ⟨?_, ?_⟩
    · unfold got2; rw [HX.out, HY.out]
    · ((repeat (first | (with_reducible exact Up.refl _) | (with_reducible exact HU2.out) | (with_reducible refine Up.alloc ?_ _ _) | (with_reducible refine Up.setCell ?_ ?_ _) | (with_reducible refine Up.drewN ?_ _) | (with_reducible refine Up.drew ?_))); all_goals (first | (simp; done) | (simp; omega) | omega))

end Go.Proofs.Ytegaeaonoggmkaa
