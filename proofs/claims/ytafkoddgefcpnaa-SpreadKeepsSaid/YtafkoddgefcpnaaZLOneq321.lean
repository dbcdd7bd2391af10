/- Package spread and its reference: Close; closeness as a rule. -/
import Derived.Test.YtafkoddgefcpnaaRows
import Derived.Test.YtafkoddgefcpnaaZLBaseq319
namespace Go.Proofs.Ytafkoddgefcpnaa
open Go.RowKit
set_option linter.unusedVariables false

theorem cross_ge {a b c d : Int} : decide (0 ≤ crossZ a b c d) = decide (c * d ≤ a * b) := by
  rw [crossZ_eq]
  refine decide_eq_decide.2 ⟨fun h => ?_, fun h => ?_⟩
  · have := (cmpZ_neg (a * b) (c * d)).2
    omega
  · have := (cmpZ_neg (a * b) (c * d)).1
    omega
/-- How great the products are that Close forms. -/
theorem close_bd {k n : Int} (hk : 1 ≤ k ∧ k ≤ 64) (hn : 1 ≤ n ∧ n ≤ 65536) : (1 ≤ 6 * k * n ∧ 6 * k * n ≤ 25165824) ∧ (1 ≤ (6 * k - 1) * n ∧ (6 * k - 1) * n ≤ 25165824) := by
  have a1 : 6 * k * n ≤ 384 * n := Int.mul_le_mul_of_nonneg_right (by omega) (by omega)
  have a2 : 1 * n ≤ (6 * k - 1) * n := Int.mul_le_mul_of_nonneg_right (by omega) (by omega)
  have a3 : (6 * k - 1) * n = 6 * k * n - n := by rw [Int.sub_mul, Int.one_mul]
  omega
set_option maxHeartbeats 4000000 in
set_option maxRecDepth 100000 in
theorem close14_up (sq1 t1 nn1 s1 qq1 lo1 hi1 sq2 t2 nn2 s2 qq2 lo2 hi2 k : Int) (w : World) :
    Calls Try.prog 47 #[.agg #[.int .i64 sq1, .int .i64 t1, .int .i64 nn1, .int .i64 s1, .int .i64 qq1, .int .i64 lo1, .int .i64 hi1], .agg #[.int .i64 sq2, .int .i64 t2, .int .i64 nn2, .int .i64 s2, .int .i64 qq2, .int .i64 lo2, .int .i64 hi2], .int .i64 k] w fun e w' => e = .returned (.bool (clQ k ⟨sq1, t1, nn1, s1, qq1, lo1, hi1⟩ ⟨sq2, t2, nn2, s2, qq2, lo2, hi2⟩)) ∧ Up w w' := by
  have KA := Lib.hid (hasSpread_up sq1 t1 nn1 s1 qq1 lo1 hi1)
  have KB := Lib.hid (hasSpread_up sq2 t2 nn2 s2 qq2 lo2 hi2)
  cases ha : myM ⟨sq1, t1, nn1, s1, qq1, lo1, hi1⟩ with
  | false =>
    rw [clQ_no (fun h => by rw [ha] at h; exact Bool.false_ne_true h.1)]
    rw [ha] at KA
    clear ha
    go_enter Try.func47, Try.ntmps47
    go_wp2_with (first | (go_at_call 91; (with_reducible refine (KA.out _).mono ?_); rintro e w1 ⟨rfl, hu⟩; have HU1 := Lib.hid ((((Up.refl w).alloc _ _).alloc _ _).trans hu); have a0 := hu.keep w.heap.size 0 (.int .i64 sq1) (by simp [go_sem]); have a1 := hu.keep w.heap.size 1 (.int .i64 t1) (by simp [go_sem]); have a2 := hu.keep w.heap.size 2 (.int .i64 nn1) (by simp [go_sem]); have a3 := hu.keep w.heap.size 3 (.int .i64 s1) (by simp [go_sem]); have a4 := hu.keep w.heap.size 4 (.int .i64 qq1) (by simp [go_sem]); have a5 := hu.keep w.heap.size 5 (.int .i64 lo1) (by simp [go_sem]); have a6 := hu.keep w.heap.size 6 (.int .i64 hi1) (by simp [go_sem]); have b0 := hu.keep (w.heap.size + 1) 0 (.int .i64 sq2) (by simp [go_sem]); have b1 := hu.keep (w.heap.size + 1) 1 (.int .i64 t2) (by simp [go_sem]); have b2 := hu.keep (w.heap.size + 1) 2 (.int .i64 nn2) (by simp [go_sem]); have b3 := hu.keep (w.heap.size + 1) 3 (.int .i64 s2) (by simp [go_sem]); have b4 := hu.keep (w.heap.size + 1) 4 (.int .i64 qq2) (by simp [go_sem]); have b5 := hu.keep (w.heap.size + 1) 5 (.int .i64 lo2) (by simp [go_sem]); have b6 := hu.keep (w.heap.size + 1) 6 (.int .i64 hi2) (by simp [go_sem]); clear hu) | (go_at_call 91; (with_reducible refine (KB.out _).mono ?_); rintro e w2 ⟨rfl, hu⟩; have HU2 := Lib.hid (HU1.out.trans hu); have a0 := hu.keep _ _ _ a0; have a1 := hu.keep _ _ _ a1; have a2 := hu.keep _ _ _ a2; have a3 := hu.keep _ _ _ a3; have a4 := hu.keep _ _ _ a4; have a5 := hu.keep _ _ _ a5; have a6 := hu.keep _ _ _ a6; have b0 := hu.keep _ _ _ b0; have b1 := hu.keep _ _ _ b1; have b2 := hu.keep _ _ _ b2; have b3 := hu.keep _ _ _ b3; have b4 := hu.keep _ _ _ b4; have b5 := hu.keep _ _ _ b5; have b6 := hu.keep _ _ _ b6; clear hu))
    go_ret
    exact ⟨rfl, HU1.out⟩
  | true =>
  cases hb : myM ⟨sq2, t2, nn2, s2, qq2, lo2, hi2⟩ with
  | false =>
    rw [clQ_no (fun h => by rw [hb] at h; exact Bool.false_ne_true h.2.1)]
    rw [ha] at KA
    rw [hb] at KB
    clear ha hb
    go_enter Try.func47, Try.ntmps47
    go_wp2_with (first | (go_at_call 91; (with_reducible refine (KA.out _).mono ?_); rintro e w1 ⟨rfl, hu⟩; have HU1 := Lib.hid ((((Up.refl w).alloc _ _).alloc _ _).trans hu); have a0 := hu.keep w.heap.size 0 (.int .i64 sq1) (by simp [go_sem]); have a1 := hu.keep w.heap.size 1 (.int .i64 t1) (by simp [go_sem]); have a2 := hu.keep w.heap.size 2 (.int .i64 nn1) (by simp [go_sem]); have a3 := hu.keep w.heap.size 3 (.int .i64 s1) (by simp [go_sem]); have a4 := hu.keep w.heap.size 4 (.int .i64 qq1) (by simp [go_sem]); have a5 := hu.keep w.heap.size 5 (.int .i64 lo1) (by simp [go_sem]); have a6 := hu.keep w.heap.size 6 (.int .i64 hi1) (by simp [go_sem]); have b0 := hu.keep (w.heap.size + 1) 0 (.int .i64 sq2) (by simp [go_sem]); have b1 := hu.keep (w.heap.size + 1) 1 (.int .i64 t2) (by simp [go_sem]); have b2 := hu.keep (w.heap.size + 1) 2 (.int .i64 nn2) (by simp [go_sem]); have b3 := hu.keep (w.heap.size + 1) 3 (.int .i64 s2) (by simp [go_sem]); have b4 := hu.keep (w.heap.size + 1) 4 (.int .i64 qq2) (by simp [go_sem]); have b5 := hu.keep (w.heap.size + 1) 5 (.int .i64 lo2) (by simp [go_sem]); have b6 := hu.keep (w.heap.size + 1) 6 (.int .i64 hi2) (by simp [go_sem]); clear hu) | (go_at_call 91; (with_reducible refine (KB.out _).mono ?_); rintro e w2 ⟨rfl, hu⟩; have HU2 := Lib.hid (HU1.out.trans hu); have a0 := hu.keep _ _ _ a0; have a1 := hu.keep _ _ _ a1; have a2 := hu.keep _ _ _ a2; have a3 := hu.keep _ _ _ a3; have a4 := hu.keep _ _ _ a4; have a5 := hu.keep _ _ _ a5; have a6 := hu.keep _ _ _ a6; have b0 := hu.keep _ _ _ b0; have b1 := hu.keep _ _ _ b1; have b2 := hu.keep _ _ _ b2; have b3 := hu.keep _ _ _ b3; have b4 := hu.keep _ _ _ b4; have b5 := hu.keep _ _ _ b5; have b6 := hu.keep _ _ _ b6; clear hu))
    go_ret
    exact ⟨rfl, HU2.out⟩
  | true =>
  rw [ha] at KA
  rw [hb] at KB
  by_cases k1 : k < 1
  · rw [clQ_no (fun h => by omega)]
    have tk1 : decide (k < 1) = true := decide_eq_true k1
    clear ha hb
    go_enter Try.func47, Try.ntmps47
    go_wp2_with (first | (go_at_call 91; (with_reducible refine (KA.out _).mono ?_); rintro e w1 ⟨rfl, hu⟩; have HU1 := Lib.hid ((((Up.refl w).alloc _ _).alloc _ _).trans hu); have a0 := hu.keep w.heap.size 0 (.int .i64 sq1) (by simp [go_sem]); have a1 := hu.keep w.heap.size 1 (.int .i64 t1) (by simp [go_sem]); have a2 := hu.keep w.heap.size 2 (.int .i64 nn1) (by simp [go_sem]); have a3 := hu.keep w.heap.size 3 (.int .i64 s1) (by simp [go_sem]); have a4 := hu.keep w.heap.size 4 (.int .i64 qq1) (by simp [go_sem]); have a5 := hu.keep w.heap.size 5 (.int .i64 lo1) (by simp [go_sem]); have a6 := hu.keep w.heap.size 6 (.int .i64 hi1) (by simp [go_sem]); have b0 := hu.keep (w.heap.size + 1) 0 (.int .i64 sq2) (by simp [go_sem]); have b1 := hu.keep (w.heap.size + 1) 1 (.int .i64 t2) (by simp [go_sem]); have b2 := hu.keep (w.heap.size + 1) 2 (.int .i64 nn2) (by simp [go_sem]); have b3 := hu.keep (w.heap.size + 1) 3 (.int .i64 s2) (by simp [go_sem]); have b4 := hu.keep (w.heap.size + 1) 4 (.int .i64 qq2) (by simp [go_sem]); have b5 := hu.keep (w.heap.size + 1) 5 (.int .i64 lo2) (by simp [go_sem]); have b6 := hu.keep (w.heap.size + 1) 6 (.int .i64 hi2) (by simp [go_sem]); clear hu) | (go_at_call 91; (with_reducible refine (KB.out _).mono ?_); rintro e w2 ⟨rfl, hu⟩; have HU2 := Lib.hid (HU1.out.trans hu); have a0 := hu.keep _ _ _ a0; have a1 := hu.keep _ _ _ a1; have a2 := hu.keep _ _ _ a2; have a3 := hu.keep _ _ _ a3; have a4 := hu.keep _ _ _ a4; have a5 := hu.keep _ _ _ a5; have a6 := hu.keep _ _ _ a6; have b0 := hu.keep _ _ _ b0; have b1 := hu.keep _ _ _ b1; have b2 := hu.keep _ _ _ b2; have b3 := hu.keep _ _ _ b3; have b4 := hu.keep _ _ _ b4; have b5 := hu.keep _ _ _ b5; have b6 := hu.keep _ _ _ b6; clear hu))
    go_ret
    exact ⟨rfl, HU2.out⟩
  have tk1 : decide (k < 1) = false := decide_eq_false k1
  by_cases k2 : 64 < k
  · rw [clQ_no (fun h => by omega)]
    have tk2 : decide (64 < k) = true := decide_eq_true k2
    clear ha hb
    go_enter Try.func47, Try.ntmps47
    go_wp2_with (first | (go_at_call 91; (with_reducible refine (KA.out _).mono ?_); rintro e w1 ⟨rfl, hu⟩; have HU1 := Lib.hid ((((Up.refl w).alloc _ _).alloc _ _).trans hu); have a0 := hu.keep w.heap.size 0 (.int .i64 sq1) (by simp [go_sem]); have a1 := hu.keep w.heap.size 1 (.int .i64 t1) (by simp [go_sem]); have a2 := hu.keep w.heap.size 2 (.int .i64 nn1) (by simp [go_sem]); have a3 := hu.keep w.heap.size 3 (.int .i64 s1) (by simp [go_sem]); have a4 := hu.keep w.heap.size 4 (.int .i64 qq1) (by simp [go_sem]); have a5 := hu.keep w.heap.size 5 (.int .i64 lo1) (by simp [go_sem]); have a6 := hu.keep w.heap.size 6 (.int .i64 hi1) (by simp [go_sem]); have b0 := hu.keep (w.heap.size + 1) 0 (.int .i64 sq2) (by simp [go_sem]); have b1 := hu.keep (w.heap.size + 1) 1 (.int .i64 t2) (by simp [go_sem]); have b2 := hu.keep (w.heap.size + 1) 2 (.int .i64 nn2) (by simp [go_sem]); have b3 := hu.keep (w.heap.size + 1) 3 (.int .i64 s2) (by simp [go_sem]); have b4 := hu.keep (w.heap.size + 1) 4 (.int .i64 qq2) (by simp [go_sem]); have b5 := hu.keep (w.heap.size + 1) 5 (.int .i64 lo2) (by simp [go_sem]); have b6 := hu.keep (w.heap.size + 1) 6 (.int .i64 hi2) (by simp [go_sem]); clear hu) | (go_at_call 91; (with_reducible refine (KB.out _).mono ?_); rintro e w2 ⟨rfl, hu⟩; have HU2 := Lib.hid (HU1.out.trans hu); have a0 := hu.keep _ _ _ a0; have a1 := hu.keep _ _ _ a1; have a2 := hu.keep _ _ _ a2; have a3 := hu.keep _ _ _ a3; have a4 := hu.keep _ _ _ a4; have a5 := hu.keep _ _ _ a5; have a6 := hu.keep _ _ _ a6; have b0 := hu.keep _ _ _ b0; have b1 := hu.keep _ _ _ b1; have b2 := hu.keep _ _ _ b2; have b3 := hu.keep _ _ _ b3; have b4 := hu.keep _ _ _ b4; have b5 := hu.keep _ _ _ b5; have b6 := hu.keep _ _ _ b6; clear hu))
    go_ret
    exact ⟨rfl, HU2.out⟩
  have tk2 : decide (64 < k) = false := decide_eq_false k2
  have hk : 1 ≤ k ∧ k ≤ 64 := by omega
  rw [clQ_form ha hb hk]
  have q1 := myM_bd ha
  have q2 := myM_bd hb
  have d1 := close_bd hk q1.1
  have d2 := close_bd hk q2.1
  simp only at q1 q2 d1 d2 ⊢
  obtain ⟨k1_, k2_⟩ := hk
  have w1_ : IntKind.i64.wrap (6 * k) = 6 * k := by rw [IntKind.wrap_i64]; omega
  have w2_ : IntKind.i64.wrap (6 * k - 1) = 6 * k - 1 := by rw [IntKind.wrap_i64]; omega
  have w3_ : IntKind.i64.wrap (6 * k * nn2) = 6 * k * nn2 := by rw [IntKind.wrap_i64]; omega
  have w4_ : IntKind.i64.wrap ((6 * k - 1) * nn1) = (6 * k - 1) * nn1 := by rw [IntKind.wrap_i64]; omega
  have w5_ : IntKind.i64.wrap (6 * k * nn1) = 6 * k * nn1 := by rw [IntKind.wrap_i64]; omega
  have w6_ : IntKind.i64.wrap ((6 * k - 1) * nn2) = (6 * k - 1) * nn2 := by rw [IntKind.wrap_i64]; omega
  by_cases hn : 6 * k * nn2 < (6 * k - 1) * nn1
  · rw [decide_eq_false (p := (6 * k - 1) * nn1 ≤ 6 * k * nn2) (by omega), Bool.false_and]
    have tk3 : decide (6 * k * nn2 < (6 * k - 1) * nn1) = true := decide_eq_true hn
    clear ha hb q1 q2 d1 d2 hn
    go_enter Try.func47, Try.ntmps47
    go_wp2_with (first | (go_at_call 91; (with_reducible refine (KA.out _).mono ?_); rintro e w1 ⟨rfl, hu⟩; have HU1 := Lib.hid ((((Up.refl w).alloc _ _).alloc _ _).trans hu); have a0 := hu.keep w.heap.size 0 (.int .i64 sq1) (by simp [go_sem]); have a1 := hu.keep w.heap.size 1 (.int .i64 t1) (by simp [go_sem]); have a2 := hu.keep w.heap.size 2 (.int .i64 nn1) (by simp [go_sem]); have a3 := hu.keep w.heap.size 3 (.int .i64 s1) (by simp [go_sem]); have a4 := hu.keep w.heap.size 4 (.int .i64 qq1) (by simp [go_sem]); have a5 := hu.keep w.heap.size 5 (.int .i64 lo1) (by simp [go_sem]); have a6 := hu.keep w.heap.size 6 (.int .i64 hi1) (by simp [go_sem]); have b0 := hu.keep (w.heap.size + 1) 0 (.int .i64 sq2) (by simp [go_sem]); have b1 := hu.keep (w.heap.size + 1) 1 (.int .i64 t2) (by simp [go_sem]); have b2 := hu.keep (w.heap.size + 1) 2 (.int .i64 nn2) (by simp [go_sem]); have b3 := hu.keep (w.heap.size + 1) 3 (.int .i64 s2) (by simp [go_sem]); have b4 := hu.keep (w.heap.size + 1) 4 (.int .i64 qq2) (by simp [go_sem]); have b5 := hu.keep (w.heap.size + 1) 5 (.int .i64 lo2) (by simp [go_sem]); have b6 := hu.keep (w.heap.size + 1) 6 (.int .i64 hi2) (by simp [go_sem]); clear hu) | (go_at_call 91; (with_reducible refine (KB.out _).mono ?_); rintro e w2 ⟨rfl, hu⟩; have HU2 := Lib.hid (HU1.out.trans hu); have a0 := hu.keep _ _ _ a0; have a1 := hu.keep _ _ _ a1; have a2 := hu.keep _ _ _ a2; have a3 := hu.keep _ _ _ a3; have a4 := hu.keep _ _ _ a4; have a5 := hu.keep _ _ _ a5; have a6 := hu.keep _ _ _ a6; have b0 := hu.keep _ _ _ b0; have b1 := hu.keep _ _ _ b1; have b2 := hu.keep _ _ _ b2; have b3 := hu.keep _ _ _ b3; have b4 := hu.keep _ _ _ b4; have b5 := hu.keep _ _ _ b5; have b6 := hu.keep _ _ _ b6; clear hu))
    go_ret
    exact ⟨rfl, HU2.out⟩
  have tk3 : decide (6 * k * nn2 < (6 * k - 1) * nn1) = false := decide_eq_false hn
  rw [decide_eq_true (p := (6 * k - 1) * nn1 ≤ 6 * k * nn2) (by omega), Bool.true_and]
  have K1 := Lib.hid (scaled_up sq2 t2 nn2 s2 qq2 lo2 hi2 hb)
  have K2 := Lib.hid (scaled_up sq1 t1 nn1 s1 qq1 lo1 hi1 ha)
  have K3 := Lib.hid (cross_up (spM ⟨sq2, t2, nn2, s2, qq2, lo2, hi2⟩) (6 * k * nn1) (spM ⟨sq1, t1, nn1, s1, qq1, lo1, hi1⟩) ((6 * k - 1) * nn2) (spM_in hb).1 ⟨by omega, by omega⟩ (spM_in ha).1 ⟨by omega, by omega⟩)
  have HD := Lib.hid (cross_ge (a := spM ⟨sq2, t2, nn2, s2, qq2, lo2, hi2⟩) (b := 6 * k * nn1) (c := spM ⟨sq1, t1, nn1, s1, qq1, lo1, hi1⟩) (d := (6 * k - 1) * nn2))
  rw [← HD.out]
  clear HD ha hb q1 q2 d1 d2 hn
  generalize spM ⟨sq1, t1, nn1, s1, qq1, lo1, hi1⟩ = za at *
  generalize spM ⟨sq2, t2, nn2, s2, qq2, lo2, hi2⟩ = zb at *
  generalize crossZ zb (6 * k * nn1) za ((6 * k - 1) * nn2) = x at *
  go_enter Try.func47, Try.ntmps47
  go_upto_region 6 with (first | (go_at_call 91; (with_reducible refine (KA.out _).mono ?_); rintro e w1 ⟨rfl, hu⟩; have HU1 := Lib.hid ((((Up.refl w).alloc _ _).alloc _ _).trans hu); have a0 := hu.keep w.heap.size 0 (.int .i64 sq1) (by simp [go_sem]); have a1 := hu.keep w.heap.size 1 (.int .i64 t1) (by simp [go_sem]); have a2 := hu.keep w.heap.size 2 (.int .i64 nn1) (by simp [go_sem]); have a3 := hu.keep w.heap.size 3 (.int .i64 s1) (by simp [go_sem]); have a4 := hu.keep w.heap.size 4 (.int .i64 qq1) (by simp [go_sem]); have a5 := hu.keep w.heap.size 5 (.int .i64 lo1) (by simp [go_sem]); have a6 := hu.keep w.heap.size 6 (.int .i64 hi1) (by simp [go_sem]); have b0 := hu.keep (w.heap.size + 1) 0 (.int .i64 sq2) (by simp [go_sem]); have b1 := hu.keep (w.heap.size + 1) 1 (.int .i64 t2) (by simp [go_sem]); have b2 := hu.keep (w.heap.size + 1) 2 (.int .i64 nn2) (by simp [go_sem]); have b3 := hu.keep (w.heap.size + 1) 3 (.int .i64 s2) (by simp [go_sem]); have b4 := hu.keep (w.heap.size + 1) 4 (.int .i64 qq2) (by simp [go_sem]); have b5 := hu.keep (w.heap.size + 1) 5 (.int .i64 lo2) (by simp [go_sem]); have b6 := hu.keep (w.heap.size + 1) 6 (.int .i64 hi2) (by simp [go_sem]); clear hu) | (go_at_call 91; (with_reducible refine (KB.out _).mono ?_); rintro e w2 ⟨rfl, hu⟩; have HU2 := Lib.hid (HU1.out.trans hu); have a0 := hu.keep _ _ _ a0; have a1 := hu.keep _ _ _ a1; have a2 := hu.keep _ _ _ a2; have a3 := hu.keep _ _ _ a3; have a4 := hu.keep _ _ _ a4; have a5 := hu.keep _ _ _ a5; have a6 := hu.keep _ _ _ a6; have b0 := hu.keep _ _ _ b0; have b1 := hu.keep _ _ _ b1; have b2 := hu.keep _ _ _ b2; have b3 := hu.keep _ _ _ b3; have b4 := hu.keep _ _ _ b4; have b5 := hu.keep _ _ _ b5; have b6 := hu.keep _ _ _ b6; clear hu))
  have HSS : Hid (Up w w2 ∧ w2.cell? ⟨w.heap.size, 0, none⟩ = some (.int .i64 sq1) ∧ w2.cell? ⟨w.heap.size, 1, none⟩ = some (.int .i64 t1) ∧ w2.cell? ⟨w.heap.size, 2, none⟩ = some (.int .i64 nn1) ∧ w2.cell? ⟨w.heap.size, 3, none⟩ = some (.int .i64 s1) ∧ w2.cell? ⟨w.heap.size, 4, none⟩ = some (.int .i64 qq1) ∧ w2.cell? ⟨w.heap.size, 5, none⟩ = some (.int .i64 lo1) ∧ w2.cell? ⟨w.heap.size, 6, none⟩ = some (.int .i64 hi1) ∧ w2.cell? ⟨(w.heap.size + 1), 0, none⟩ = some (.int .i64 sq2) ∧ w2.cell? ⟨(w.heap.size + 1), 1, none⟩ = some (.int .i64 t2) ∧ w2.cell? ⟨(w.heap.size + 1), 2, none⟩ = some (.int .i64 nn2) ∧ w2.cell? ⟨(w.heap.size + 1), 3, none⟩ = some (.int .i64 s2) ∧ w2.cell? ⟨(w.heap.size + 1), 4, none⟩ = some (.int .i64 qq2) ∧ w2.cell? ⟨(w.heap.size + 1), 5, none⟩ = some (.int .i64 lo2) ∧ w2.cell? ⟨(w.heap.size + 1), 6, none⟩ = some (.int .i64 hi2)) := Lib.hid ⟨HU2.out, a0, a1, a2, a3, a4, a5, a6, b0, b1, b2, b3, b4, b5, b6⟩
  clear a0 a1 a2 a3 a4 a5 a6 b0 b1 b2 b3 b4 b5 b6
  go_wp2_with fail
  refine wp_region_held_drew (S := fun w' => Up w w' ∧ w'.cell? ⟨w.heap.size, 0, none⟩ = some (.int .i64 sq1) ∧ w'.cell? ⟨w.heap.size, 1, none⟩ = some (.int .i64 t1) ∧ w'.cell? ⟨w.heap.size, 2, none⟩ = some (.int .i64 nn1) ∧ w'.cell? ⟨w.heap.size, 3, none⟩ = some (.int .i64 s1) ∧ w'.cell? ⟨w.heap.size, 4, none⟩ = some (.int .i64 qq1) ∧ w'.cell? ⟨w.heap.size, 5, none⟩ = some (.int .i64 lo1) ∧ w'.cell? ⟨w.heap.size, 6, none⟩ = some (.int .i64 hi1) ∧ w'.cell? ⟨(w.heap.size + 1), 0, none⟩ = some (.int .i64 sq2) ∧ w'.cell? ⟨(w.heap.size + 1), 1, none⟩ = some (.int .i64 t2) ∧ w'.cell? ⟨(w.heap.size + 1), 2, none⟩ = some (.int .i64 nn2) ∧ w'.cell? ⟨(w.heap.size + 1), 3, none⟩ = some (.int .i64 s2) ∧ w'.cell? ⟨(w.heap.size + 1), 4, none⟩ = some (.int .i64 qq2) ∧ w'.cell? ⟨(w.heap.size + 1), 5, none⟩ = some (.int .i64 lo2) ∧ w'.cell? ⟨(w.heap.size + 1), 6, none⟩ = some (.int .i64 hi2)) (by kernel_rfl) ?hB11 (fun hHeld => ?_)
  case hB11 => (first | (with_reducible assumption) | (with_reducible exact keepK14 (Lib.hid (Up.refl _).drew) HSS.out) | (with_reducible exact HX3.out) | (with_reducible exact HX4.out) | (with_reducible exact HX5.out))
  refine wpAnyH_take (i := 0) (oi := ⟨_, _, _, _, _, _⟩) (v := ?v12) rfl (by kernel_rfl) (by kernel_rfl) (by kernel_rfl) (fun _ _ _ h => h) (Or.inl ⟨by rfl, ?hy12⟩) (by assumption) ?_
  case hy12 => (intro w hSw; (try dsimp only at hSw); go_simp; (try (with_reducible rfl)))
  (try simp only [Act.put, List.setIfInBounds_toArray, List.set_cons_zero, List.set_cons_succ])
  refine wpAnyH_take (i := 2) (oi := ⟨_, _, _, _, _, _⟩) (v := ?v13) rfl (by kernel_rfl) (by kernel_rfl) (by kernel_rfl) (fun _ _ _ h => h) (Or.inl ⟨by rfl, ?hy13⟩) (by assumption) ?_
  case hy13 => (intro w hSw; (try dsimp only at hSw); go_simp; (try (with_reducible rfl)))
  (try simp only [Act.put, List.setIfInBounds_toArray, List.set_cons_zero, List.set_cons_succ])
  refine wpAnyH_take (i := 3) (oi := ⟨_, _, _, _, _, _⟩) (v := ?v14) rfl (by kernel_rfl) (by kernel_rfl) (by kernel_rfl) (fun _ _ _ h => h) (Or.inl ⟨by rfl, ?hy14⟩) (by assumption) ?_
  case hy14 => (intro w hSw; (try dsimp only at hSw); go_simp; (try (with_reducible rfl)))
  (try simp only [Act.put, List.setIfInBounds_toArray, List.set_cons_zero, List.set_cons_succ])
  refine wpAnyH_take (i := 4) (oi := ⟨_, _, _, _, _, _⟩) (v := ?v15) rfl (by kernel_rfl) (by kernel_rfl) (by kernel_rfl) (fun _ _ _ h => h) (Or.inl ⟨by rfl, ?hy15⟩) (by assumption) ?_
  case hy15 => (intro w hSw; (try dsimp only at hSw); go_simp; (try (with_reducible rfl)))
  (try simp only [Act.put, List.setIfInBounds_toArray, List.set_cons_zero, List.set_cons_succ])
  refine wpAnyH_take (i := 5) (oi := ⟨_, _, _, _, _, _⟩) (v := ?v16) rfl (by kernel_rfl) (by kernel_rfl) (by kernel_rfl) (fun _ _ _ h => h) (Or.inl ⟨by rfl, ?hy16⟩) (by assumption) ?_
  case hy16 => (intro w hSw; (try dsimp only at hSw); go_simp; (try (with_reducible rfl)))
  (try simp only [Act.put, List.setIfInBounds_toArray, List.set_cons_zero, List.set_cons_succ])
  refine wpAnyH_take (i := 6) (oi := ⟨_, _, _, _, _, _⟩) (v := ?v17) rfl (by kernel_rfl) (by kernel_rfl) (by kernel_rfl) (fun _ _ _ h => h) (Or.inl ⟨by rfl, ?hy17⟩) (by assumption) ?_
  case hy17 => (intro w hSw; (try dsimp only at hSw); go_simp; (try (with_reducible rfl)))
  (try simp only [Act.put, List.setIfInBounds_toArray, List.set_cons_zero, List.set_cons_succ])
  refine wpAnyH_take (i := 8) (oi := ⟨_, _, _, _, _, _⟩) (v := ?v18) rfl (by kernel_rfl) (by kernel_rfl) (by kernel_rfl) (fun _ _ _ h => h) (Or.inl ⟨by rfl, ?hy18⟩) (by assumption) ?_
  case hy18 => (intro w hSw; (try dsimp only at hSw); go_simp; (try (with_reducible rfl)))
  (try simp only [Act.put, List.setIfInBounds_toArray, List.set_cons_zero, List.set_cons_succ])
  refine wpAnyH_take (i := 9) (oi := ⟨_, _, _, _, _, _⟩) (v := ?v19) rfl (by kernel_rfl) (by kernel_rfl) (by kernel_rfl) (fun _ _ _ h => h) (Or.inl ⟨by rfl, ?hy19⟩) (by assumption) ?_
  case hy19 => (intro w hSw; (try dsimp only at hSw); go_simp; (try (with_reducible rfl)))
  (try simp only [Act.put, List.setIfInBounds_toArray, List.set_cons_zero, List.set_cons_succ])
  refine wpAnyH_take (i := 10) (oi := ⟨_, _, _, _, _, _⟩) (v := ?v20) rfl (by kernel_rfl) (by kernel_rfl) (by kernel_rfl) (fun _ _ _ h => h) (Or.inl ⟨by rfl, ?hy20⟩) (by assumption) ?_
  case hy20 => (intro w hSw; (try dsimp only at hSw); go_simp; (try (with_reducible rfl)))
  (try simp only [Act.put, List.setIfInBounds_toArray, List.set_cons_zero, List.set_cons_succ])
  refine wpAnyH_take (i := 11) (oi := ⟨_, _, _, _, _, _⟩) (v := ?v21) rfl (by kernel_rfl) (by kernel_rfl) (by kernel_rfl) (fun _ _ _ h => h) (Or.inl ⟨by rfl, ?hy21⟩) (by assumption) ?_
  case hy21 => (intro w hSw; (try dsimp only at hSw); go_simp; (try (with_reducible rfl)))
  (try simp only [Act.put, List.setIfInBounds_toArray, List.set_cons_zero, List.set_cons_succ])
  refine wpAnyH_ready (rs := [1]) (by kernel_rfl) (by simp) ?_
  refine AllReadyH.cons (o := ⟨_, _, _, _, _, _⟩) rfl (fun K hK => ?_) AllReadyH.nil
  go_simp
  (go_at_call 93; (with_reducible refine (K1.out _).mono ?_); rintro e w3 ⟨rfl, hu⟩; have HU3 := Lib.hid hu; have HX3 := Lib.hid (keepK14 HU3 hHeld); clear hu)
  (try go_wp2_with fail)
  refine hK.out _ _ ?hB22 (fun hHeld => ?_)
  case hB22 => (first | (with_reducible assumption) | (with_reducible exact keepK14 (Lib.hid (Up.refl _).drew) HSS.out) | (with_reducible exact HX3.out) | (with_reducible exact HX4.out) | (with_reducible exact HX5.out))
  clear hK K
  (try simp only [Act.put, List.setIfInBounds_toArray, List.set_cons_zero, List.set_cons_succ])
  refine wpAnyH_ready (rs := [7]) (by kernel_rfl) (by simp) ?_
  refine AllReadyH.cons (o := ⟨_, _, _, _, _, _⟩) rfl (fun K hK => ?_) AllReadyH.nil
  go_simp
  (go_at_call 93; (with_reducible refine (K2.out _).mono ?_); rintro e w4 ⟨rfl, hu⟩; have HU4 := Lib.hid hu; have HX4 := Lib.hid (keepK14 HU4 hHeld); clear hu)
  (try go_wp2_with fail)
  refine hK.out _ _ ?hB23 (fun hHeld => ?_)
  case hB23 => (first | (with_reducible assumption) | (with_reducible exact keepK14 (Lib.hid (Up.refl _).drew) HSS.out) | (with_reducible exact HX3.out) | (with_reducible exact HX4.out) | (with_reducible exact HX5.out))
  clear hK K
  (try simp only [Act.put, List.setIfInBounds_toArray, List.set_cons_zero, List.set_cons_succ])
  refine wpAnyH_ready (rs := [12]) (by kernel_rfl) (by simp) ?_
  refine AllReadyH.cons (o := ⟨_, _, _, _, _, _⟩) rfl (fun K hK => ?_) AllReadyH.nil
  go_simp
  (go_at_call 96; (with_reducible refine (K3.out _).mono ?_); rintro e w5 ⟨rfl, hu⟩; have HU5 := Lib.hid hu; have HX5 := Lib.hid (keepK14 HU5 hHeld); clear hu)
  (try go_wp2_with fail)
  refine hK.out _ _ ?hB24 (fun hHeld => ?_)
  case hB24 => (first | (with_reducible assumption) | (with_reducible exact keepK14 (Lib.hid (Up.refl _).drew) HSS.out) | (with_reducible exact HX3.out) | (with_reducible exact HX4.out) | (with_reducible exact HX5.out))
  clear hK K
  (try simp only [Act.put, List.setIfInBounds_toArray, List.set_cons_zero, List.set_cons_succ])
  refine wpAnyH_take (i := 13) (oi := ⟨_, _, _, _, _, _⟩) (v := ?v25) rfl (by kernel_rfl) (by kernel_rfl) (by kernel_rfl) (fun _ _ _ h => h) (Or.inl ⟨by rfl, ?hy25⟩) (by assumption) ?_
  case hy25 => (intro w hSw; (try dsimp only at hSw); go_simp; (try (with_reducible rfl)))
  (try simp only [Act.put, List.setIfInBounds_toArray, List.set_cons_zero, List.set_cons_succ])
  refine wpAnyH_take (i := 14) (oi := ⟨_, _, _, _, _, _⟩) (v := ?v26) rfl (by kernel_rfl) (by kernel_rfl) (by kernel_rfl) (fun _ _ _ h => h) (Or.inl ⟨by rfl, ?hy26⟩) (by assumption) ?_
  case hy26 => (intro w hSw; (try dsimp only at hSw); go_simp; (try (with_reducible rfl)))
  (try simp only [Act.put, List.setIfInBounds_toArray, List.set_cons_zero, List.set_cons_succ])
  refine wpAnyH_done (by kernel_rfl) ?_ _
  go_wp2_with fail
  go_ret
  exact ⟨rfl, HX5.out.1⟩

set_option maxHeartbeats 4000000 in
set_option maxRecDepth 100000 in
theorem rclose14_up (sq1 t1 nn1 s1 qq1 lo1 hi1 sq2 t2 nn2 s2 qq2 lo2 hi2 k : Int) (w : World) :
    Calls Try.prog 48 #[.agg #[.int .i64 sq1, .int .i64 t1, .int .i64 nn1, .int .i64 s1, .int .i64 qq1, .int .i64 lo1, .int .i64 hi1], .agg #[.int .i64 sq2, .int .i64 t2, .int .i64 nn2, .int .i64 s2, .int .i64 qq2, .int .i64 lo2, .int .i64 hi2], .int .i64 k] w fun e w' => e = .returned (.bool (clQ k ⟨sq1, t1, nn1, s1, qq1, lo1, hi1⟩ ⟨sq2, t2, nn2, s2, qq2, lo2, hi2⟩)) ∧ Up w w' := by
  have KA := Lib.hid (rmay14_up sq1 t1 nn1 s1 qq1 lo1 hi1)
  have KB := Lib.hid (rmay14_up sq2 t2 nn2 s2 qq2 lo2 hi2)
  have KK := Lib.hid (rmayK11_any k)
  cases ha : myM ⟨sq1, t1, nn1, s1, qq1, lo1, hi1⟩ with
  | false =>
    rw [clQ_no (fun h => by rw [ha] at h; exact Bool.false_ne_true h.1)]
    rw [ha] at KA
    clear ha
    go_enter Try.func48, Try.ntmps48
    go_wp2_with (first | (go_at_call 94; (with_reducible refine (KA.out _).mono ?_); rintro e w1 ⟨rfl, hu⟩; have HU1 := Lib.hid ((((Up.refl w).alloc _ _).alloc _ _).trans hu); have a0 := hu.keep w.heap.size 0 (.int .i64 sq1) (by simp [go_sem]); have a1 := hu.keep w.heap.size 1 (.int .i64 t1) (by simp [go_sem]); have a2 := hu.keep w.heap.size 2 (.int .i64 nn1) (by simp [go_sem]); have a3 := hu.keep w.heap.size 3 (.int .i64 s1) (by simp [go_sem]); have a4 := hu.keep w.heap.size 4 (.int .i64 qq1) (by simp [go_sem]); have a5 := hu.keep w.heap.size 5 (.int .i64 lo1) (by simp [go_sem]); have a6 := hu.keep w.heap.size 6 (.int .i64 hi1) (by simp [go_sem]); have b0 := hu.keep (w.heap.size + 1) 0 (.int .i64 sq2) (by simp [go_sem]); have b1 := hu.keep (w.heap.size + 1) 1 (.int .i64 t2) (by simp [go_sem]); have b2 := hu.keep (w.heap.size + 1) 2 (.int .i64 nn2) (by simp [go_sem]); have b3 := hu.keep (w.heap.size + 1) 3 (.int .i64 s2) (by simp [go_sem]); have b4 := hu.keep (w.heap.size + 1) 4 (.int .i64 qq2) (by simp [go_sem]); have b5 := hu.keep (w.heap.size + 1) 5 (.int .i64 lo2) (by simp [go_sem]); have b6 := hu.keep (w.heap.size + 1) 6 (.int .i64 hi2) (by simp [go_sem]); clear hu) | (go_at_call 94; (with_reducible refine (KB.out _).mono ?_); rintro e w2 ⟨rfl, hu⟩; have HU2 := Lib.hid (HU1.out.trans hu); have a0 := hu.keep _ _ _ a0; have a1 := hu.keep _ _ _ a1; have a2 := hu.keep _ _ _ a2; have a3 := hu.keep _ _ _ a3; have a4 := hu.keep _ _ _ a4; have a5 := hu.keep _ _ _ a5; have a6 := hu.keep _ _ _ a6; have b0 := hu.keep _ _ _ b0; have b1 := hu.keep _ _ _ b1; have b2 := hu.keep _ _ _ b2; have b3 := hu.keep _ _ _ b3; have b4 := hu.keep _ _ _ b4; have b5 := hu.keep _ _ _ b5; have b6 := hu.keep _ _ _ b6; clear hu) | (go_at_call 57; (with_reducible refine (KK.out _).mono ?_); rintro e w' ⟨rfl, rfl⟩))
    go_ret
    exact ⟨rfl, HU1.out⟩
  | true =>
  cases hb : myM ⟨sq2, t2, nn2, s2, qq2, lo2, hi2⟩ with
  | false =>
    rw [clQ_no (fun h => by rw [hb] at h; exact Bool.false_ne_true h.2.1)]
    rw [ha] at KA
    rw [hb] at KB
    clear ha hb
    go_enter Try.func48, Try.ntmps48
    go_wp2_with (first | (go_at_call 94; (with_reducible refine (KA.out _).mono ?_); rintro e w1 ⟨rfl, hu⟩; have HU1 := Lib.hid ((((Up.refl w).alloc _ _).alloc _ _).trans hu); have a0 := hu.keep w.heap.size 0 (.int .i64 sq1) (by simp [go_sem]); have a1 := hu.keep w.heap.size 1 (.int .i64 t1) (by simp [go_sem]); have a2 := hu.keep w.heap.size 2 (.int .i64 nn1) (by simp [go_sem]); have a3 := hu.keep w.heap.size 3 (.int .i64 s1) (by simp [go_sem]); have a4 := hu.keep w.heap.size 4 (.int .i64 qq1) (by simp [go_sem]); have a5 := hu.keep w.heap.size 5 (.int .i64 lo1) (by simp [go_sem]); have a6 := hu.keep w.heap.size 6 (.int .i64 hi1) (by simp [go_sem]); have b0 := hu.keep (w.heap.size + 1) 0 (.int .i64 sq2) (by simp [go_sem]); have b1 := hu.keep (w.heap.size + 1) 1 (.int .i64 t2) (by simp [go_sem]); have b2 := hu.keep (w.heap.size + 1) 2 (.int .i64 nn2) (by simp [go_sem]); have b3 := hu.keep (w.heap.size + 1) 3 (.int .i64 s2) (by simp [go_sem]); have b4 := hu.keep (w.heap.size + 1) 4 (.int .i64 qq2) (by simp [go_sem]); have b5 := hu.keep (w.heap.size + 1) 5 (.int .i64 lo2) (by simp [go_sem]); have b6 := hu.keep (w.heap.size + 1) 6 (.int .i64 hi2) (by simp [go_sem]); clear hu) | (go_at_call 94; (with_reducible refine (KB.out _).mono ?_); rintro e w2 ⟨rfl, hu⟩; have HU2 := Lib.hid (HU1.out.trans hu); have a0 := hu.keep _ _ _ a0; have a1 := hu.keep _ _ _ a1; have a2 := hu.keep _ _ _ a2; have a3 := hu.keep _ _ _ a3; have a4 := hu.keep _ _ _ a4; have a5 := hu.keep _ _ _ a5; have a6 := hu.keep _ _ _ a6; have b0 := hu.keep _ _ _ b0; have b1 := hu.keep _ _ _ b1; have b2 := hu.keep _ _ _ b2; have b3 := hu.keep _ _ _ b3; have b4 := hu.keep _ _ _ b4; have b5 := hu.keep _ _ _ b5; have b6 := hu.keep _ _ _ b6; clear hu) | (go_at_call 57; (with_reducible refine (KK.out _).mono ?_); rintro e w' ⟨rfl, rfl⟩))
    go_ret
    exact ⟨rfl, HU2.out⟩
  | true =>
  rw [ha] at KA
  rw [hb] at KB
  cases hkk : decide (1 ≤ k ∧ k ≤ 64) with
  | false =>
    rw [clQ_no (fun h => of_decide_eq_false hkk h.2.2)]
    rw [hkk] at KK
    clear ha hb hkk
    go_enter Try.func48, Try.ntmps48
    go_wp2_with (first | (go_at_call 94; (with_reducible refine (KA.out _).mono ?_); rintro e w1 ⟨rfl, hu⟩; have HU1 := Lib.hid ((((Up.refl w).alloc _ _).alloc _ _).trans hu); have a0 := hu.keep w.heap.size 0 (.int .i64 sq1) (by simp [go_sem]); have a1 := hu.keep w.heap.size 1 (.int .i64 t1) (by simp [go_sem]); have a2 := hu.keep w.heap.size 2 (.int .i64 nn1) (by simp [go_sem]); have a3 := hu.keep w.heap.size 3 (.int .i64 s1) (by simp [go_sem]); have a4 := hu.keep w.heap.size 4 (.int .i64 qq1) (by simp [go_sem]); have a5 := hu.keep w.heap.size 5 (.int .i64 lo1) (by simp [go_sem]); have a6 := hu.keep w.heap.size 6 (.int .i64 hi1) (by simp [go_sem]); have b0 := hu.keep (w.heap.size + 1) 0 (.int .i64 sq2) (by simp [go_sem]); have b1 := hu.keep (w.heap.size + 1) 1 (.int .i64 t2) (by simp [go_sem]); have b2 := hu.keep (w.heap.size + 1) 2 (.int .i64 nn2) (by simp [go_sem]); have b3 := hu.keep (w.heap.size + 1) 3 (.int .i64 s2) (by simp [go_sem]); have b4 := hu.keep (w.heap.size + 1) 4 (.int .i64 qq2) (by simp [go_sem]); have b5 := hu.keep (w.heap.size + 1) 5 (.int .i64 lo2) (by simp [go_sem]); have b6 := hu.keep (w.heap.size + 1) 6 (.int .i64 hi2) (by simp [go_sem]); clear hu) | (go_at_call 94; (with_reducible refine (KB.out _).mono ?_); rintro e w2 ⟨rfl, hu⟩; have HU2 := Lib.hid (HU1.out.trans hu); have a0 := hu.keep _ _ _ a0; have a1 := hu.keep _ _ _ a1; have a2 := hu.keep _ _ _ a2; have a3 := hu.keep _ _ _ a3; have a4 := hu.keep _ _ _ a4; have a5 := hu.keep _ _ _ a5; have a6 := hu.keep _ _ _ a6; have b0 := hu.keep _ _ _ b0; have b1 := hu.keep _ _ _ b1; have b2 := hu.keep _ _ _ b2; have b3 := hu.keep _ _ _ b3; have b4 := hu.keep _ _ _ b4; have b5 := hu.keep _ _ _ b5; have b6 := hu.keep _ _ _ b6; clear hu) | (go_at_call 57; (with_reducible refine (KK.out _).mono ?_); rintro e w' ⟨rfl, rfl⟩))
    go_ret
    exact ⟨rfl, HU2.out⟩
  | true =>
  rw [hkk] at KK
  have hk : 1 ≤ k ∧ k ≤ 64 := of_decide_eq_true hkk
  clear hkk
  rw [clQ_form ha hb hk]
  have q1 := myM_bd ha
  have q2 := myM_bd hb
  have d1 := close_bd hk q1.1
  have d2 := close_bd hk q2.1
  simp only at q1 q2 d1 d2 ⊢
  obtain ⟨k1_, k2_⟩ := hk
  have w1_ : IntKind.i64.wrap (6 * k) = 6 * k := by rw [IntKind.wrap_i64]; omega
  have w2_ : IntKind.i64.wrap (6 * k - 1) = 6 * k - 1 := by rw [IntKind.wrap_i64]; omega
  have w3_ : IntKind.i64.wrap (6 * k * nn2) = 6 * k * nn2 := by rw [IntKind.wrap_i64]; omega
  have w4_ : IntKind.i64.wrap ((6 * k - 1) * nn1) = (6 * k - 1) * nn1 := by rw [IntKind.wrap_i64]; omega
  have w5_ : IntKind.i64.wrap (6 * k * nn1) = 6 * k * nn1 := by rw [IntKind.wrap_i64]; omega
  have w6_ : IntKind.i64.wrap ((6 * k - 1) * nn2) = (6 * k - 1) * nn2 := by rw [IntKind.wrap_i64]; omega
  by_cases hn : 6 * k * nn2 < (6 * k - 1) * nn1
  · rw [decide_eq_false (p := (6 * k - 1) * nn1 ≤ 6 * k * nn2) (by omega), Bool.false_and]
    have tk3 : decide (6 * k * nn2 < (6 * k - 1) * nn1) = true := decide_eq_true hn
    clear ha hb q1 q2 d1 d2 hn
    go_enter Try.func48, Try.ntmps48
    go_wp2_with (first | (go_at_call 94; (with_reducible refine (KA.out _).mono ?_); rintro e w1 ⟨rfl, hu⟩; have HU1 := Lib.hid ((((Up.refl w).alloc _ _).alloc _ _).trans hu); have a0 := hu.keep w.heap.size 0 (.int .i64 sq1) (by simp [go_sem]); have a1 := hu.keep w.heap.size 1 (.int .i64 t1) (by simp [go_sem]); have a2 := hu.keep w.heap.size 2 (.int .i64 nn1) (by simp [go_sem]); have a3 := hu.keep w.heap.size 3 (.int .i64 s1) (by simp [go_sem]); have a4 := hu.keep w.heap.size 4 (.int .i64 qq1) (by simp [go_sem]); have a5 := hu.keep w.heap.size 5 (.int .i64 lo1) (by simp [go_sem]); have a6 := hu.keep w.heap.size 6 (.int .i64 hi1) (by simp [go_sem]); have b0 := hu.keep (w.heap.size + 1) 0 (.int .i64 sq2) (by simp [go_sem]); have b1 := hu.keep (w.heap.size + 1) 1 (.int .i64 t2) (by simp [go_sem]); have b2 := hu.keep (w.heap.size + 1) 2 (.int .i64 nn2) (by simp [go_sem]); have b3 := hu.keep (w.heap.size + 1) 3 (.int .i64 s2) (by simp [go_sem]); have b4 := hu.keep (w.heap.size + 1) 4 (.int .i64 qq2) (by simp [go_sem]); have b5 := hu.keep (w.heap.size + 1) 5 (.int .i64 lo2) (by simp [go_sem]); have b6 := hu.keep (w.heap.size + 1) 6 (.int .i64 hi2) (by simp [go_sem]); clear hu) | (go_at_call 94; (with_reducible refine (KB.out _).mono ?_); rintro e w2 ⟨rfl, hu⟩; have HU2 := Lib.hid (HU1.out.trans hu); have a0 := hu.keep _ _ _ a0; have a1 := hu.keep _ _ _ a1; have a2 := hu.keep _ _ _ a2; have a3 := hu.keep _ _ _ a3; have a4 := hu.keep _ _ _ a4; have a5 := hu.keep _ _ _ a5; have a6 := hu.keep _ _ _ a6; have b0 := hu.keep _ _ _ b0; have b1 := hu.keep _ _ _ b1; have b2 := hu.keep _ _ _ b2; have b3 := hu.keep _ _ _ b3; have b4 := hu.keep _ _ _ b4; have b5 := hu.keep _ _ _ b5; have b6 := hu.keep _ _ _ b6; clear hu) | (go_at_call 57; (with_reducible refine (KK.out _).mono ?_); rintro e w' ⟨rfl, rfl⟩))
    go_ret
    exact ⟨rfl, HU2.out⟩
  have tk3 : decide (6 * k * nn2 < (6 * k - 1) * nn1) = false := decide_eq_false hn
  rw [decide_eq_true (p := (6 * k - 1) * nn1 ≤ 6 * k * nn2) (by omega), Bool.true_and]
  have v1_ : IntKind.i64.wrap (nn1 * qq1) = nn1 * qq1 := by rw [IntKind.wrap_i64]; omega
  have v2_ : IntKind.i64.wrap (nn2 * qq2) = nn2 * qq2 := by rw [IntKind.wrap_i64]; omega
  have v3_ : IntKind.i64.wrap (s1 * s1) = s1 * s1 := by rw [IntKind.wrap_i64]; omega
  have v4_ : IntKind.i64.wrap (s2 * s2) = s2 * s2 := by rw [IntKind.wrap_i64]; omega
  obtain ⟨b1_, b2_⟩ := q1.2.2.2.2.2
  obtain ⟨b3_, b4_⟩ := q2.2.2.2.2.2
  generalize hza : spM ⟨sq1, t1, nn1, s1, qq1, lo1, hi1⟩ = za at *
  generalize hzb : spM ⟨sq2, t2, nn2, s2, qq2, lo2, hi2⟩ = zb at *
  have e1 : nn1 * qq1 - s1 * s1 = za := hza
  have e2 : nn2 * qq2 - s2 * s2 = zb := hzb
  clear hza hzb
  have v5_ : IntKind.i64.wrap za = za := by rw [IntKind.wrap_i64]; omega
  have v6_ : IntKind.i64.wrap zb = zb := by rw [IntKind.wrap_i64]; omega
  have v7_ : IntKind.u64.wrap za = za := by rw [IntKind.wrap_u64]; omega
  have v8_ : IntKind.u64.wrap zb = zb := by rw [IntKind.wrap_u64]; omega
  have v9_ : IntKind.u64.wrap (6 * k * nn1) = 6 * k * nn1 := by rw [IntKind.wrap_u64]; omega
  have v10_ : IntKind.u64.wrap ((6 * k - 1) * nn2) = (6 * k - 1) * nn2 := by rw [IntKind.wrap_u64]; omega
  have u1 : Word za := ⟨by omega, by omega⟩
  have u2 : Word zb := ⟨by omega, by omega⟩
  have u3 : Word (6 * k * nn1) := ⟨by omega, by omega⟩
  have u4 : Word ((6 * k - 1) * nn2) := ⟨by omega, by omega⟩
  have K1 := Lib.hid (rproduct_up zb (6 * k * nn1) u2 u3)
  have K2 := Lib.hid (rproduct_up za ((6 * k - 1) * nn2) u1 u4)
  have K3 := Lib.hid (rcompare_v (zb * (6 * k * nn1)) (za * ((6 * k - 1) * nn2)) (mul_word u2 u3) (mul_word u1 u4))
  have HD : Hid (decide (0 ≤ cmpZ (zb * (6 * k * nn1)) (za * ((6 * k - 1) * nn2))) = decide (za * ((6 * k - 1) * nn2) ≤ zb * (6 * k * nn1))) := Lib.hid (by have := cross_ge (a := zb) (b := 6 * k * nn1) (c := za) (d := (6 * k - 1) * nn2); rwa [crossZ_eq] at this)
  rw [← HD.out]
  clear HD ha hb q1 q2 d1 d2 hn u1 u2 u3 u4
  generalize cmpZ (zb * (6 * k * nn1)) (za * ((6 * k - 1) * nn2)) = x at *
  generalize hiZ (zb * (6 * k * nn1)) = p1 at *
  generalize loZ (zb * (6 * k * nn1)) = p2 at *
  generalize hiZ (za * ((6 * k - 1) * nn2)) = p3 at *
  generalize loZ (za * ((6 * k - 1) * nn2)) = p4 at *
  go_enter Try.func48, Try.ntmps48
  go_upto_region 3 with (first | (go_at_call 94; (with_reducible refine (KA.out _).mono ?_); rintro e w1 ⟨rfl, hu⟩; have HU1 := Lib.hid ((((Up.refl w).alloc _ _).alloc _ _).trans hu); have a0 := hu.keep w.heap.size 0 (.int .i64 sq1) (by simp [go_sem]); have a1 := hu.keep w.heap.size 1 (.int .i64 t1) (by simp [go_sem]); have a2 := hu.keep w.heap.size 2 (.int .i64 nn1) (by simp [go_sem]); have a3 := hu.keep w.heap.size 3 (.int .i64 s1) (by simp [go_sem]); have a4 := hu.keep w.heap.size 4 (.int .i64 qq1) (by simp [go_sem]); have a5 := hu.keep w.heap.size 5 (.int .i64 lo1) (by simp [go_sem]); have a6 := hu.keep w.heap.size 6 (.int .i64 hi1) (by simp [go_sem]); have b0 := hu.keep (w.heap.size + 1) 0 (.int .i64 sq2) (by simp [go_sem]); have b1 := hu.keep (w.heap.size + 1) 1 (.int .i64 t2) (by simp [go_sem]); have b2 := hu.keep (w.heap.size + 1) 2 (.int .i64 nn2) (by simp [go_sem]); have b3 := hu.keep (w.heap.size + 1) 3 (.int .i64 s2) (by simp [go_sem]); have b4 := hu.keep (w.heap.size + 1) 4 (.int .i64 qq2) (by simp [go_sem]); have b5 := hu.keep (w.heap.size + 1) 5 (.int .i64 lo2) (by simp [go_sem]); have b6 := hu.keep (w.heap.size + 1) 6 (.int .i64 hi2) (by simp [go_sem]); clear hu) | (go_at_call 94; (with_reducible refine (KB.out _).mono ?_); rintro e w2 ⟨rfl, hu⟩; have HU2 := Lib.hid (HU1.out.trans hu); have a0 := hu.keep _ _ _ a0; have a1 := hu.keep _ _ _ a1; have a2 := hu.keep _ _ _ a2; have a3 := hu.keep _ _ _ a3; have a4 := hu.keep _ _ _ a4; have a5 := hu.keep _ _ _ a5; have a6 := hu.keep _ _ _ a6; have b0 := hu.keep _ _ _ b0; have b1 := hu.keep _ _ _ b1; have b2 := hu.keep _ _ _ b2; have b3 := hu.keep _ _ _ b3; have b4 := hu.keep _ _ _ b4; have b5 := hu.keep _ _ _ b5; have b6 := hu.keep _ _ _ b6; clear hu) | (go_at_call 57; (with_reducible refine (KK.out _).mono ?_); rintro e w' ⟨rfl, rfl⟩))
  have HSS : Hid (Up w w2 ∧ w2.cell? ⟨w.heap.size, 0, none⟩ = some (.int .i64 sq1) ∧ w2.cell? ⟨w.heap.size, 1, none⟩ = some (.int .i64 t1) ∧ w2.cell? ⟨w.heap.size, 2, none⟩ = some (.int .i64 nn1) ∧ w2.cell? ⟨w.heap.size, 3, none⟩ = some (.int .i64 s1) ∧ w2.cell? ⟨w.heap.size, 4, none⟩ = some (.int .i64 qq1) ∧ w2.cell? ⟨w.heap.size, 5, none⟩ = some (.int .i64 lo1) ∧ w2.cell? ⟨w.heap.size, 6, none⟩ = some (.int .i64 hi1) ∧ w2.cell? ⟨(w.heap.size + 1), 0, none⟩ = some (.int .i64 sq2) ∧ w2.cell? ⟨(w.heap.size + 1), 1, none⟩ = some (.int .i64 t2) ∧ w2.cell? ⟨(w.heap.size + 1), 2, none⟩ = some (.int .i64 nn2) ∧ w2.cell? ⟨(w.heap.size + 1), 3, none⟩ = some (.int .i64 s2) ∧ w2.cell? ⟨(w.heap.size + 1), 4, none⟩ = some (.int .i64 qq2) ∧ w2.cell? ⟨(w.heap.size + 1), 5, none⟩ = some (.int .i64 lo2) ∧ w2.cell? ⟨(w.heap.size + 1), 6, none⟩ = some (.int .i64 hi2)) := Lib.hid ⟨HU2.out, a0, a1, a2, a3, a4, a5, a6, b0, b1, b2, b3, b4, b5, b6⟩
  clear a0 a1 a2 a3 a4 a5 a6 b0 b1 b2 b3 b4 b5 b6
  go_wp2_with fail
  refine wp_region_held_drew (S := fun w' => Up w w' ∧ w'.cell? ⟨w.heap.size, 0, none⟩ = some (.int .i64 sq1) ∧ w'.cell? ⟨w.heap.size, 1, none⟩ = some (.int .i64 t1) ∧ w'.cell? ⟨w.heap.size, 2, none⟩ = some (.int .i64 nn1) ∧ w'.cell? ⟨w.heap.size, 3, none⟩ = some (.int .i64 s1) ∧ w'.cell? ⟨w.heap.size, 4, none⟩ = some (.int .i64 qq1) ∧ w'.cell? ⟨w.heap.size, 5, none⟩ = some (.int .i64 lo1) ∧ w'.cell? ⟨w.heap.size, 6, none⟩ = some (.int .i64 hi1) ∧ w'.cell? ⟨(w.heap.size + 1), 0, none⟩ = some (.int .i64 sq2) ∧ w'.cell? ⟨(w.heap.size + 1), 1, none⟩ = some (.int .i64 t2) ∧ w'.cell? ⟨(w.heap.size + 1), 2, none⟩ = some (.int .i64 nn2) ∧ w'.cell? ⟨(w.heap.size + 1), 3, none⟩ = some (.int .i64 s2) ∧ w'.cell? ⟨(w.heap.size + 1), 4, none⟩ = some (.int .i64 qq2) ∧ w'.cell? ⟨(w.heap.size + 1), 5, none⟩ = some (.int .i64 lo2) ∧ w'.cell? ⟨(w.heap.size + 1), 6, none⟩ = some (.int .i64 hi2)) (by kernel_rfl) ?hB48 (fun hHeld => ?_)
  case hB48 => (first | (with_reducible assumption) | (with_reducible exact keepK14 (Lib.hid (Up.refl _).drew) HSS.out))
  refine wpAnyH_take (i := 0) (oi := ⟨_, _, _, _, _, _⟩) (v := ?v49) rfl (by kernel_rfl) (by kernel_rfl) (by kernel_rfl) (fun _ _ _ h => h) (Or.inl ⟨by rfl, ?hy49⟩) (by assumption) ?_
  case hy49 => (intro w hSw; (try dsimp only at hSw); go_simp; (try (with_reducible rfl)))
  (try simp only [Act.put, List.setIfInBounds_toArray, List.set_cons_zero, List.set_cons_succ])
  refine wpAnyH_take (i := 1) (oi := ⟨_, _, _, _, _, _⟩) (v := ?v50) rfl (by kernel_rfl) (by kernel_rfl) (by kernel_rfl) (fun _ _ _ h => h) (Or.inl ⟨by rfl, ?hy50⟩) (by assumption) ?_
  case hy50 => (intro w hSw; (try dsimp only at hSw); go_simp; (try (with_reducible rfl)))
  (try simp only [Act.put, List.setIfInBounds_toArray, List.set_cons_zero, List.set_cons_succ])
  refine wpAnyH_take (i := 2) (oi := ⟨_, _, _, _, _, _⟩) (v := ?v51) rfl (by kernel_rfl) (by kernel_rfl) (by kernel_rfl) (fun _ _ _ h => h) (Or.inl ⟨by rfl, ?hy51⟩) (by assumption) ?_
  case hy51 => (intro w hSw; (try dsimp only at hSw); go_simp; (try (with_reducible rfl)))
  (try simp only [Act.put, List.setIfInBounds_toArray, List.set_cons_zero, List.set_cons_succ])
  refine wpAnyH_take (i := 3) (oi := ⟨_, _, _, _, _, _⟩) (v := ?v52) rfl (by kernel_rfl) (by kernel_rfl) (by kernel_rfl) (fun _ _ _ h => h) (Or.inl ⟨by rfl, ?hy52⟩) (by assumption) ?_
  case hy52 => (intro w hSw; (try dsimp only at hSw); go_simp; (try (with_reducible rfl)))
  (try simp only [Act.put, List.setIfInBounds_toArray, List.set_cons_zero, List.set_cons_succ])
  refine wpAnyH_take (i := 4) (oi := ⟨_, _, _, _, _, _⟩) (v := ?v53) rfl (by kernel_rfl) (by kernel_rfl) (by kernel_rfl) (fun _ _ _ h => h) (Or.inl ⟨by rfl, ?hy53⟩) (by assumption) ?_
  case hy53 => (intro w hSw; (try dsimp only at hSw); go_simp; (try (with_reducible rfl)))
  (try simp only [Act.put, List.setIfInBounds_toArray, List.set_cons_zero, List.set_cons_succ])
  refine wpAnyH_take (i := 5) (oi := ⟨_, _, _, _, _, _⟩) (v := ?v54) rfl (by kernel_rfl) (by kernel_rfl) (by kernel_rfl) (fun _ _ _ h => h) (Or.inl ⟨by rfl, ?hy54⟩) (by assumption) ?_
  case hy54 => (intro w hSw; (try dsimp only at hSw); go_simp; (try (with_reducible rfl)))
  (try simp only [Act.put, List.setIfInBounds_toArray, List.set_cons_zero, List.set_cons_succ])
  refine wpAnyH_take (i := 6) (oi := ⟨_, _, _, _, _, _⟩) (v := ?v55) rfl (by kernel_rfl) (by kernel_rfl) (by kernel_rfl) (fun _ _ _ h => h) (Or.inl ⟨by rfl, ?hy55⟩) (by assumption) ?_
  case hy55 => (intro w hSw; (try dsimp only at hSw); go_simp; (try (with_reducible rfl)))
  (try simp only [Act.put, List.setIfInBounds_toArray, List.set_cons_zero, List.set_cons_succ])
  refine wpAnyH_take (i := 7) (oi := ⟨_, _, _, _, _, _⟩) (v := ?v56) rfl (by kernel_rfl) (by kernel_rfl) (by kernel_rfl) (fun _ _ _ h => h) (Or.inl ⟨by rfl, ?hy56⟩) (by assumption) ?_
  case hy56 => (intro w hSw; (try dsimp only at hSw); go_simp; (try (with_reducible rfl)))
  (try simp only [Act.put, List.setIfInBounds_toArray, List.set_cons_zero, List.set_cons_succ])
  refine wpAnyH_take (i := 8) (oi := ⟨_, _, _, _, _, _⟩) (v := ?v57) rfl (by kernel_rfl) (by kernel_rfl) (by kernel_rfl) (fun _ _ _ h => h) (Or.inl ⟨by rfl, ?hy57⟩) (by assumption) ?_
  case hy57 => (intro w hSw; (try dsimp only at hSw); go_simp; (try (with_reducible rfl)))
  (try simp only [Act.put, List.setIfInBounds_toArray, List.set_cons_zero, List.set_cons_succ])
  refine wpAnyH_take (i := 9) (oi := ⟨_, _, _, _, _, _⟩) (v := ?v58) rfl (by kernel_rfl) (by kernel_rfl) (by kernel_rfl) (fun _ _ _ h => h) (Or.inl ⟨by rfl, ?hy58⟩) (by assumption) ?_
  case hy58 => (intro w hSw; (try dsimp only at hSw); go_simp; (try (with_reducible rfl)))
  (try simp only [Act.put, List.setIfInBounds_toArray, List.set_cons_zero, List.set_cons_succ])
  refine wpAnyH_take (i := 10) (oi := ⟨_, _, _, _, _, _⟩) (v := ?v59) rfl (by kernel_rfl) (by kernel_rfl) (by kernel_rfl) (fun _ _ _ h => h) (Or.inl ⟨by rfl, ?hy59⟩) (by assumption) ?_
  case hy59 => (intro w hSw; (try dsimp only at hSw); go_simp; (try (with_reducible rfl)))
  (try simp only [Act.put, List.setIfInBounds_toArray, List.set_cons_zero, List.set_cons_succ])
  refine wpAnyH_take (i := 11) (oi := ⟨_, _, _, _, _, _⟩) (v := ?v60) rfl (by kernel_rfl) (by kernel_rfl) (by kernel_rfl) (fun _ _ _ h => h) (Or.inl ⟨by rfl, ?hy60⟩) (by assumption) ?_
  case hy60 => (intro w hSw; (try dsimp only at hSw); go_simp; (try (with_reducible rfl)))
  (try simp only [Act.put, List.setIfInBounds_toArray, List.set_cons_zero, List.set_cons_succ])
  refine wpAnyH_take (i := 12) (oi := ⟨_, _, _, _, _, _⟩) (v := ?v61) rfl (by kernel_rfl) (by kernel_rfl) (by kernel_rfl) (fun _ _ _ h => h) (Or.inl ⟨by rfl, ?hy61⟩) (by assumption) ?_
  case hy61 => (intro w hSw; (try dsimp only at hSw); go_simp; (try (with_reducible rfl)))
  (try simp only [Act.put, List.setIfInBounds_toArray, List.set_cons_zero, List.set_cons_succ])
  refine wpAnyH_take (i := 13) (oi := ⟨_, _, _, _, _, _⟩) (v := ?v62) rfl (by kernel_rfl) (by kernel_rfl) (by kernel_rfl) (fun _ _ _ h => h) (Or.inl ⟨by rfl, ?hy62⟩) (by assumption) ?_
  case hy62 => (intro w hSw; (try dsimp only at hSw); go_simp; (try (with_reducible rfl)))
  (try simp only [Act.put, List.setIfInBounds_toArray, List.set_cons_zero, List.set_cons_succ])
  refine wpAnyH_take (i := 14) (oi := ⟨_, _, _, _, _, _⟩) (v := ?v63) rfl (by kernel_rfl) (by kernel_rfl) (by kernel_rfl) (fun _ _ _ h => h) (Or.inl ⟨by rfl, ?hy63⟩) (by assumption) ?_
  case hy63 => (intro w hSw; (try dsimp only at hSw); go_simp; (try (with_reducible rfl)))
  (try simp only [Act.put, List.setIfInBounds_toArray, List.set_cons_zero, List.set_cons_succ])
  refine wpAnyH_take (i := 15) (oi := ⟨_, _, _, _, _, _⟩) (v := ?v64) rfl (by kernel_rfl) (by kernel_rfl) (by kernel_rfl) (fun _ _ _ h => h) (Or.inl ⟨by rfl, ?hy64⟩) (by assumption) ?_
  case hy64 => (intro w hSw; (try dsimp only at hSw); go_simp; (try (with_reducible rfl)))
  (try simp only [Act.put, List.setIfInBounds_toArray, List.set_cons_zero, List.set_cons_succ])
  refine wpAnyH_take (i := 16) (oi := ⟨_, _, _, _, _, _⟩) (v := ?v65) rfl (by kernel_rfl) (by kernel_rfl) (by kernel_rfl) (fun _ _ _ h => h) (Or.inl ⟨by rfl, ?hy65⟩) (by assumption) ?_
  case hy65 => (intro w hSw; (try dsimp only at hSw); go_simp; (try (with_reducible rfl)))
  (try simp only [Act.put, List.setIfInBounds_toArray, List.set_cons_zero, List.set_cons_succ])
  refine wpAnyH_take (i := 17) (oi := ⟨_, _, _, _, _, _⟩) (v := ?v66) rfl (by kernel_rfl) (by kernel_rfl) (by kernel_rfl) (fun _ _ _ h => h) (Or.inl ⟨by rfl, ?hy66⟩) (by assumption) ?_
  case hy66 => (intro w hSw; (try dsimp only at hSw); go_simp; (try (with_reducible rfl)))
  (try simp only [Act.put, List.setIfInBounds_toArray, List.set_cons_zero, List.set_cons_succ])
  refine wpAnyH_take (i := 18) (oi := ⟨_, _, _, _, _, _⟩) (v := ?v67) rfl (by kernel_rfl) (by kernel_rfl) (by kernel_rfl) (fun _ _ _ h => h) (Or.inl ⟨by rfl, ?hy67⟩) (by assumption) ?_
  case hy67 => (intro w hSw; (try dsimp only at hSw); go_simp; (try (with_reducible rfl)))
  (try simp only [Act.put, List.setIfInBounds_toArray, List.set_cons_zero, List.set_cons_succ])
  refine wpAnyH_take (i := 19) (oi := ⟨_, _, _, _, _, _⟩) (v := ?v68) rfl (by kernel_rfl) (by kernel_rfl) (by kernel_rfl) (fun _ _ _ h => h) (Or.inl ⟨by rfl, ?hy68⟩) (by assumption) ?_
  case hy68 => (intro w hSw; (try dsimp only at hSw); go_simp; (try (with_reducible rfl)))
  (try simp only [Act.put, List.setIfInBounds_toArray, List.set_cons_zero, List.set_cons_succ])
  refine wpAnyH_take (i := 20) (oi := ⟨_, _, _, _, _, _⟩) (v := ?v69) rfl (by kernel_rfl) (by kernel_rfl) (by kernel_rfl) (fun _ _ _ h => h) (Or.inl ⟨by rfl, ?hy69⟩) (by assumption) ?_
  case hy69 => (intro w hSw; (try dsimp only at hSw); go_simp; (try (with_reducible rfl)))
  (try simp only [Act.put, List.setIfInBounds_toArray, List.set_cons_zero, List.set_cons_succ])
  refine wpAnyH_take (i := 21) (oi := ⟨_, _, _, _, _, _⟩) (v := ?v70) rfl (by kernel_rfl) (by kernel_rfl) (by kernel_rfl) (fun _ _ _ h => h) (Or.inl ⟨by rfl, ?hy70⟩) (by assumption) ?_
  case hy70 => (intro w hSw; (try dsimp only at hSw); go_simp; (try (with_reducible rfl)))
  (try simp only [Act.put, List.setIfInBounds_toArray, List.set_cons_zero, List.set_cons_succ])
  refine wpAnyH_take (i := 22) (oi := ⟨_, _, _, _, _, _⟩) (v := ?v71) rfl (by kernel_rfl) (by kernel_rfl) (by kernel_rfl) (fun _ _ _ h => h) (Or.inl ⟨by rfl, ?hy71⟩) (by assumption) ?_
  case hy71 => (intro w hSw; (try dsimp only at hSw); go_simp; (try (with_reducible rfl)))
  (try simp only [Act.put, List.setIfInBounds_toArray, List.set_cons_zero, List.set_cons_succ])
  refine wpAnyH_take (i := 23) (oi := ⟨_, _, _, _, _, _⟩) (v := ?v72) rfl (by kernel_rfl) (by kernel_rfl) (by kernel_rfl) (fun _ _ _ h => h) (Or.inl ⟨by rfl, ?hy72⟩) (by assumption) ?_
  case hy72 => (intro w hSw; (try dsimp only at hSw); go_simp; (try (with_reducible rfl)))
  (try simp only [Act.put, List.setIfInBounds_toArray, List.set_cons_zero, List.set_cons_succ])
  refine wpAnyH_take (i := 24) (oi := ⟨_, _, _, _, _, _⟩) (v := ?v73) rfl (by kernel_rfl) (by kernel_rfl) (by kernel_rfl) (fun _ _ _ h => h) (Or.inl ⟨by rfl, ?hy73⟩) (by assumption) ?_
  case hy73 => (intro w hSw; (try dsimp only at hSw); go_simp; (try (with_reducible rfl)))
  (try simp only [Act.put, List.setIfInBounds_toArray, List.set_cons_zero, List.set_cons_succ])
  refine wpAnyH_take (i := 25) (oi := ⟨_, _, _, _, _, _⟩) (v := ?v74) rfl (by kernel_rfl) (by kernel_rfl) (by kernel_rfl) (fun _ _ _ h => h) (Or.inl ⟨by rfl, ?hy74⟩) (by assumption) ?_
  case hy74 => (intro w hSw; (try dsimp only at hSw); go_simp; (try (with_reducible rfl)))
  (try simp only [Act.put, List.setIfInBounds_toArray, List.set_cons_zero, List.set_cons_succ])
  refine wpAnyH_done (by kernel_rfl) ?_ _
  clear HSS
  obtain ⟨u8, y0, y1, y2, y3, y4, y5, y6, y7, y8, y9, y10, y11, y12, y13⟩ := hHeld
  (repeat clear ‹Up w _ ∧ _›)
  have HSS := Lib.hid (And.intro u8 (And.intro y0 (And.intro y1 (And.intro y2 (And.intro y3 (And.intro y4 (And.intro y5 (And.intro y6 (And.intro y7 (And.intro y8 (And.intro y9 (And.intro y10 (And.intro y11 (And.intro y12 y13))))))))))))))
  clear u8 y0 y1 y2 y3 y4 y5 y6 y7 y8 y9 y10 y11 y12 y13
  go_wp2_with fail
  refine wp_region_held_drew (S := fun w' => Up w w' ∧ w'.cell? ⟨w.heap.size, 0, none⟩ = some (.int .i64 sq1) ∧ w'.cell? ⟨w.heap.size, 1, none⟩ = some (.int .i64 t1) ∧ w'.cell? ⟨w.heap.size, 2, none⟩ = some (.int .i64 nn1) ∧ w'.cell? ⟨w.heap.size, 3, none⟩ = some (.int .i64 s1) ∧ w'.cell? ⟨w.heap.size, 4, none⟩ = some (.int .i64 qq1) ∧ w'.cell? ⟨w.heap.size, 5, none⟩ = some (.int .i64 lo1) ∧ w'.cell? ⟨w.heap.size, 6, none⟩ = some (.int .i64 hi1) ∧ w'.cell? ⟨(w.heap.size + 1), 0, none⟩ = some (.int .i64 sq2) ∧ w'.cell? ⟨(w.heap.size + 1), 1, none⟩ = some (.int .i64 t2) ∧ w'.cell? ⟨(w.heap.size + 1), 2, none⟩ = some (.int .i64 nn2) ∧ w'.cell? ⟨(w.heap.size + 1), 3, none⟩ = some (.int .i64 s2) ∧ w'.cell? ⟨(w.heap.size + 1), 4, none⟩ = some (.int .i64 qq2) ∧ w'.cell? ⟨(w.heap.size + 1), 5, none⟩ = some (.int .i64 lo2) ∧ w'.cell? ⟨(w.heap.size + 1), 6, none⟩ = some (.int .i64 hi2)) (by kernel_rfl) ?hB27 (fun hHeld => ?_)
  case hB27 => (first | (with_reducible assumption) | (with_reducible exact keepK14 (Lib.hid (Up.refl _).drew) HSS.out) | (with_reducible exact HX3.out) | (with_reducible exact HX4.out) | (with_reducible exact HX5.out))
  refine wpAnyH_take (i := 0) (oi := ⟨_, _, _, _, _, _⟩) (v := ?v28) rfl (by kernel_rfl) (by kernel_rfl) (by kernel_rfl) (fun _ _ _ h => h) (Or.inl ⟨by rfl, ?hy28⟩) (by assumption) ?_
  case hy28 => (intro w hSw; (try dsimp only at hSw); go_simp; (try (with_reducible rfl)))
  (try simp only [Act.put, List.setIfInBounds_toArray, List.set_cons_zero, List.set_cons_succ])
  refine wpAnyH_take (i := 1) (oi := ⟨_, _, _, _, _, _⟩) (v := ?v29) rfl (by kernel_rfl) (by kernel_rfl) (by kernel_rfl) (fun _ _ _ h => h) (Or.inl ⟨by rfl, ?hy29⟩) (by assumption) ?_
  case hy29 => (intro w hSw; (try dsimp only at hSw); go_simp; (try (with_reducible rfl)))
  (try simp only [Act.put, List.setIfInBounds_toArray, List.set_cons_zero, List.set_cons_succ])
  refine wpAnyH_take (i := 2) (oi := ⟨_, _, _, _, _, _⟩) (v := ?v30) rfl (by kernel_rfl) (by kernel_rfl) (by kernel_rfl) (fun _ _ _ h => h) (Or.inl ⟨by rfl, ?hy30⟩) (by assumption) ?_
  case hy30 => (intro w hSw; (try dsimp only at hSw); go_simp; (try (with_reducible rfl)))
  (try simp only [Act.put, List.setIfInBounds_toArray, List.set_cons_zero, List.set_cons_succ])
  refine wpAnyH_take (i := 3) (oi := ⟨_, _, _, _, _, _⟩) (v := ?v31) rfl (by kernel_rfl) (by kernel_rfl) (by kernel_rfl) (fun _ _ _ h => h) (Or.inl ⟨by rfl, ?hy31⟩) (by assumption) ?_
  case hy31 => (intro w hSw; (try dsimp only at hSw); go_simp; (try (with_reducible rfl)))
  (try simp only [Act.put, List.setIfInBounds_toArray, List.set_cons_zero, List.set_cons_succ])
  refine wpAnyH_take (i := 4) (oi := ⟨_, _, _, _, _, _⟩) (v := ?v32) rfl (by kernel_rfl) (by kernel_rfl) (by kernel_rfl) (fun _ _ _ h => h) (Or.inl ⟨by rfl, ?hy32⟩) (by assumption) ?_
  case hy32 => (intro w hSw; (try dsimp only at hSw); go_simp; (try (with_reducible rfl)))
  (try simp only [Act.put, List.setIfInBounds_toArray, List.set_cons_zero, List.set_cons_succ])
  refine wpAnyH_take (i := 5) (oi := ⟨_, _, _, _, _, _⟩) (v := ?v33) rfl (by kernel_rfl) (by kernel_rfl) (by kernel_rfl) (fun _ _ _ h => h) (Or.inl ⟨by rfl, ?hy33⟩) (by assumption) ?_
  case hy33 => (intro w hSw; (try dsimp only at hSw); go_simp; (try (with_reducible rfl)))
  (try simp only [Act.put, List.setIfInBounds_toArray, List.set_cons_zero, List.set_cons_succ])
  refine wpAnyH_take (i := 6) (oi := ⟨_, _, _, _, _, _⟩) (v := ?v34) rfl (by kernel_rfl) (by kernel_rfl) (by kernel_rfl) (fun _ _ _ h => h) (Or.inl ⟨by rfl, ?hy34⟩) (by assumption) ?_
  case hy34 => (intro w hSw; (try dsimp only at hSw); go_simp; (try (with_reducible rfl)))
  (try simp only [Act.put, List.setIfInBounds_toArray, List.set_cons_zero, List.set_cons_succ])
  refine wpAnyH_take (i := 8) (oi := ⟨_, _, _, _, _, _⟩) (v := ?v35) rfl (by kernel_rfl) (by kernel_rfl) (by kernel_rfl) (fun _ _ _ h => h) (Or.inl ⟨by rfl, ?hy35⟩) (by assumption) ?_
  case hy35 => (intro w hSw; (try dsimp only at hSw); go_simp; (try (with_reducible rfl)))
  (try simp only [Act.put, List.setIfInBounds_toArray, List.set_cons_zero, List.set_cons_succ])
  refine wpAnyH_take (i := 9) (oi := ⟨_, _, _, _, _, _⟩) (v := ?v36) rfl (by kernel_rfl) (by kernel_rfl) (by kernel_rfl) (fun _ _ _ h => h) (Or.inl ⟨by rfl, ?hy36⟩) (by assumption) ?_
  case hy36 => (intro w hSw; (try dsimp only at hSw); go_simp; (try (with_reducible rfl)))
  (try simp only [Act.put, List.setIfInBounds_toArray, List.set_cons_zero, List.set_cons_succ])
  refine wpAnyH_take (i := 10) (oi := ⟨_, _, _, _, _, _⟩) (v := ?v37) rfl (by kernel_rfl) (by kernel_rfl) (by kernel_rfl) (fun _ _ _ h => h) (Or.inl ⟨by rfl, ?hy37⟩) (by assumption) ?_
  case hy37 => (intro w hSw; (try dsimp only at hSw); go_simp; (try (with_reducible rfl)))
  (try simp only [Act.put, List.setIfInBounds_toArray, List.set_cons_zero, List.set_cons_succ])
  refine wpAnyH_take (i := 11) (oi := ⟨_, _, _, _, _, _⟩) (v := ?v38) rfl (by kernel_rfl) (by kernel_rfl) (by kernel_rfl) (fun _ _ _ h => h) (Or.inl ⟨by rfl, ?hy38⟩) (by assumption) ?_
  case hy38 => (intro w hSw; (try dsimp only at hSw); go_simp; (try (with_reducible rfl)))
  (try simp only [Act.put, List.setIfInBounds_toArray, List.set_cons_zero, List.set_cons_succ])
  refine wpAnyH_take (i := 12) (oi := ⟨_, _, _, _, _, _⟩) (v := ?v39) rfl (by kernel_rfl) (by kernel_rfl) (by kernel_rfl) (fun _ _ _ h => h) (Or.inl ⟨by rfl, ?hy39⟩) (by assumption) ?_
  case hy39 => (intro w hSw; (try dsimp only at hSw); go_simp; (try (with_reducible rfl)))
  (try simp only [Act.put, List.setIfInBounds_toArray, List.set_cons_zero, List.set_cons_succ])
  refine wpAnyH_take (i := 13) (oi := ⟨_, _, _, _, _, _⟩) (v := ?v40) rfl (by kernel_rfl) (by kernel_rfl) (by kernel_rfl) (fun _ _ _ h => h) (Or.inl ⟨by rfl, ?hy40⟩) (by assumption) ?_
  case hy40 => (intro w hSw; (try dsimp only at hSw); go_simp; (try (with_reducible rfl)))
  (try simp only [Act.put, List.setIfInBounds_toArray, List.set_cons_zero, List.set_cons_succ])
  refine wpAnyH_take (i := 14) (oi := ⟨_, _, _, _, _, _⟩) (v := ?v41) rfl (by kernel_rfl) (by kernel_rfl) (by kernel_rfl) (fun _ _ _ h => h) (Or.inl ⟨by rfl, ?hy41⟩) (by assumption) ?_
  case hy41 => (intro w hSw; (try dsimp only at hSw); go_simp; (try (with_reducible rfl)))
  (try simp only [Act.put, List.setIfInBounds_toArray, List.set_cons_zero, List.set_cons_succ])
  refine wpAnyH_take (i := 15) (oi := ⟨_, _, _, _, _, _⟩) (v := ?v42) rfl (by kernel_rfl) (by kernel_rfl) (by kernel_rfl) (fun _ _ _ h => h) (Or.inl ⟨by rfl, ?hy42⟩) (by assumption) ?_
  case hy42 => (intro w hSw; (try dsimp only at hSw); go_simp; (try (with_reducible rfl)))
  (try simp only [Act.put, List.setIfInBounds_toArray, List.set_cons_zero, List.set_cons_succ])
  refine wpAnyH_ready (rs := [7]) (by kernel_rfl) (by simp) ?_
  refine AllReadyH.cons (o := ⟨_, _, _, _, _, _⟩) rfl (fun K hK => ?_) AllReadyH.nil
  go_simp
  (go_at_call 98; (with_reducible refine (K1.out _).mono ?_); rintro e w3 ⟨rfl, hu⟩; have HU3 := Lib.hid hu; have HX3 := Lib.hid (keepK14 HU3 hHeld); clear hu)
  (try go_wp2_with fail)
  refine hK.out _ _ ?hB43 (fun hHeld => ?_)
  case hB43 => (first | (with_reducible assumption) | (with_reducible exact keepK14 (Lib.hid (Up.refl _).drew) HSS.out) | (with_reducible exact HX3.out) | (with_reducible exact HX4.out) | (with_reducible exact HX5.out))
  clear hK K
  (try simp only [Act.put, List.setIfInBounds_toArray, List.set_cons_zero, List.set_cons_succ])
  refine wpAnyH_ready (rs := [16]) (by kernel_rfl) (by simp) ?_
  refine AllReadyH.cons (o := ⟨_, _, _, _, _, _⟩) rfl (fun K hK => ?_) AllReadyH.nil
  go_simp
  (go_at_call 98; (with_reducible refine (K2.out _).mono ?_); rintro e w4 ⟨rfl, hu⟩; have HU4 := Lib.hid hu; have HX4 := Lib.hid (keepK14 HU4 hHeld); clear hu)
  (try go_wp2_with fail)
  refine hK.out _ _ ?hB44 (fun hHeld => ?_)
  case hB44 => (first | (with_reducible assumption) | (with_reducible exact keepK14 (Lib.hid (Up.refl _).drew) HSS.out) | (with_reducible exact HX3.out) | (with_reducible exact HX4.out) | (with_reducible exact HX5.out))
  clear hK K
  (try simp only [Act.put, List.setIfInBounds_toArray, List.set_cons_zero, List.set_cons_succ])
  refine wpAnyH_ready (rs := [17]) (by kernel_rfl) (by simp) ?_
  refine AllReadyH.cons (o := ⟨_, _, _, _, _, _⟩) rfl (fun K hK => ?_) AllReadyH.nil
  go_simp
  (go_at_call 97; (with_reducible refine (K3.out _).mono ?_); rintro e w5 ⟨rfl, hu⟩; have HU5 := Lib.hid hu; have HX5 := Lib.hid (keepK14 HU5 hHeld); clear hu)
  (try go_wp2_with fail)
  refine hK.out _ _ ?hB45 (fun hHeld => ?_)
  case hB45 => (first | (with_reducible assumption) | (with_reducible exact keepK14 (Lib.hid (Up.refl _).drew) HSS.out) | (with_reducible exact HX3.out) | (with_reducible exact HX4.out) | (with_reducible exact HX5.out))
  clear hK K
  (try simp only [Act.put, List.setIfInBounds_toArray, List.set_cons_zero, List.set_cons_succ])
  refine wpAnyH_take (i := 18) (oi := ⟨_, _, _, _, _, _⟩) (v := ?v46) rfl (by kernel_rfl) (by kernel_rfl) (by kernel_rfl) (fun _ _ _ h => h) (Or.inl ⟨by rfl, ?hy46⟩) (by assumption) ?_
  case hy46 => (intro w hSw; (try dsimp only at hSw); go_simp; (try (with_reducible rfl)))
  (try simp only [Act.put, List.setIfInBounds_toArray, List.set_cons_zero, List.set_cons_succ])
  refine wpAnyH_take (i := 19) (oi := ⟨_, _, _, _, _, _⟩) (v := ?v47) rfl (by kernel_rfl) (by kernel_rfl) (by kernel_rfl) (fun _ _ _ h => h) (Or.inl ⟨by rfl, ?hy47⟩) (by assumption) ?_
  case hy47 => (intro w hSw; (try dsimp only at hSw); go_simp; (try (with_reducible rfl)))
  (try simp only [Act.put, List.setIfInBounds_toArray, List.set_cons_zero, List.set_cons_succ])
  refine wpAnyH_done (by kernel_rfl) ?_ _
  go_wp2_with fail
  go_ret
  exact ⟨rfl, HX5.out.1⟩

end Go.Proofs.Ytafkoddgefcpnaa
