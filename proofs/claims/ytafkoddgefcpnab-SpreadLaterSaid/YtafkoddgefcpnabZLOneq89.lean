/- Package spread and its reference: Close; closeness as a rule. -/
import Derived.Test.YtafkoddgefcpnabRows
import Derived.Test.YtafkoddgefcpnabZLBaseq88
namespace Go.Proofs.Ytafkoddgefcpnab
open Go.RowKit
set_option linter.unusedVariables false

theorem cross_ge {a b c d : Int} : decide (0 ≤ crossZ a b c d) = decide (c * d ≤ a * b) := by
  rw [crossZ_eq]
  refine decide_eq_decide.2 ⟨fun h => ?_, fun h => ?_⟩
  · have := (cmpZ_neg (a * b) (c * d)).2
    omega
  · have := (cmpZ_neg (a * b) (c * d)).1
    omega
/-- How great the products are that Close forms. -/
theorem close_bd {k n : Int} (hk : 1 ≤ k ∧ k ≤ 64) (hn : 1 ≤ n ∧ n ≤ 65536) : (1 ≤ 6 * k * n ∧ 6 * k * n ≤ 25165824) ∧ (1 ≤ (6 * k - 1) * n ∧ (6 * k - 1) * n ≤ 25165824) := by
  have a1 : 6 * k * n ≤ 384 * n := Int.mul_le_mul_of_nonneg_right (by omega) (by omega)
  have a2 : 1 * n ≤ (6 * k - 1) * n := Int.mul_le_mul_of_nonneg_right (by omega) (by omega)
  have a3 : (6 * k - 1) * n = 6 * k * n - n := by rw [Int.sub_mul, Int.one_mul]
  omega
set_option maxHeartbeats 4000000 in
set_option maxRecDepth 100000 in
theorem close14_up (sq1 t1 nn1 s1 qq1 lo1 hi1 sq2 t2 nn2 s2 qq2 lo2 hi2 k : Int) (w : World) :
    Calls Try.prog 6 #[.agg #[.int .i64 sq1, .int .i64 t1, .int .i64 nn1, .int .i64 s1, .int .i64 qq1, .int .i64 lo1, .int .i64 hi1], .agg #[.int .i64 sq2, .int .i64 t2, .int .i64 nn2, .int .i64 s2, .int .i64 qq2, .int .i64 lo2, .int .i64 hi2], .int .i64 k] w fun e w' => e = .returned (.bool (clQ k ⟨sq1, t1, nn1, s1, qq1, lo1, hi1⟩ ⟨sq2, t2, nn2, s2, qq2, lo2, hi2⟩)) ∧ Up w w' := by
  have KA := Lib.hid (hasSpread_up sq1 t1 nn1 s1 qq1 lo1 hi1)
  have KB := Lib.hid (hasSpread_up sq2 t2 nn2 s2 qq2 lo2 hi2)
  cases ha : myM ⟨sq1, t1, nn1, s1, qq1, lo1, hi1⟩ with
  | false =>
    rw [clQ_no (fun h => by rw [ha] at h; exact Bool.false_ne_true h.1)]
    rw [ha] at KA
    clear ha
    go_enter Try.func6, Try.ntmps6
    go_wp2_with (first | (go_at_call 13; (with_reducible refine (KA.out _).mono ?_); rintro e w1 ⟨rfl, hu⟩; have HU1 := Lib.hid ((((Up.refl w).alloc _ _).alloc _ _).trans hu); have a0 := hu.keep w.heap.size 0 (.int .i64 sq1) (by simp [go_sem]); have a1 := hu.keep w.heap.size 1 (.int .i64 t1) (by simp [go_sem]); have a2 := hu.keep w.heap.size 2 (.int .i64 nn1) (by simp [go_sem]); have a3 := hu.keep w.heap.size 3 (.int .i64 s1) (by simp [go_sem]); have a4 := hu.keep w.heap.size 4 (.int .i64 qq1) (by simp [go_sem]); have a5 := hu.keep w.heap.size 5 (.int .i64 lo1) (by simp [go_sem]); have a6 := hu.keep w.heap.size 6 (.int .i64 hi1) (by simp [go_sem]); have b0 := hu.keep (w.heap.size + 1) 0 (.int .i64 sq2) (by simp [go_sem]); have b1 := hu.keep (w.heap.size + 1) 1 (.int .i64 t2) (by simp [go_sem]); have b2 := hu.keep (w.heap.size + 1) 2 (.int .i64 nn2) (by simp [go_sem]); have b3 := hu.keep (w.heap.size + 1) 3 (.int .i64 s2) (by simp [go_sem]); have b4 := hu.keep (w.heap.size + 1) 4 (.int .i64 qq2) (by simp [go_sem]); have b5 := hu.keep (w.heap.size + 1) 5 (.int .i64 lo2) (by simp [go_sem]); have b6 := hu.keep (w.heap.size + 1) 6 (.int .i64 hi2) (by simp [go_sem]); clear hu) | (go_at_call 13; (with_reducible refine (KB.out _).mono ?_); rintro e w2 ⟨rfl, hu⟩; have HU2 := Lib.hid (HU1.out.trans hu); have a0 := hu.keep _ _ _ a0; have a1 := hu.keep _ _ _ a1; have a2 := hu.keep _ _ _ a2; have a3 := hu.keep _ _ _ a3; have a4 := hu.keep _ _ _ a4; have a5 := hu.keep _ _ _ a5; have a6 := hu.keep _ _ _ a6; have b0 := hu.keep _ _ _ b0; have b1 := hu.keep _ _ _ b1; have b2 := hu.keep _ _ _ b2; have b3 := hu.keep _ _ _ b3; have b4 := hu.keep _ _ _ b4; have b5 := hu.keep _ _ _ b5; have b6 := hu.keep _ _ _ b6; clear hu))
    go_ret
    exact ⟨rfl, HU1.out⟩
  | true =>
  cases hb : myM ⟨sq2, t2, nn2, s2, qq2, lo2, hi2⟩ with
  | false =>
    rw [clQ_no (fun h => by rw [hb] at h; exact Bool.false_ne_true h.2.1)]
    rw [ha] at KA
    rw [hb] at KB
    clear ha hb
    go_enter Try.func6, Try.ntmps6
    go_wp2_with (first | (go_at_call 13; (with_reducible refine (KA.out _).mono ?_); rintro e w1 ⟨rfl, hu⟩; have HU1 := Lib.hid ((((Up.refl w).alloc _ _).alloc _ _).trans hu); have a0 := hu.keep w.heap.size 0 (.int .i64 sq1) (by simp [go_sem]); have a1 := hu.keep w.heap.size 1 (.int .i64 t1) (by simp [go_sem]); have a2 := hu.keep w.heap.size 2 (.int .i64 nn1) (by simp [go_sem]); have a3 := hu.keep w.heap.size 3 (.int .i64 s1) (by simp [go_sem]); have a4 := hu.keep w.heap.size 4 (.int .i64 qq1) (by simp [go_sem]); have a5 := hu.keep w.heap.size 5 (.int .i64 lo1) (by simp [go_sem]); have a6 := hu.keep w.heap.size 6 (.int .i64 hi1) (by simp [go_sem]); have b0 := hu.keep (w.heap.size + 1) 0 (.int .i64 sq2) (by simp [go_sem]); have b1 := hu.keep (w.heap.size + 1) 1 (.int .i64 t2) (by simp [go_sem]); have b2 := hu.keep (w.heap.size + 1) 2 (.int .i64 nn2) (by simp [go_sem]); have b3 := hu.keep (w.heap.size + 1) 3 (.int .i64 s2) (by simp [go_sem]); have b4 := hu.keep (w.heap.size + 1) 4 (.int .i64 qq2) (by simp [go_sem]); have b5 := hu.keep (w.heap.size + 1) 5 (.int .i64 lo2) (by simp [go_sem]); have b6 := hu.keep (w.heap.size + 1) 6 (.int .i64 hi2) (by simp [go_sem]); clear hu) | (go_at_call 13; (with_reducible refine (KB.out _).mono ?_); rintro e w2 ⟨rfl, hu⟩; have HU2 := Lib.hid (HU1.out.trans hu); have a0 := hu.keep _ _ _ a0; have a1 := hu.keep _ _ _ a1; have a2 := hu.keep _ _ _ a2; have a3 := hu.keep _ _ _ a3; have a4 := hu.keep _ _ _ a4; have a5 := hu.keep _ _ _ a5; have a6 := hu.keep _ _ _ a6; have b0 := hu.keep _ _ _ b0; have b1 := hu.keep _ _ _ b1; have b2 := hu.keep _ _ _ b2; have b3 := hu.keep _ _ _ b3; have b4 := hu.keep _ _ _ b4; have b5 := hu.keep _ _ _ b5; have b6 := hu.keep _ _ _ b6; clear hu))
    go_ret
    exact ⟨rfl, HU2.out⟩
  | true =>
  rw [ha] at KA
  rw [hb] at KB
  by_cases k1 : k < 1
  · rw [clQ_no (fun h => by omega)]
    have tk1 : decide (k < 1) = true := decide_eq_true k1
    clear ha hb
    go_enter Try.func6, Try.ntmps6
    go_wp2_with (first | (go_at_call 13; (with_reducible refine (KA.out _).mono ?_); rintro e w1 ⟨rfl, hu⟩; have HU1 := Lib.hid ((((Up.refl w).alloc _ _).alloc _ _).trans hu); have a0 := hu.keep w.heap.size 0 (.int .i64 sq1) (by simp [go_sem]); have a1 := hu.keep w.heap.size 1 (.int .i64 t1) (by simp [go_sem]); have a2 := hu.keep w.heap.size 2 (.int .i64 nn1) (by simp [go_sem]); have a3 := hu.keep w.heap.size 3 (.int .i64 s1) (by simp [go_sem]); have a4 := hu.keep w.heap.size 4 (.int .i64 qq1) (by simp [go_sem]); have a5 := hu.keep w.heap.size 5 (.int .i64 lo1) (by simp [go_sem]); have a6 := hu.keep w.heap.size 6 (.int .i64 hi1) (by simp [go_sem]); have b0 := hu.keep (w.heap.size + 1) 0 (.int .i64 sq2) (by simp [go_sem]); have b1 := hu.keep (w.heap.size + 1) 1 (.int .i64 t2) (by simp [go_sem]); have b2 := hu.keep (w.heap.size + 1) 2 (.int .i64 nn2) (by simp [go_sem]); have b3 := hu.keep (w.heap.size + 1) 3 (.int .i64 s2) (by simp [go_sem]); have b4 := hu.keep (w.heap.size + 1) 4 (.int .i64 qq2) (by simp [go_sem]); have b5 := hu.keep (w.heap.size + 1) 5 (.int .i64 lo2) (by simp [go_sem]); have b6 := hu.keep (w.heap.size + 1) 6 (.int .i64 hi2) (by simp [go_sem]); clear hu) | (go_at_call 13; (with_reducible refine (KB.out _).mono ?_); rintro e w2 ⟨rfl, hu⟩; have HU2 := Lib.hid (HU1.out.trans hu); have a0 := hu.keep _ _ _ a0; have a1 := hu.keep _ _ _ a1; have a2 := hu.keep _ _ _ a2; have a3 := hu.keep _ _ _ a3; have a4 := hu.keep _ _ _ a4; have a5 := hu.keep _ _ _ a5; have a6 := hu.keep _ _ _ a6; have b0 := hu.keep _ _ _ b0; have b1 := hu.keep _ _ _ b1; have b2 := hu.keep _ _ _ b2; have b3 := hu.keep _ _ _ b3; have b4 := hu.keep _ _ _ b4; have b5 := hu.keep _ _ _ b5; have b6 := hu.keep _ _ _ b6; clear hu))
    go_ret
    exact ⟨rfl, HU2.out⟩
  have tk1 : decide (k < 1) = false := decide_eq_false k1
  by_cases k2 : 64 < k
  · rw [clQ_no (fun h => by omega)]
    have tk2 : decide (64 < k) = true := decide_eq_true k2
    clear ha hb
    go_enter Try.func6, Try.ntmps6
    go_wp2_with (first | (go_at_call 13; (with_reducible refine (KA.out _).mono ?_); rintro e w1 ⟨rfl, hu⟩; have HU1 := Lib.hid ((((Up.refl w).alloc _ _).alloc _ _).trans hu); have a0 := hu.keep w.heap.size 0 (.int .i64 sq1) (by simp [go_sem]); have a1 := hu.keep w.heap.size 1 (.int .i64 t1) (by simp [go_sem]); have a2 := hu.keep w.heap.size 2 (.int .i64 nn1) (by simp [go_sem]); have a3 := hu.keep w.heap.size 3 (.int .i64 s1) (by simp [go_sem]); have a4 := hu.keep w.heap.size 4 (.int .i64 qq1) (by simp [go_sem]); have a5 := hu.keep w.heap.size 5 (.int .i64 lo1) (by simp [go_sem]); have a6 := hu.keep w.heap.size 6 (.int .i64 hi1) (by simp [go_sem]); have b0 := hu.keep (w.heap.size + 1) 0 (.int .i64 sq2) (by simp [go_sem]); have b1 := hu.keep (w.heap.size + 1) 1 (.int .i64 t2) (by simp [go_sem]); have b2 := hu.keep (w.heap.size + 1) 2 (.int .i64 nn2) (by simp [go_sem]); have b3 := hu.keep (w.heap.size + 1) 3 (.int .i64 s2) (by simp [go_sem]); have b4 := hu.keep (w.heap.size + 1) 4 (.int .i64 qq2) (by simp [go_sem]); have b5 := hu.keep (w.heap.size + 1) 5 (.int .i64 lo2) (by simp [go_sem]); have b6 := hu.keep (w.heap.size + 1) 6 (.int .i64 hi2) (by simp [go_sem]); clear hu) | (go_at_call 13; (with_reducible refine (KB.out _).mono ?_); rintro e w2 ⟨rfl, hu⟩; have HU2 := Lib.hid (HU1.out.trans hu); have a0 := hu.keep _ _ _ a0; have a1 := hu.keep _ _ _ a1; have a2 := hu.keep _ _ _ a2; have a3 := hu.keep _ _ _ a3; have a4 := hu.keep _ _ _ a4; have a5 := hu.keep _ _ _ a5; have a6 := hu.keep _ _ _ a6; have b0 := hu.keep _ _ _ b0; have b1 := hu.keep _ _ _ b1; have b2 := hu.keep _ _ _ b2; have b3 := hu.keep _ _ _ b3; have b4 := hu.keep _ _ _ b4; have b5 := hu.keep _ _ _ b5; have b6 := hu.keep _ _ _ b6; clear hu))
    go_ret
    exact ⟨rfl, HU2.out⟩
  have tk2 : decide (64 < k) = false := decide_eq_false k2
  have hk : 1 ≤ k ∧ k ≤ 64 := by omega
  rw [clQ_form ha hb hk]
  have q1 := myM_bd ha
  have q2 := myM_bd hb
  have d1 := close_bd hk q1.1
  have d2 := close_bd hk q2.1
  simp only at q1 q2 d1 d2 ⊢
  obtain ⟨k1_, k2_⟩ := hk
  have w1_ : IntKind.i64.wrap (6 * k) = 6 * k := by rw [IntKind.wrap_i64]; omega
  have w2_ : IntKind.i64.wrap (6 * k - 1) = 6 * k - 1 := by rw [IntKind.wrap_i64]; omega
  have w3_ : IntKind.i64.wrap (6 * k * nn2) = 6 * k * nn2 := by rw [IntKind.wrap_i64]; omega
  have w4_ : IntKind.i64.wrap ((6 * k - 1) * nn1) = (6 * k - 1) * nn1 := by rw [IntKind.wrap_i64]; omega
  have w5_ : IntKind.i64.wrap (6 * k * nn1) = 6 * k * nn1 := by rw [IntKind.wrap_i64]; omega
  have w6_ : IntKind.i64.wrap ((6 * k - 1) * nn2) = (6 * k - 1) * nn2 := by rw [IntKind.wrap_i64]; omega
  by_cases hn : 6 * k * nn2 < (6 * k - 1) * nn1
  · rw [decide_eq_false (p := (6 * k - 1) * nn1 ≤ 6 * k * nn2) (by omega), Bool.false_and]
    have tk3 : decide (6 * k * nn2 < (6 * k - 1) * nn1) = true := decide_eq_true hn
    clear ha hb q1 q2 d1 d2 hn
    go_enter Try.func6, Try.ntmps6
    go_wp2_with (first | (go_at_call 13; (with_reducible refine (KA.out _).mono ?_); rintro e w1 ⟨rfl, hu⟩; have HU1 := Lib.hid ((((Up.refl w).alloc _ _).alloc _ _).trans hu); have a0 := hu.keep w.heap.size 0 (.int .i64 sq1) (by simp [go_sem]); have a1 := hu.keep w.heap.size 1 (.int .i64 t1) (by simp [go_sem]); have a2 := hu.keep w.heap.size 2 (.int .i64 nn1) (by simp [go_sem]); have a3 := hu.keep w.heap.size 3 (.int .i64 s1) (by simp [go_sem]); have a4 := hu.keep w.heap.size 4 (.int .i64 qq1) (by simp [go_sem]); have a5 := hu.keep w.heap.size 5 (.int .i64 lo1) (by simp [go_sem]); have a6 := hu.keep w.heap.size 6 (.int .i64 hi1) (by simp [go_sem]); have b0 := hu.keep (w.heap.size + 1) 0 (.int .i64 sq2) (by simp [go_sem]); have b1 := hu.keep (w.heap.size + 1) 1 (.int .i64 t2) (by simp [go_sem]); have b2 := hu.keep (w.heap.size + 1) 2 (.int .i64 nn2) (by simp [go_sem]); have b3 := hu.keep (w.heap.size + 1) 3 (.int .i64 s2) (by simp [go_sem]); have b4 := hu.keep (w.heap.size + 1) 4 (.int .i64 qq2) (by simp [go_sem]); have b5 := hu.keep (w.heap.size + 1) 5 (.int .i64 lo2) (by simp [go_sem]); have b6 := hu.keep (w.heap.size + 1) 6 (.int .i64 hi2) (by simp [go_sem]); clear hu) | (go_at_call 13; (with_reducible refine (KB.out _).mono ?_); rintro e w2 ⟨rfl, hu⟩; have HU2 := Lib.hid (HU1.out.trans hu); have a0 := hu.keep _ _ _ a0; have a1 := hu.keep _ _ _ a1; have a2 := hu.keep _ _ _ a2; have a3 := hu.keep _ _ _ a3; have a4 := hu.keep _ _ _ a4; have a5 := hu.keep _ _ _ a5; have a6 := hu.keep _ _ _ a6; have b0 := hu.keep _ _ _ b0; have b1 := hu.keep _ _ _ b1; have b2 := hu.keep _ _ _ b2; have b3 := hu.keep _ _ _ b3; have b4 := hu.keep _ _ _ b4; have b5 := hu.keep _ _ _ b5; have b6 := hu.keep _ _ _ b6; clear hu))
    go_ret
    exact ⟨rfl, HU2.out⟩
  have tk3 : decide (6 * k * nn2 < (6 * k - 1) * nn1) = false := decide_eq_false hn
  rw [decide_eq_true (p := (6 * k - 1) * nn1 ≤ 6 * k * nn2) (by omega), Bool.true_and]
  have K1 := Lib.hid (scaled_up sq2 t2 nn2 s2 qq2 lo2 hi2 hb)
  have K2 := Lib.hid (scaled_up sq1 t1 nn1 s1 qq1 lo1 hi1 ha)
  have K3 := Lib.hid (cross_up (spM ⟨sq2, t2, nn2, s2, qq2, lo2, hi2⟩) (6 * k * nn1) (spM ⟨sq1, t1, nn1, s1, qq1, lo1, hi1⟩) ((6 * k - 1) * nn2) (spM_in hb).1 ⟨by omega, by omega⟩ (spM_in ha).1 ⟨by omega, by omega⟩)
  have HD := Lib.hid (cross_ge (a := spM ⟨sq2, t2, nn2, s2, qq2, lo2, hi2⟩) (b := 6 * k * nn1) (c := spM ⟨sq1, t1, nn1, s1, qq1, lo1, hi1⟩) (d := (6 * k - 1) * nn2))
  rw [← HD.out]
  clear HD ha hb q1 q2 d1 d2 hn
  generalize spM ⟨sq1, t1, nn1, s1, qq1, lo1, hi1⟩ = za at *
  generalize spM ⟨sq2, t2, nn2, s2, qq2, lo2, hi2⟩ = zb at *
  generalize crossZ zb (6 * k * nn1) za ((6 * k - 1) * nn2) = x at *
  go_enter Try.func6, Try.ntmps6
  go_upto_region 6 with (first | (go_at_call 13; (with_reducible refine (KA.out _).mono ?_); rintro e w1 ⟨rfl, hu⟩; have HU1 := Lib.hid ((((Up.refl w).alloc _ _).alloc _ _).trans hu); have a0 := hu.keep w.heap.size 0 (.int .i64 sq1) (by simp [go_sem]); have a1 := hu.keep w.heap.size 1 (.int .i64 t1) (by simp [go_sem]); have a2 := hu.keep w.heap.size 2 (.int .i64 nn1) (by simp [go_sem]); have a3 := hu.keep w.heap.size 3 (.int .i64 s1) (by simp [go_sem]); have a4 := hu.keep w.heap.size 4 (.int .i64 qq1) (by simp [go_sem]); have a5 := hu.keep w.heap.size 5 (.int .i64 lo1) (by simp [go_sem]); have a6 := hu.keep w.heap.size 6 (.int .i64 hi1) (by simp [go_sem]); have b0 := hu.keep (w.heap.size + 1) 0 (.int .i64 sq2) (by simp [go_sem]); have b1 := hu.keep (w.heap.size + 1) 1 (.int .i64 t2) (by simp [go_sem]); have b2 := hu.keep (w.heap.size + 1) 2 (.int .i64 nn2) (by simp [go_sem]); have b3 := hu.keep (w.heap.size + 1) 3 (.int .i64 s2) (by simp [go_sem]); have b4 := hu.keep (w.heap.size + 1) 4 (.int .i64 qq2) (by simp [go_sem]); have b5 := hu.keep (w.heap.size + 1) 5 (.int .i64 lo2) (by simp [go_sem]); have b6 := hu.keep (w.heap.size + 1) 6 (.int .i64 hi2) (by simp [go_sem]); clear hu) | (go_at_call 13; (with_reducible refine (KB.out _).mono ?_); rintro e w2 ⟨rfl, hu⟩; have HU2 := Lib.hid (HU1.out.trans hu); have a0 := hu.keep _ _ _ a0; have a1 := hu.keep _ _ _ a1; have a2 := hu.keep _ _ _ a2; have a3 := hu.keep _ _ _ a3; have a4 := hu.keep _ _ _ a4; have a5 := hu.keep _ _ _ a5; have a6 := hu.keep _ _ _ a6; have b0 := hu.keep _ _ _ b0; have b1 := hu.keep _ _ _ b1; have b2 := hu.keep _ _ _ b2; have b3 := hu.keep _ _ _ b3; have b4 := hu.keep _ _ _ b4; have b5 := hu.keep _ _ _ b5; have b6 := hu.keep _ _ _ b6; clear hu))
  have HSS : Hid (Up w w2 ∧ w2.cell? ⟨w.heap.size, 0, none⟩ = some (.int .i64 sq1) ∧ w2.cell? ⟨w.heap.size, 1, none⟩ = some (.int .i64 t1) ∧ w2.cell? ⟨w.heap.size, 2, none⟩ = some (.int .i64 nn1) ∧ w2.cell? ⟨w.heap.size, 3, none⟩ = some (.int .i64 s1) ∧ w2.cell? ⟨w.heap.size, 4, none⟩ = some (.int .i64 qq1) ∧ w2.cell? ⟨w.heap.size, 5, none⟩ = some (.int .i64 lo1) ∧ w2.cell? ⟨w.heap.size, 6, none⟩ = some (.int .i64 hi1) ∧ w2.cell? ⟨(w.heap.size + 1), 0, none⟩ = some (.int .i64 sq2) ∧ w2.cell? ⟨(w.heap.size + 1), 1, none⟩ = some (.int .i64 t2) ∧ w2.cell? ⟨(w.heap.size + 1), 2, none⟩ = some (.int .i64 nn2) ∧ w2.cell? ⟨(w.heap.size + 1), 3, none⟩ = some (.int .i64 s2) ∧ w2.cell? ⟨(w.heap.size + 1), 4, none⟩ = some (.int .i64 qq2) ∧ w2.cell? ⟨(w.heap.size + 1), 5, none⟩ = some (.int .i64 lo2) ∧ w2.cell? ⟨(w.heap.size + 1), 6, none⟩ = some (.int .i64 hi2)) := Lib.hid ⟨HU2.out, a0, a1, a2, a3, a4, a5, a6, b0, b1, b2, b3, b4, b5, b6⟩
  clear a0 a1 a2 a3 a4 a5 a6 b0 b1 b2 b3 b4 b5 b6
  go_wp2_with fail
  refine wp_region_held_drew (S := fun w' => Up w w' ∧ w'.cell? ⟨w.heap.size, 0, none⟩ = some (.int .i64 sq1) ∧ w'.cell? ⟨w.heap.size, 1, none⟩ = some (.int .i64 t1) ∧ w'.cell? ⟨w.heap.size, 2, none⟩ = some (.int .i64 nn1) ∧ w'.cell? ⟨w.heap.size, 3, none⟩ = some (.int .i64 s1) ∧ w'.cell? ⟨w.heap.size, 4, none⟩ = some (.int .i64 qq1) ∧ w'.cell? ⟨w.heap.size, 5, none⟩ = some (.int .i64 lo1) ∧ w'.cell? ⟨w.heap.size, 6, none⟩ = some (.int .i64 hi1) ∧ w'.cell? ⟨(w.heap.size + 1), 0, none⟩ = some (.int .i64 sq2) ∧ w'.cell? ⟨(w.heap.size + 1), 1, none⟩ = some (.int .i64 t2) ∧ w'.cell? ⟨(w.heap.size + 1), 2, none⟩ = some (.int .i64 nn2) ∧ w'.cell? ⟨(w.heap.size + 1), 3, none⟩ = some (.int .i64 s2) ∧ w'.cell? ⟨(w.heap.size + 1), 4, none⟩ = some (.int .i64 qq2) ∧ w'.cell? ⟨(w.heap.size + 1), 5, none⟩ = some (.int .i64 lo2) ∧ w'.cell? ⟨(w.heap.size + 1), 6, none⟩ = some (.int .i64 hi2)) (by kernel_rfl) ?hB11 (fun hHeld => ?_)
  case hB11 => (first | (with_reducible assumption) | (with_reducible exact keepK14 (Lib.hid (Up.refl _).drew) HSS.out) | (with_reducible exact HX3.out) | (with_reducible exact HX4.out) | (with_reducible exact HX5.out))
  refine wpAnyH_take (i := 0) (oi := ⟨_, _, _, _, _, _⟩) (v := ?v12) rfl (by kernel_rfl) (by kernel_rfl) (by kernel_rfl) (fun _ _ _ h => h) (Or.inl ⟨by rfl, ?hy12⟩) (by assumption) ?_
  case hy12 => (intro w hSw; (try dsimp only at hSw); go_simp; (try (with_reducible rfl)))
  (try simp only [Act.put, List.setIfInBounds_toArray, List.set_cons_zero, List.set_cons_succ])
  refine wpAnyH_take (i := 2) (oi := ⟨_, _, _, _, _, _⟩) (v := ?v13) rfl (by kernel_rfl) (by kernel_rfl) (by kernel_rfl) (fun _ _ _ h => h) (Or.inl ⟨by rfl, ?hy13⟩) (by assumption) ?_
  case hy13 => (intro w hSw; (try dsimp only at hSw); go_simp; (try (with_reducible rfl)))
  (try simp only [Act.put, List.setIfInBounds_toArray, List.set_cons_zero, List.set_cons_succ])
  refine wpAnyH_take (i := 3) (oi := ⟨_, _, _, _, _, _⟩) (v := ?v14) rfl (by kernel_rfl) (by kernel_rfl) (by kernel_rfl) (fun _ _ _ h => h) (Or.inl ⟨by rfl, ?hy14⟩) (by assumption) ?_
  case hy14 => (intro w hSw; (try dsimp only at hSw); go_simp; (try (with_reducible rfl)))
  (try simp only [Act.put, List.setIfInBounds_toArray, List.set_cons_zero, List.set_cons_succ])
  refine wpAnyH_take (i := 4) (oi := ⟨_, _, _, _, _, _⟩) (v := ?v15) rfl (by kernel_rfl) (by kernel_rfl) (by kernel_rfl) (fun _ _ _ h => h) (Or.inl ⟨by rfl, ?hy15⟩) (by assumption) ?_
  case hy15 => (intro w hSw; (try dsimp only at hSw); go_simp; (try (with_reducible rfl)))
  (try simp only [Act.put, List.setIfInBounds_toArray, List.set_cons_zero, List.set_cons_succ])
  refine wpAnyH_take (i := 5) (oi := ⟨_, _, _, _, _, _⟩) (v := ?v16) rfl (by kernel_rfl) (by kernel_rfl) (by kernel_rfl) (fun _ _ _ h => h) (Or.inl ⟨by rfl, ?hy16⟩) (by assumption) ?_
  case hy16 => (intro w hSw; (try dsimp only at hSw); go_simp; (try (with_reducible rfl)))
  (try simp only [Act.put, List.setIfInBounds_toArray, List.set_cons_zero, List.set_cons_succ])
  refine wpAnyH_take (i := 6) (oi := ⟨_, _, _, _, _, _⟩) (v := ?v17) rfl (by kernel_rfl) (by kernel_rfl) (by kernel_rfl) (fun _ _ _ h => h) (Or.inl ⟨by rfl, ?hy17⟩) (by assumption) ?_
  case hy17 => (intro w hSw; (try dsimp only at hSw); go_simp; (try (with_reducible rfl)))
  (try simp only [Act.put, List.setIfInBounds_toArray, List.set_cons_zero, List.set_cons_succ])
  refine wpAnyH_take (i := 8) (oi := ⟨_, _, _, _, _, _⟩) (v := ?v18) rfl (by kernel_rfl) (by kernel_rfl) (by kernel_rfl) (fun _ _ _ h => h) (Or.inl ⟨by rfl, ?hy18⟩) (by assumption) ?_
  case hy18 => (intro w hSw; (try dsimp only at hSw); go_simp; (try (with_reducible rfl)))
  (try simp only [Act.put, List.setIfInBounds_toArray, List.set_cons_zero, List.set_cons_succ])
  refine wpAnyH_take (i := 9) (oi := ⟨_, _, _, _, _, _⟩) (v := ?v19) rfl (by kernel_rfl) (by kernel_rfl) (by kernel_rfl) (fun _ _ _ h => h) (Or.inl ⟨by rfl, ?hy19⟩) (by assumption) ?_
  case hy19 => (intro w hSw; (try dsimp only at hSw); go_simp; (try (with_reducible rfl)))
  (try simp only [Act.put, List.setIfInBounds_toArray, List.set_cons_zero, List.set_cons_succ])
  refine wpAnyH_take (i := 10) (oi := ⟨_, _, _, _, _, _⟩) (v := ?v20) rfl (by kernel_rfl) (by kernel_rfl) (by kernel_rfl) (fun _ _ _ h => h) (Or.inl ⟨by rfl, ?hy20⟩) (by assumption) ?_
  case hy20 => (intro w hSw; (try dsimp only at hSw); go_simp; (try (with_reducible rfl)))
  (try simp only [Act.put, List.setIfInBounds_toArray, List.set_cons_zero, List.set_cons_succ])
  refine wpAnyH_take (i := 11) (oi := ⟨_, _, _, _, _, _⟩) (v := ?v21) rfl (by kernel_rfl) (by kernel_rfl) (by kernel_rfl) (fun _ _ _ h => h) (Or.inl ⟨by rfl, ?hy21⟩) (by assumption) ?_
  case hy21 => (intro w hSw; (try dsimp only at hSw); go_simp; (try (with_reducible rfl)))
  (try simp only [Act.put, List.setIfInBounds_toArray, List.set_cons_zero, List.set_cons_succ])
  refine wpAnyH_ready (rs := [1]) (by kernel_rfl) (by simp) ?_
  refine AllReadyH.cons (o := ⟨_, _, _, _, _, _⟩) rfl (fun K hK => ?_) AllReadyH.nil
  go_simp
  (go_at_call 15; (with_reducible refine (K1.out _).mono ?_); rintro e w3 ⟨rfl, hu⟩; have HU3 := Lib.hid hu; have HX3 := Lib.hid (keepK14 HU3 hHeld); clear hu)
  (try go_wp2_with fail)
  refine hK.out _ _ ?hB22 (fun hHeld => ?_)
  case hB22 => (first | (with_reducible assumption) | (with_reducible exact keepK14 (Lib.hid (Up.refl _).drew) HSS.out) | (with_reducible exact HX3.out) | (with_reducible exact HX4.out) | (with_reducible exact HX5.out))
  clear hK K
  (try simp only [Act.put, List.setIfInBounds_toArray, List.set_cons_zero, List.set_cons_succ])
  refine wpAnyH_ready (rs := [7]) (by kernel_rfl) (by simp) ?_
  refine AllReadyH.cons (o := ⟨_, _, _, _, _, _⟩) rfl (fun K hK => ?_) AllReadyH.nil
  go_simp
  (go_at_call 15; (with_reducible refine (K2.out _).mono ?_); rintro e w4 ⟨rfl, hu⟩; have HU4 := Lib.hid hu; have HX4 := Lib.hid (keepK14 HU4 hHeld); clear hu)
  (try go_wp2_with fail)
  refine hK.out _ _ ?hB23 (fun hHeld => ?_)
  case hB23 => (first | (with_reducible assumption) | (with_reducible exact keepK14 (Lib.hid (Up.refl _).drew) HSS.out) | (with_reducible exact HX3.out) | (with_reducible exact HX4.out) | (with_reducible exact HX5.out))
  clear hK K
  (try simp only [Act.put, List.setIfInBounds_toArray, List.set_cons_zero, List.set_cons_succ])
  refine wpAnyH_ready (rs := [12]) (by kernel_rfl) (by simp) ?_
  refine AllReadyH.cons (o := ⟨_, _, _, _, _, _⟩) rfl (fun K hK => ?_) AllReadyH.nil
  go_simp
  (go_at_call 14; (with_reducible refine (K3.out _).mono ?_); rintro e w5 ⟨rfl, hu⟩; have HU5 := Lib.hid hu; have HX5 := Lib.hid (keepK14 HU5 hHeld); clear hu)
  (try go_wp2_with fail)
  refine hK.out _ _ ?hB24 (fun hHeld => ?_)
  case hB24 => (first | (with_reducible assumption) | (with_reducible exact keepK14 (Lib.hid (Up.refl _).drew) HSS.out) | (with_reducible exact HX3.out) | (with_reducible exact HX4.out) | (with_reducible exact HX5.out))
  clear hK K
  (try simp only [Act.put, List.setIfInBounds_toArray, List.set_cons_zero, List.set_cons_succ])
  refine wpAnyH_take (i := 13) (oi := ⟨_, _, _, _, _, _⟩) (v := ?v25) rfl (by kernel_rfl) (by kernel_rfl) (by kernel_rfl) (fun _ _ _ h => h) (Or.inl ⟨by rfl, ?hy25⟩) (by assumption) ?_
  case hy25 => (intro w hSw; (try dsimp only at hSw); go_simp; (try (with_reducible rfl)))
  (try simp only [Act.put, List.setIfInBounds_toArray, List.set_cons_zero, List.set_cons_succ])
  refine wpAnyH_take (i := 14) (oi := ⟨_, _, _, _, _, _⟩) (v := ?v26) rfl (by kernel_rfl) (by kernel_rfl) (by kernel_rfl) (fun _ _ _ h => h) (Or.inl ⟨by rfl, ?hy26⟩) (by assumption) ?_
  case hy26 => (intro w hSw; (try dsimp only at hSw); go_simp; (try (with_reducible rfl)))
  (try simp only [Act.put, List.setIfInBounds_toArray, List.set_cons_zero, List.set_cons_succ])
  refine wpAnyH_done (by kernel_rfl) ?_ _
  go_wp2_with fail
  go_ret
  exact ⟨rfl, HX5.out.1⟩

end Go.Proofs.Ytafkoddgefcpnab
