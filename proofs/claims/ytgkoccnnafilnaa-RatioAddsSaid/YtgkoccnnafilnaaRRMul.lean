/- What Mul and Div of the reference of package ratio return. -/
import Derived.Test.YtgkoccnnafilnaaRKeep
namespace Go.Proofs.Ytgkoccnnafilnaa
open Go.RowKit

theorem xzero {x : Int} (h : x = 0) : (hiZ x == 0) = true ∧ (loZ x == 0) = true := by subst h; decide
/-- The ways to the sign of a quotient. -/
theorem sign_ways (n m x : Int) (E : Bool → Prop) (h : E (decide (n < 0) != decide (m < 0))) (hz : x = 0 → E false) :
    (decide (n < 0) = false ∧ decide (m < 0) = false ∧ E false) ∨ (decide (n < 0) = true ∧ decide (m < 0) = true ∧ E false) ∨
    (decide (n < 0) = true ∧ decide (m < 0) = false ∧ (hiZ x == 0) = true ∧ (loZ x == 0) = true ∧ E false) ∨ (decide (n < 0) = false ∧ decide (m < 0) = true ∧ (hiZ x == 0) = true ∧ (loZ x == 0) = true ∧ E false) ∨
    (decide (n < 0) = true ∧ decide (m < 0) = false ∧ (hiZ x == 0) = false ∧ E true) ∨ (decide (n < 0) = false ∧ decide (m < 0) = true ∧ (hiZ x == 0) = false ∧ E true) ∨
    (decide (n < 0) = true ∧ decide (m < 0) = false ∧ (hiZ x == 0) = true ∧ (loZ x == 0) = false ∧ E true) ∨ (decide (n < 0) = false ∧ decide (m < 0) = true ∧ (hiZ x == 0) = true ∧ (loZ x == 0) = false ∧ E true) := by
  generalize decide (n < 0) = a at *
  generalize decide (m < 0) = b at *
  by_cases hx : x = 0
  · obtain ⟨x1, x2⟩ := xzero hx
    rw [x1, x2]
    have := hz hx
    cases a <;> cases b <;> simp_all
  · rcases tests_v hx with x1 | ⟨x1, x2⟩
    · rw [x1]; cases a <;> cases b <;> simp_all
    · rw [x1, x2]; cases a <;> cases b <;> simp_all
theorem sz_scale (s : Bool) (x y : Int) : sz s (x * y) = sz s x * y := by
  cases s
  · rfl
  · show -(x * y) = -x * y; rw [Int.neg_mul]
theorem sz_swap (n m : Int) : sz (decide (n < 0) != decide (m < 0)) (n.natAbs : Int) * m = n * (m.natAbs : Int) := by
  by_cases h1 : n < 0 <;> by_cases h2 : m < 0
  · rw [decide_eq_true h1, decide_eq_true h2]; show (n.natAbs : Int) * m = _
    rw [show (n.natAbs : Int) = -n by omega, show (m.natAbs : Int) = -m by omega, Int.neg_mul, Int.mul_neg]
  · rw [decide_eq_true h1, decide_eq_false h2]; show -(n.natAbs : Int) * m = _
    rw [show -(n.natAbs : Int) = n by omega, show (m.natAbs : Int) = m by omega]
  · rw [decide_eq_false h1, decide_eq_true h2]; show -(n.natAbs : Int) * m = _
    rw [show (n.natAbs : Int) = n by omega, show (m.natAbs : Int) = -m by omega, Int.neg_mul, Int.mul_neg]
  · rw [decide_eq_false h1, decide_eq_false h2]; show (n.natAbs : Int) * m = _
    rw [show (n.natAbs : Int) = n by omega, show (m.natAbs : Int) = m by omega]

set_option maxHeartbeats 8000000 in
set_option maxRecDepth 100000 in
theorem rmulr_up (n d m c : Int) (hn : In n) (hd : In d) (hm : In m) (hc : In c) (w : World) :
    Calls Try.prog 24 #[.agg #[.int .i64 n, .int .i64 d], .agg #[.int .i64 m, .int .i64 c]] w fun e w' =>
      e = gotR (vN (validB n d && validB m c) (n * m) (d * c)) (vD (validB n d && validB m c) (n * m) (d * c)) (vB (validB n d && validB m c) (n * m) (d * c)) ∧ Up w w' := by
  have HV := Lib.hid (fun W => rvalid_up n d hn hd W)
  have HW := Lib.hid (fun W => rvalid_up m c hm hc W)
  by_cases hv : validB n d = true
  case neg =>
    have hv' : validB n d = false := by simpa using hv
    rw [hv', Bool.false_and, v_no]
    rw [hv'] at HV
    clear hv hv' hn hd hm hc
    go_enter Try.func24, Try.ntmps24
    go_wp2_with fail
    refine (HV.out _).mono ?_
    rintro e w1 ⟨rfl, hu1⟩
    try unfold got2
    have c1_0 := hu1.keep (w.heap.size) (0) (.int .i64 n) (by simp [go_sem, *])
    have c1_1 := hu1.keep (w.heap.size) (1) (.int .i64 d) (by simp [go_sem, *])
    have c1_2 := hu1.keep (w.heap.size + 1) (0) (.int .i64 m) (by simp [go_sem, *])
    have c1_3 := hu1.keep (w.heap.size + 1) (1) (.int .i64 c) (by simp [go_sem, *])
    have c1_4 := hu1.keep (w.heap.size + 1 + 1) (0) (.int .i64 0) (by simp [go_sem, *])
    have c1_5 := hu1.keep (w.heap.size + 1 + 1) (1) (.int .i64 0) (by simp [go_sem, *])
    have l1_0 : w.heap.size < w1.heap.size := World.block_lt_of_cell? _ _ c1_0
    have m1_0 : w.heap.size < w1.heap.size + 1 := by omega
    have n1_0 : w.heap.size < w1.heap.size + 1 + 1 := by omega
    have x1_0 : ¬ w1.heap.size = w.heap.size := by omega
    have y1_0 : ¬ w1.heap.size + 1 = w.heap.size := by omega
    have l1_1 : w.heap.size + 1 < w1.heap.size := World.block_lt_of_cell? _ _ c1_2
    have m1_1 : w.heap.size + 1 < w1.heap.size + 1 := by omega
    have n1_1 : w.heap.size + 1 < w1.heap.size + 1 + 1 := by omega
    have x1_1 : ¬ w1.heap.size = w.heap.size + 1 := by omega
    have y1_1 : ¬ w1.heap.size + 1 = w.heap.size + 1 := by omega
    have l1_2 : w.heap.size + 1 + 1 < w1.heap.size := World.block_lt_of_cell? _ _ c1_4
    have m1_2 : w.heap.size + 1 + 1 < w1.heap.size + 1 := by omega
    have n1_2 : w.heap.size + 1 + 1 < w1.heap.size + 1 + 1 := by omega
    have x1_2 : ¬ w1.heap.size = w.heap.size + 1 + 1 := by omega
    have y1_2 : ¬ w1.heap.size + 1 = w.heap.size + 1 + 1 := by omega
    have HU1 : Hid (Up w w1) := Lib.hid (by ((repeat (first | (with_reducible exact Up.refl _) | (with_reducible refine Up.trans ?_ hu1) | (with_reducible refine Up.alloc ?_ _ _) | (with_reducible refine Up.setCell ?_ ?_ _) | (with_reducible refine Up.drewN ?_ _) | (with_reducible refine Up.drew ?_))); all_goals (first | (simp; done) | (simp; omega) | omega)))
    clear hu1
    have z0 := own2 HU1.out 0
    have z1 := own2 HU1.out 1
    go_wp2_with fail
    refine bodyPost_ret (v := .tuple #[.agg #[.int .i64 0, .int .i64 0], .bool false]) (by simp [results, Try.results24, go_sem, c1_4, c1_5]) rfl ⟨?_, ?_⟩
    · rfl
    · ((repeat (first | (with_reducible exact Up.refl _) | (with_reducible exact HU1.out) | (with_reducible refine Up.alloc ?_ _ _) | (with_reducible refine Up.setCell ?_ ?_ _) | (with_reducible refine Up.drewN ?_ _) | (with_reducible refine Up.drew ?_))); all_goals (first | (simp; done) | (simp; omega) | omega))
  rw [hv] at HV
  by_cases hu : validB m c = true
  case neg =>
    have hu' : validB m c = false := by simpa using hu
    rw [hv, hu', Bool.true_and, v_no]
    rw [hu'] at HW
    clear hv hu hu' hn hd hm hc
    go_enter Try.func24, Try.ntmps24
    go_wp2_with fail
    refine (HV.out _).mono ?_
    rintro e w1 ⟨rfl, hu1⟩
    try unfold got2
    have c1_0 := hu1.keep (w.heap.size) (0) (.int .i64 n) (by simp [go_sem, *])
    have c1_1 := hu1.keep (w.heap.size) (1) (.int .i64 d) (by simp [go_sem, *])
    have c1_2 := hu1.keep (w.heap.size + 1) (0) (.int .i64 m) (by simp [go_sem, *])
    have c1_3 := hu1.keep (w.heap.size + 1) (1) (.int .i64 c) (by simp [go_sem, *])
    have c1_4 := hu1.keep (w.heap.size + 1 + 1) (0) (.int .i64 0) (by simp [go_sem, *])
    have c1_5 := hu1.keep (w.heap.size + 1 + 1) (1) (.int .i64 0) (by simp [go_sem, *])
    have l1_0 : w.heap.size < w1.heap.size := World.block_lt_of_cell? _ _ c1_0
    have m1_0 : w.heap.size < w1.heap.size + 1 := by omega
    have n1_0 : w.heap.size < w1.heap.size + 1 + 1 := by omega
    have x1_0 : ¬ w1.heap.size = w.heap.size := by omega
    have y1_0 : ¬ w1.heap.size + 1 = w.heap.size := by omega
    have l1_1 : w.heap.size + 1 < w1.heap.size := World.block_lt_of_cell? _ _ c1_2
    have m1_1 : w.heap.size + 1 < w1.heap.size + 1 := by omega
    have n1_1 : w.heap.size + 1 < w1.heap.size + 1 + 1 := by omega
    have x1_1 : ¬ w1.heap.size = w.heap.size + 1 := by omega
    have y1_1 : ¬ w1.heap.size + 1 = w.heap.size + 1 := by omega
    have l1_2 : w.heap.size + 1 + 1 < w1.heap.size := World.block_lt_of_cell? _ _ c1_4
    have m1_2 : w.heap.size + 1 + 1 < w1.heap.size + 1 := by omega
    have n1_2 : w.heap.size + 1 + 1 < w1.heap.size + 1 + 1 := by omega
    have x1_2 : ¬ w1.heap.size = w.heap.size + 1 + 1 := by omega
    have y1_2 : ¬ w1.heap.size + 1 = w.heap.size + 1 + 1 := by omega
    have HU1 : Hid (Up w w1) := Lib.hid (by ((repeat (first | (with_reducible exact Up.refl _) | (with_reducible refine Up.trans ?_ hu1) | (with_reducible refine Up.alloc ?_ _ _) | (with_reducible refine Up.setCell ?_ ?_ _) | (with_reducible refine Up.drewN ?_ _) | (with_reducible refine Up.drew ?_))); all_goals (first | (simp; done) | (simp; omega) | omega)))
    clear hu1
    go_wp2_with fail
    refine (HW.out _).mono ?_
    rintro e w2 ⟨rfl, hu2⟩
    try unfold got2
    have c2_0 := hu2.keep (w.heap.size) (0) (.int .i64 n) (by simp [go_sem, *])
    have c2_1 := hu2.keep (w.heap.size) (1) (.int .i64 d) (by simp [go_sem, *])
    have c2_2 := hu2.keep (w.heap.size + 1) (0) (.int .i64 m) (by simp [go_sem, *])
    have c2_3 := hu2.keep (w.heap.size + 1) (1) (.int .i64 c) (by simp [go_sem, *])
    have c2_4 := hu2.keep (w.heap.size + 1 + 1) (0) (.int .i64 0) (by simp [go_sem, *])
    have c2_5 := hu2.keep (w.heap.size + 1 + 1) (1) (.int .i64 0) (by simp [go_sem, *])
    have l2_0 : w.heap.size < w2.heap.size := World.block_lt_of_cell? _ _ c2_0
    have m2_0 : w.heap.size < w2.heap.size + 1 := by omega
    have n2_0 : w.heap.size < w2.heap.size + 1 + 1 := by omega
    have x2_0 : ¬ w2.heap.size = w.heap.size := by omega
    have y2_0 : ¬ w2.heap.size + 1 = w.heap.size := by omega
    have l2_1 : w.heap.size + 1 < w2.heap.size := World.block_lt_of_cell? _ _ c2_2
    have m2_1 : w.heap.size + 1 < w2.heap.size + 1 := by omega
    have n2_1 : w.heap.size + 1 < w2.heap.size + 1 + 1 := by omega
    have x2_1 : ¬ w2.heap.size = w.heap.size + 1 := by omega
    have y2_1 : ¬ w2.heap.size + 1 = w.heap.size + 1 := by omega
    have l2_2 : w.heap.size + 1 + 1 < w2.heap.size := World.block_lt_of_cell? _ _ c2_4
    have m2_2 : w.heap.size + 1 + 1 < w2.heap.size + 1 := by omega
    have n2_2 : w.heap.size + 1 + 1 < w2.heap.size + 1 + 1 := by omega
    have x2_2 : ¬ w2.heap.size = w.heap.size + 1 + 1 := by omega
    have y2_2 : ¬ w2.heap.size + 1 = w.heap.size + 1 + 1 := by omega
    have HU2 : Hid (Up w w2) := Lib.hid (by ((repeat (first | (with_reducible exact Up.refl _) | (with_reducible exact HU1.out) | (with_reducible refine Up.trans ?_ hu2) | (with_reducible refine Up.alloc ?_ _ _) | (with_reducible refine Up.setCell ?_ ?_ _) | (with_reducible refine Up.drewN ?_ _) | (with_reducible refine Up.drew ?_))); all_goals (first | (simp; done) | (simp; omega) | omega)))
    clear hu2 c1_0 c1_1 c1_2 c1_3 c1_4 c1_5
    have z0 := own2 HU2.out 0
    have z1 := own2 HU2.out 1
    go_wp2_with fail
    refine bodyPost_ret (v := .tuple #[.agg #[.int .i64 0, .int .i64 0], .bool false]) (by simp [results, Try.results24, go_sem, c2_4, c2_5]) rfl ⟨?_, ?_⟩
    · rfl
    · ((repeat (first | (with_reducible exact Up.refl _) | (with_reducible exact HU2.out) | (with_reducible refine Up.alloc ?_ _ _) | (with_reducible refine Up.setCell ?_ ?_ _) | (with_reducible refine Up.drewN ?_ _) | (with_reducible refine Up.drew ?_))); all_goals (first | (simp; done) | (simp; omega) | omega))
  rw [hu] at HW
  rw [hv, hu, Bool.true_and, v_yes]
  have d1 := (validB_of hv).1
  have c1 := (validB_of hu).1
  clear hv hu
  have hwd : IntKind.u64.wrap d = d := by rw [IntKind.wrap_u64]; obtain ⟨_, d2⟩ := hd; omega
  have hwc : IntKind.u64.wrap c = c := by rw [IntKind.wrap_u64]; obtain ⟨_, c2⟩ := hc; omega
  have wd := word_int d1 hd
  have wc := word_int c1 hc
  have HA := Lib.hid (fun W => rabs_any n hn W)
  have HB := Lib.hid (fun W => rabs_any m hm W)
  have HP := Lib.hid (fun W => rproduct_up (n.natAbs : Int) (m.natAbs : Int) (abs_word hn) (abs_word hm) W)
  have HQ := Lib.hid (fun W => rproduct_up d c wd wc W)
  have hdc : d * c ≠ 0 := Int.mul_ne_zero (by omega) (by omega)
  have HR := Lib.hid (fun s (e : sz s ((n.natAbs : Int) * (m.natAbs : Int)) * (d * c) = n * m * (d * c)) W => red_v s ((n.natAbs : Int) * (m.natAbs : Int)) (d * c) (n * m) (d * c) (mul_word (abs_word hn) (abs_word hm)) (mul_word wd wc) hdc hdc e W)
  have HY := Lib.hid (sign_ways n m ((n.natAbs : Int) * (m.natAbs : Int)) (fun s => sz s ((n.natAbs : Int) * (m.natAbs : Int)) * (d * c) = n * m * (d * c)) (by rw [sz_prod]) (fun h => by
    have h1 := sz_prod n m
    rw [h] at h1 ⊢
    have h2 : n * m = 0 := by rw [← h1]; cases (decide (n < 0) != decide (m < 0)) <;> rfl
    rw [h2]; rfl))
  clear hdc
  generalize quoN (n * m) (d * c) = N at *
  generalize quoD (n * m) (d * c) = D at *
  generalize quoB (n * m) (d * c) = B at *
  generalize (n.natAbs : Int) * (m.natAbs : Int) = x at *
  generalize d * c = y at *
  generalize (n.natAbs : Int) = na at *
  generalize (m.natAbs : Int) = ma at *
  clear d1 c1 wd wc hn hd hm hc
  go_enter Try.func24, Try.ntmps24
  go_wp2_with fail
  refine (HV.out _).mono ?_
  rintro e w1 ⟨rfl, hu1⟩
  try unfold got2
  have c1_0 := hu1.keep (w.heap.size) (0) (.int .i64 n) (by simp [go_sem, *])
  have c1_1 := hu1.keep (w.heap.size) (1) (.int .i64 d) (by simp [go_sem, *])
  have c1_2 := hu1.keep (w.heap.size + 1) (0) (.int .i64 m) (by simp [go_sem, *])
  have c1_3 := hu1.keep (w.heap.size + 1) (1) (.int .i64 c) (by simp [go_sem, *])
  have c1_4 := hu1.keep (w.heap.size + 1 + 1) (0) (.int .i64 0) (by simp [go_sem, *])
  have c1_5 := hu1.keep (w.heap.size + 1 + 1) (1) (.int .i64 0) (by simp [go_sem, *])
  have l1_0 : w.heap.size < w1.heap.size := World.block_lt_of_cell? _ _ c1_0
  have m1_0 : w.heap.size < w1.heap.size + 1 := by omega
  have n1_0 : w.heap.size < w1.heap.size + 1 + 1 := by omega
  have x1_0 : ¬ w1.heap.size = w.heap.size := by omega
  have y1_0 : ¬ w1.heap.size + 1 = w.heap.size := by omega
  have l1_1 : w.heap.size + 1 < w1.heap.size := World.block_lt_of_cell? _ _ c1_2
  have m1_1 : w.heap.size + 1 < w1.heap.size + 1 := by omega
  have n1_1 : w.heap.size + 1 < w1.heap.size + 1 + 1 := by omega
  have x1_1 : ¬ w1.heap.size = w.heap.size + 1 := by omega
  have y1_1 : ¬ w1.heap.size + 1 = w.heap.size + 1 := by omega
  have l1_2 : w.heap.size + 1 + 1 < w1.heap.size := World.block_lt_of_cell? _ _ c1_4
  have m1_2 : w.heap.size + 1 + 1 < w1.heap.size + 1 := by omega
  have n1_2 : w.heap.size + 1 + 1 < w1.heap.size + 1 + 1 := by omega
  have x1_2 : ¬ w1.heap.size = w.heap.size + 1 + 1 := by omega
  have y1_2 : ¬ w1.heap.size + 1 = w.heap.size + 1 + 1 := by omega
  have HU1 : Hid (Up w w1) := Lib.hid (by ((repeat (first | (with_reducible exact Up.refl _) | (with_reducible refine Up.trans ?_ hu1) | (with_reducible refine Up.alloc ?_ _ _) | (with_reducible refine Up.setCell ?_ ?_ _) | (with_reducible refine Up.drewN ?_ _) | (with_reducible refine Up.drew ?_))); all_goals (first | (simp; done) | (simp; omega) | omega)))
  clear hu1
  go_wp2_with fail
  refine (HW.out _).mono ?_
  rintro e w2 ⟨rfl, hu2⟩
  try unfold got2
  have c2_0 := hu2.keep (w.heap.size) (0) (.int .i64 n) (by simp [go_sem, *])
  have c2_1 := hu2.keep (w.heap.size) (1) (.int .i64 d) (by simp [go_sem, *])
  have c2_2 := hu2.keep (w.heap.size + 1) (0) (.int .i64 m) (by simp [go_sem, *])
  have c2_3 := hu2.keep (w.heap.size + 1) (1) (.int .i64 c) (by simp [go_sem, *])
  have c2_4 := hu2.keep (w.heap.size + 1 + 1) (0) (.int .i64 0) (by simp [go_sem, *])
  have c2_5 := hu2.keep (w.heap.size + 1 + 1) (1) (.int .i64 0) (by simp [go_sem, *])
  have l2_0 : w.heap.size < w2.heap.size := World.block_lt_of_cell? _ _ c2_0
  have m2_0 : w.heap.size < w2.heap.size + 1 := by omega
  have n2_0 : w.heap.size < w2.heap.size + 1 + 1 := by omega
  have x2_0 : ¬ w2.heap.size = w.heap.size := by omega
  have y2_0 : ¬ w2.heap.size + 1 = w.heap.size := by omega
  have l2_1 : w.heap.size + 1 < w2.heap.size := World.block_lt_of_cell? _ _ c2_2
  have m2_1 : w.heap.size + 1 < w2.heap.size + 1 := by omega
  have n2_1 : w.heap.size + 1 < w2.heap.size + 1 + 1 := by omega
  have x2_1 : ¬ w2.heap.size = w.heap.size + 1 := by omega
  have y2_1 : ¬ w2.heap.size + 1 = w.heap.size + 1 := by omega
  have l2_2 : w.heap.size + 1 + 1 < w2.heap.size := World.block_lt_of_cell? _ _ c2_4
  have m2_2 : w.heap.size + 1 + 1 < w2.heap.size + 1 := by omega
  have n2_2 : w.heap.size + 1 + 1 < w2.heap.size + 1 + 1 := by omega
  have x2_2 : ¬ w2.heap.size = w.heap.size + 1 + 1 := by omega
  have y2_2 : ¬ w2.heap.size + 1 = w.heap.size + 1 + 1 := by omega
  have HU2 : Hid (Up w w2) := Lib.hid (by ((repeat (first | (with_reducible exact Up.refl _) | (with_reducible exact HU1.out) | (with_reducible refine Up.trans ?_ hu2) | (with_reducible refine Up.alloc ?_ _ _) | (with_reducible refine Up.setCell ?_ ?_ _) | (with_reducible refine Up.drewN ?_ _) | (with_reducible refine Up.drew ?_))); all_goals (first | (simp; done) | (simp; omega) | omega)))
  clear hu2 c1_0 c1_1 c1_2 c1_3 c1_4 c1_5
  go_upto_region 3 with fail
  go_cut [6] (fun t6 wx => ∃ g : Nat, w.heap.size + 2 < g ∧ t6 = .pointer (some ⟨g, 0, none⟩) ∧ wx.cell? ⟨g, 0, none⟩ = some (.int .u64 (hiZ x)) ∧ wx.cell? ⟨g, 1, none⟩ = some (.int .u64 (loZ x)) ∧ Up w wx ∧ wx.cell? ⟨w.heap.size, 0, none⟩ = some (.int .i64 n) ∧ wx.cell? ⟨w.heap.size, 1, none⟩ = some (.int .i64 d) ∧ wx.cell? ⟨w.heap.size + 1, 0, none⟩ = some (.int .i64 m) ∧ wx.cell? ⟨w.heap.size + 1, 1, none⟩ = some (.int .i64 c) ∧ wx.cell? ⟨w.heap.size + 1 + 1, 0, none⟩ = some (.int .i64 0) ∧ wx.cell? ⟨w.heap.size + 1 + 1, 1, none⟩ = some (.int .i64 0))
  case first =>
    go_region_held3 (fun w' => Up w w' ∧ w'.cell? ⟨w.heap.size, 0, none⟩ = some (.int .i64 n) ∧ w'.cell? ⟨w.heap.size, 1, none⟩ = some (.int .i64 d) ∧ w'.cell? ⟨w.heap.size + 1, 0, none⟩ = some (.int .i64 m) ∧ w'.cell? ⟨w.heap.size + 1, 1, none⟩ = some (.int .i64 c) ∧ w'.cell? ⟨w.heap.size + 1 + 1, 0, none⟩ = some (.int .i64 0) ∧ w'.cell? ⟨w.heap.size + 1 + 1, 1, none⟩ = some (.int .i64 0))
      (first | (with_reducible exact keep6 (by assumption) (by assumption)) | (exact ⟨HU2.out.drew, c2_0, c2_1, c2_2, c2_3, c2_4, c2_5⟩) | (repeat (first | (with_reducible assumption) | (with_reducible exact ⟨HU2.out, c2_0, c2_1, c2_2, c2_3, c2_4, c2_5⟩) | (with_reducible exact Hid.out (by assumption)) | (with_reducible refine alloc6 ?_) | (with_reducible refine drew6 ?_) | (with_reducible refine set6 ?_ (by omega) (by omega) (by omega) (by omega) (by omega) (by omega) (by omega)))))
      (first
        | (go_at_call 35; (with_reducible refine (HA.out _).mono ?_); rintro e w' ⟨rfl, rfl⟩)
        | (go_at_call 35; (with_reducible refine (HB.out _).mono ?_); rintro e w' ⟨rfl, rfl⟩)
        | (go_at_call 43; (with_reducible refine (HP.out _).mono ?_); rintro e w3 ⟨rfl, hu3⟩; have HU3 := Lib.hid hu3; have HS3 := Lib.hid (keep6 HU3 (by assumption)); obtain ⟨hc3, hz3⟩ := hu3.cells; have hs3 := hu3.size; (try simp at hs3); clear hu3; (try unfold got2); (try (have p3_0 : w.heap.size < w3.heap.size := by omega)); (try (have p3_1 : w.heap.size + 1 < w3.heap.size := by omega)); (try (have p3_2 : w.heap.size + 1 + 1 < w3.heap.size := by omega)); (try (have p3_3 : w2.heap.size < w3.heap.size := by omega)))
        )
    all_goals
      go_wp2_with fail
      go_meet
      refine ⟨_, ?_, rfl, ?_, ?_, by assumption⟩
      · omega
      all_goals (simp [go_sem, *])
  obtain ⟨g, lg, rfl, g0, g1, hS⟩ := hcut
  obtain ⟨hup, a0, a1, b0, b1, r0, r1⟩ := hS
  have HUP := Lib.hid hup
  clear hup
  rcases HY.out with ⟨t1, t2, e⟩ | ⟨t1, t2, e⟩ | ⟨t1, t2, t3, t4, e⟩ | ⟨t1, t2, t3, t4, e⟩ | ⟨t1, t2, t3, e⟩ | ⟨t1, t2, t3, e⟩ | ⟨t1, t2, t3, t4, e⟩ | ⟨t1, t2, t3, t4, e⟩
  · have HE := Lib.hid e
    clear e
    go_wp2_with fail
    refine wp_region_held_drew (S := fun w' => Up w w' ∧ Res2 w' (w.heap.size + 1 + 1) ∧ w'.cell? ⟨w.heap.size, 0, none⟩ = some (.int .i64 n) ∧ w'.cell? ⟨w.heap.size, 1, none⟩ = some (.int .i64 d) ∧ w'.cell? ⟨w.heap.size + 1, 0, none⟩ = some (.int .i64 m) ∧ w'.cell? ⟨w.heap.size + 1, 1, none⟩ = some (.int .i64 c) ∧ w'.cell? ⟨g, 0, none⟩ = some (.int .u64 (hiZ x)) ∧ w'.cell? ⟨g, 1, none⟩ = some (.int .u64 (loZ x))) (by kernel_rfl) ?hB1 (fun hHeld => ?_)
    case hB1 => (first | (with_reducible exact rkeep6 (by assumption) (by assumption)) | (exact ⟨HUP.out.drew, ⟨_, _, r0, r1⟩, a0, a1, b0, b1, g0, g1⟩) | (repeat (first | (with_reducible assumption) | (with_reducible exact Hid.out (by assumption)) | (with_reducible refine rset6_0 ?_ (by omega) (by omega) (by omega) (by omega) (by omega) (by omega) (by omega)) | (with_reducible refine rset6_1 ?_ (by omega) (by omega) (by omega) (by omega) (by omega) (by omega) (by omega)))))
    refine wpAnyH_take (i := 0) (oi := ⟨_, _, _, _, _, _⟩) (v := ?v2) rfl (by kernel_rfl) (by kernel_rfl) (by kernel_rfl) (fun _ _ _ h => h) (Or.inl ⟨by rfl, ?hy2⟩) (by assumption) ?_
    case hy2 => (intro w hSw; (try dsimp only at hSw); go_simp; (try (with_reducible rfl)))
    (try simp only [Act.put, List.setIfInBounds_toArray, List.set_cons_zero, List.set_cons_succ])
    refine wpAnyH_take (i := 1) (oi := ⟨_, _, _, _, _, _⟩) (v := ?v3) rfl (by kernel_rfl) (by kernel_rfl) (by kernel_rfl) (fun _ _ _ h => h) (Or.inl ⟨by rfl, ?hy3⟩) (by assumption) ?_
    case hy3 => (intro w hSw; (try dsimp only at hSw); go_simp; (try (with_reducible rfl)))
    (try simp only [Act.put, List.setIfInBounds_toArray, List.set_cons_zero, List.set_cons_succ])
    refine wpAnyH_take (i := 2) (oi := ⟨_, _, _, _, _, _⟩) (v := ?v4) rfl (by kernel_rfl) (by kernel_rfl) (by kernel_rfl) (fun _ _ _ h => h) (Or.inl ⟨by rfl, ?hy4⟩) (by assumption) ?_
    case hy4 => (intro w hSw; (try dsimp only at hSw); go_simp; (try (with_reducible rfl)))
    (try simp only [Act.put, List.setIfInBounds_toArray, List.set_cons_zero, List.set_cons_succ])
    refine wpAnyH_take (i := 3) (oi := ⟨_, _, _, _, _, _⟩) (v := ?v5) rfl (by kernel_rfl) (by kernel_rfl) (by kernel_rfl) (fun _ _ _ h => h) (Or.inl ⟨by rfl, ?hy5⟩) (by assumption) ?_
    case hy5 => (intro w hSw; (try dsimp only at hSw); go_simp; (try (with_reducible rfl)))
    (try simp only [Act.put, List.setIfInBounds_toArray, List.set_cons_zero, List.set_cons_succ])
    refine wpAnyH_take (i := 4) (oi := ⟨_, _, _, _, _, _⟩) (v := ?v6) rfl (by kernel_rfl) (by kernel_rfl) (by kernel_rfl) (fun _ _ _ h => h) (Or.inl ⟨by rfl, ?hy6⟩) (by assumption) ?_
    case hy6 => (intro w hSw; (try dsimp only at hSw); go_simp; (try (with_reducible rfl)))
    (try simp only [Act.put, List.setIfInBounds_toArray, List.set_cons_zero, List.set_cons_succ])
    refine wpAnyH_take (i := 5) (oi := ⟨_, _, _, _, _, _⟩) (v := ?v7) rfl (by kernel_rfl) (by kernel_rfl) (by kernel_rfl) (fun _ _ _ h => h) (Or.inl ⟨by rfl, ?hy7⟩) (by assumption) ?_
    case hy7 => (intro w hSw; (try dsimp only at hSw); go_simp; (try (with_reducible rfl)))
    (try simp only [Act.put, List.setIfInBounds_toArray, List.set_cons_zero, List.set_cons_succ])
    refine wpAnyH_take (i := 6) (oi := ⟨_, _, _, _, _, _⟩) (v := ?v8) rfl (by kernel_rfl) (by kernel_rfl) (by kernel_rfl) (fun _ _ _ h => h) (Or.inl ⟨by rfl, ?hy8⟩) (by assumption) ?_
    case hy8 => (intro w hSw; (try dsimp only at hSw); go_simp; (try (with_reducible rfl)))
    (try simp only [Act.put, List.setIfInBounds_toArray, List.set_cons_zero, List.set_cons_succ])
    refine wpAnyH_take (i := 7) (oi := ⟨_, _, _, _, _, _⟩) (v := ?v9) rfl (by kernel_rfl) (by kernel_rfl) (by kernel_rfl) (fun _ _ _ h => h) (Or.inl ⟨by rfl, ?hy9⟩) (by assumption) ?_
    case hy9 => (intro w hSw; (try dsimp only at hSw); go_simp; (try (with_reducible rfl)))
    (try simp only [Act.put, List.setIfInBounds_toArray, List.set_cons_zero, List.set_cons_succ])
    refine wpAnyH_take (i := 8) (oi := ⟨_, _, _, _, _, _⟩) (v := undef) rfl (by kernel_rfl) (by kernel_rfl) (by kernel_rfl) (fun _ _ _ h => h) (Or.inr ⟨by rfl, rfl⟩) (by assumption) ?_
    (try simp only [Act.put, List.setIfInBounds_toArray, List.set_cons_zero, List.set_cons_succ])
    refine wpAnyH_take (i := 9) (oi := ⟨_, _, _, _, _, _⟩) (v := undef) rfl (by kernel_rfl) (by kernel_rfl) (by kernel_rfl) (fun _ _ _ h => h) (Or.inr ⟨by rfl, rfl⟩) (by assumption) ?_
    (try simp only [Act.put, List.setIfInBounds_toArray, List.set_cons_zero, List.set_cons_succ])
    refine wpAnyH_take (i := 10) (oi := ⟨_, _, _, _, _, _⟩) (v := undef) rfl (by kernel_rfl) (by kernel_rfl) (by kernel_rfl) (fun _ _ _ h => h) (Or.inr ⟨by rfl, rfl⟩) (by assumption) ?_
    (try simp only [Act.put, List.setIfInBounds_toArray, List.set_cons_zero, List.set_cons_succ])
    refine wpAnyH_take (i := 11) (oi := ⟨_, _, _, _, _, _⟩) (v := ?v10) rfl (by kernel_rfl) (by kernel_rfl) (by kernel_rfl) (fun _ _ _ h => h) (Or.inl ⟨by rfl, ?hy10⟩) (by assumption) ?_
    case hy10 => (intro w hSw; (try dsimp only at hSw); go_simp; (try (with_reducible rfl)))
    (try simp only [Act.put, List.setIfInBounds_toArray, List.set_cons_zero, List.set_cons_succ])
    refine wpAnyH_take (i := 12) (oi := ⟨_, _, _, _, _, _⟩) (v := ?v11) rfl (by kernel_rfl) (by kernel_rfl) (by kernel_rfl) (fun _ _ _ h => h) (Or.inl ⟨by rfl, ?hy11⟩) (by assumption) ?_
    case hy11 => (intro w hSw; (try dsimp only at hSw); go_simp; (try (with_reducible rfl)))
    (try simp only [Act.put, List.setIfInBounds_toArray, List.set_cons_zero, List.set_cons_succ])
    refine wpAnyH_take (i := 13) (oi := ⟨_, _, _, _, _, _⟩) (v := ?v12) rfl (by kernel_rfl) (by kernel_rfl) (by kernel_rfl) (fun _ _ _ h => h) (Or.inl ⟨by rfl, ?hy12⟩) (by assumption) ?_
    case hy12 => (intro w hSw; (try dsimp only at hSw); go_simp; (try (with_reducible rfl)))
    (try simp only [Act.put, List.setIfInBounds_toArray, List.set_cons_zero, List.set_cons_succ])
    refine wpAnyH_take (i := 14) (oi := ⟨_, _, _, _, _, _⟩) (v := ?v13) rfl (by kernel_rfl) (by kernel_rfl) (by kernel_rfl) (fun _ _ _ h => h) (Or.inl ⟨by rfl, ?hy13⟩) (by assumption) ?_
    case hy13 => (intro w hSw; (try dsimp only at hSw); go_simp; (try (with_reducible rfl)))
    (try simp only [Act.put, List.setIfInBounds_toArray, List.set_cons_zero, List.set_cons_succ])
    refine wpAnyH_take (i := 15) (oi := ⟨_, _, _, _, _, _⟩) (v := ?v14) rfl (by kernel_rfl) (by kernel_rfl) (by kernel_rfl) (fun _ _ _ h => h) (Or.inl ⟨by rfl, ?hy14⟩) (by assumption) ?_
    case hy14 => (intro w hSw; (try dsimp only at hSw); go_simp; (try (with_reducible rfl)))
    (try simp only [Act.put, List.setIfInBounds_toArray, List.set_cons_zero, List.set_cons_succ])
    refine wpAnyH_take (i := 16) (oi := ⟨_, _, _, _, _, _⟩) (v := ?v15) rfl (by kernel_rfl) (by kernel_rfl) (by kernel_rfl) (fun _ _ _ h => h) (Or.inl ⟨by rfl, ?hy15⟩) (by assumption) ?_
    case hy15 => (intro w hSw; (try dsimp only at hSw); go_simp; (try (with_reducible rfl)))
    (try simp only [Act.put, List.setIfInBounds_toArray, List.set_cons_zero, List.set_cons_succ])
    refine wpAnyH_take (i := 17) (oi := ⟨_, _, _, _, _, _⟩) (v := ?v16) rfl (by kernel_rfl) (by kernel_rfl) (by kernel_rfl) (fun _ _ _ h => h) (Or.inl ⟨by rfl, ?hy16⟩) (by assumption) ?_
    case hy16 => (intro w hSw; (try dsimp only at hSw); go_simp; (try (with_reducible rfl)))
    (try simp only [Act.put, List.setIfInBounds_toArray, List.set_cons_zero, List.set_cons_succ])
    refine wpAnyH_take (i := 18) (oi := ⟨_, _, _, _, _, _⟩) (v := ?v17) rfl (by kernel_rfl) (by kernel_rfl) (by kernel_rfl) (fun _ _ _ h => h) (Or.inl ⟨by rfl, ?hy17⟩) (by assumption) ?_
    case hy17 => (intro w hSw; (try dsimp only at hSw); go_simp; (try (with_reducible rfl)))
    (try simp only [Act.put, List.setIfInBounds_toArray, List.set_cons_zero, List.set_cons_succ])
    refine wpAnyH_ready (rs := [19]) (by kernel_rfl) (by simp) ?_
    refine AllReadyH.cons (o := ⟨_, _, _, _, _, _⟩) rfl (fun K hK => ?_) AllReadyH.nil
    go_simp
    (go_at_call 43; (with_reducible refine (HQ.out _).mono ?_); rintro e w' ⟨rfl, hu⟩; have HU := Lib.hid hu; clear hu)
    (try go_wp2_with fail)
    refine hK.out _ _ ?hB18 (fun hHeld => ?_)
    case hB18 => (first | (with_reducible exact rkeep6 (by assumption) (by assumption)) | (exact ⟨HUP.out.drew, ⟨_, _, r0, r1⟩, a0, a1, b0, b1, g0, g1⟩) | (repeat (first | (with_reducible assumption) | (with_reducible exact Hid.out (by assumption)) | (with_reducible refine rset6_0 ?_ (by omega) (by omega) (by omega) (by omega) (by omega) (by omega) (by omega)) | (with_reducible refine rset6_1 ?_ (by omega) (by omega) (by omega) (by omega) (by omega) (by omega) (by omega)))))
    clear hK K
    (try simp only [Act.put, List.setIfInBounds_toArray, List.set_cons_zero, List.set_cons_succ])
    refine wpAnyH_ready (rs := [20]) (by kernel_rfl) (by simp) ?_
    refine AllReadyH.cons (o := ⟨_, _, _, _, _, _⟩) rfl (fun K hK => ?_) AllReadyH.nil
    go_simp
    (go_at_call 33; (with_reducible refine (HR.out _ HE.out _).mono ?_); rintro e wq ⟨rfl, hu⟩; have HU := Lib.hid hu; have HSq := Lib.hid (rkeep6 HU (by assumption)); obtain ⟨r0', r1', k0, k1⟩ := HSq.out.2.1; have z0 := own2 HSq.out.1 0; have z1 := own2 HSq.out.1 1; clear hu; unfold gotR)
    (try go_wp2_with fail)
    refine hK.out _ _ ?hB19 (fun hHeld => ?_)
    case hB19 => (first | (with_reducible exact rkeep6 (by assumption) (by assumption)) | (exact ⟨HUP.out.drew, ⟨_, _, r0, r1⟩, a0, a1, b0, b1, g0, g1⟩) | (repeat (first | (with_reducible assumption) | (with_reducible exact Hid.out (by assumption)) | (with_reducible refine rset6_0 ?_ (by omega) (by omega) (by omega) (by omega) (by omega) (by omega) (by omega)) | (with_reducible refine rset6_1 ?_ (by omega) (by omega) (by omega) (by omega) (by omega) (by omega) (by omega)))))
    clear hK K
    (try simp only [Act.put, List.setIfInBounds_toArray, List.set_cons_zero, List.set_cons_succ])
    refine wpAnyH_take (i := 21) (oi := ⟨_, _, _, _, _, _⟩) (v := ?v20) rfl (by kernel_rfl) (by kernel_rfl) (by kernel_rfl) (fun _ _ _ h => h) (Or.inl ⟨by rfl, ?hy20⟩) (by assumption) ?_
    case hy20 => (intro w hSw; (try dsimp only at hSw); go_simp; (try (with_reducible rfl)))
    (try simp only [Act.put, List.setIfInBounds_toArray, List.set_cons_zero, List.set_cons_succ])
    refine wpAnyH_take (i := 22) (oi := ⟨_, _, _, _, _, _⟩) (v := ?v21) rfl (by kernel_rfl) (by kernel_rfl) (by kernel_rfl) (fun _ _ _ h => h) (Or.inl ⟨by rfl, ?hy21⟩) (by assumption) ?_
    case hy21 => (intro w hSw; (try dsimp only at hSw); go_simp; (try (with_reducible rfl)))
    (try simp only [Act.put, List.setIfInBounds_toArray, List.set_cons_zero, List.set_cons_succ])
    refine wpAnyH_ready (rs := [23]) (by kernel_rfl) (by simp) ?_
    refine AllReadyH.cons (o := ⟨_, _, _, _, _, _⟩) rfl (fun K hK => ?_) AllReadyH.nil
    go_simp
    refine hK.out _ _ ?hB22 (fun hHeld => ?_)
    case hB22 => (first | (with_reducible exact rkeep6 (by assumption) (by assumption)) | (exact ⟨HUP.out.drew, ⟨_, _, r0, r1⟩, a0, a1, b0, b1, g0, g1⟩) | (repeat (first | (with_reducible assumption) | (with_reducible exact Hid.out (by assumption)) | (with_reducible refine rset6_0 ?_ (by omega) (by omega) (by omega) (by omega) (by omega) (by omega) (by omega)) | (with_reducible refine rset6_1 ?_ (by omega) (by omega) (by omega) (by omega) (by omega) (by omega) (by omega)))))
    clear hK K
    (try simp only [Act.put, List.setIfInBounds_toArray, List.set_cons_zero, List.set_cons_succ])
    refine wpAnyH_take (i := 24) (oi := ⟨_, _, _, _, _, _⟩) (v := ?v23) rfl (by kernel_rfl) (by kernel_rfl) (by kernel_rfl) (fun _ _ _ h => h) (Or.inl ⟨by rfl, ?hy23⟩) (by assumption) ?_
    case hy23 => (intro w hSw; (try dsimp only at hSw); go_simp; (try (with_reducible rfl)))
    (try simp only [Act.put, List.setIfInBounds_toArray, List.set_cons_zero, List.set_cons_succ])
    refine wpAnyH_done (by kernel_rfl) ?_ _
    all_goals
      go_wp2_with fail
      refine bodyPost_ret (v := .tuple #[.agg #[.int .i64 N, .int .i64 D], .bool B]) (by simp [results, Try.results24, go_sem, k0, k1]) rfl ⟨?_, ?_⟩
      · rfl
      · exact And.left (by assumption)
  · have HE := Lib.hid e
    clear e
    go_wp2_with fail
    refine wp_region_held_drew (S := fun w' => Up w w' ∧ Res2 w' (w.heap.size + 1 + 1) ∧ w'.cell? ⟨w.heap.size, 0, none⟩ = some (.int .i64 n) ∧ w'.cell? ⟨w.heap.size, 1, none⟩ = some (.int .i64 d) ∧ w'.cell? ⟨w.heap.size + 1, 0, none⟩ = some (.int .i64 m) ∧ w'.cell? ⟨w.heap.size + 1, 1, none⟩ = some (.int .i64 c) ∧ w'.cell? ⟨g, 0, none⟩ = some (.int .u64 (hiZ x)) ∧ w'.cell? ⟨g, 1, none⟩ = some (.int .u64 (loZ x))) (by kernel_rfl) ?hB24 (fun hHeld => ?_)
    case hB24 => (first | (with_reducible exact rkeep6 (by assumption) (by assumption)) | (exact ⟨HUP.out.drew, ⟨_, _, r0, r1⟩, a0, a1, b0, b1, g0, g1⟩) | (repeat (first | (with_reducible assumption) | (with_reducible exact Hid.out (by assumption)) | (with_reducible refine rset6_0 ?_ (by omega) (by omega) (by omega) (by omega) (by omega) (by omega) (by omega)) | (with_reducible refine rset6_1 ?_ (by omega) (by omega) (by omega) (by omega) (by omega) (by omega) (by omega)))))
    refine wpAnyH_take (i := 0) (oi := ⟨_, _, _, _, _, _⟩) (v := ?v25) rfl (by kernel_rfl) (by kernel_rfl) (by kernel_rfl) (fun _ _ _ h => h) (Or.inl ⟨by rfl, ?hy25⟩) (by assumption) ?_
    case hy25 => (intro w hSw; (try dsimp only at hSw); go_simp; (try (with_reducible rfl)))
    (try simp only [Act.put, List.setIfInBounds_toArray, List.set_cons_zero, List.set_cons_succ])
    refine wpAnyH_take (i := 1) (oi := ⟨_, _, _, _, _, _⟩) (v := ?v26) rfl (by kernel_rfl) (by kernel_rfl) (by kernel_rfl) (fun _ _ _ h => h) (Or.inl ⟨by rfl, ?hy26⟩) (by assumption) ?_
    case hy26 => (intro w hSw; (try dsimp only at hSw); go_simp; (try (with_reducible rfl)))
    (try simp only [Act.put, List.setIfInBounds_toArray, List.set_cons_zero, List.set_cons_succ])
    refine wpAnyH_take (i := 2) (oi := ⟨_, _, _, _, _, _⟩) (v := ?v27) rfl (by kernel_rfl) (by kernel_rfl) (by kernel_rfl) (fun _ _ _ h => h) (Or.inl ⟨by rfl, ?hy27⟩) (by assumption) ?_
    case hy27 => (intro w hSw; (try dsimp only at hSw); go_simp; (try (with_reducible rfl)))
    (try simp only [Act.put, List.setIfInBounds_toArray, List.set_cons_zero, List.set_cons_succ])
    refine wpAnyH_take (i := 3) (oi := ⟨_, _, _, _, _, _⟩) (v := ?v28) rfl (by kernel_rfl) (by kernel_rfl) (by kernel_rfl) (fun _ _ _ h => h) (Or.inl ⟨by rfl, ?hy28⟩) (by assumption) ?_
    case hy28 => (intro w hSw; (try dsimp only at hSw); go_simp; (try (with_reducible rfl)))
    (try simp only [Act.put, List.setIfInBounds_toArray, List.set_cons_zero, List.set_cons_succ])
    refine wpAnyH_take (i := 4) (oi := ⟨_, _, _, _, _, _⟩) (v := ?v29) rfl (by kernel_rfl) (by kernel_rfl) (by kernel_rfl) (fun _ _ _ h => h) (Or.inl ⟨by rfl, ?hy29⟩) (by assumption) ?_
    case hy29 => (intro w hSw; (try dsimp only at hSw); go_simp; (try (with_reducible rfl)))
    (try simp only [Act.put, List.setIfInBounds_toArray, List.set_cons_zero, List.set_cons_succ])
    refine wpAnyH_take (i := 5) (oi := ⟨_, _, _, _, _, _⟩) (v := ?v30) rfl (by kernel_rfl) (by kernel_rfl) (by kernel_rfl) (fun _ _ _ h => h) (Or.inl ⟨by rfl, ?hy30⟩) (by assumption) ?_
    case hy30 => (intro w hSw; (try dsimp only at hSw); go_simp; (try (with_reducible rfl)))
    (try simp only [Act.put, List.setIfInBounds_toArray, List.set_cons_zero, List.set_cons_succ])
    refine wpAnyH_take (i := 6) (oi := ⟨_, _, _, _, _, _⟩) (v := ?v31) rfl (by kernel_rfl) (by kernel_rfl) (by kernel_rfl) (fun _ _ _ h => h) (Or.inl ⟨by rfl, ?hy31⟩) (by assumption) ?_
    case hy31 => (intro w hSw; (try dsimp only at hSw); go_simp; (try (with_reducible rfl)))
    (try simp only [Act.put, List.setIfInBounds_toArray, List.set_cons_zero, List.set_cons_succ])
    refine wpAnyH_take (i := 7) (oi := ⟨_, _, _, _, _, _⟩) (v := ?v32) rfl (by kernel_rfl) (by kernel_rfl) (by kernel_rfl) (fun _ _ _ h => h) (Or.inl ⟨by rfl, ?hy32⟩) (by assumption) ?_
    case hy32 => (intro w hSw; (try dsimp only at hSw); go_simp; (try (with_reducible rfl)))
    (try simp only [Act.put, List.setIfInBounds_toArray, List.set_cons_zero, List.set_cons_succ])
    refine wpAnyH_take (i := 8) (oi := ⟨_, _, _, _, _, _⟩) (v := undef) rfl (by kernel_rfl) (by kernel_rfl) (by kernel_rfl) (fun _ _ _ h => h) (Or.inr ⟨by rfl, rfl⟩) (by assumption) ?_
    (try simp only [Act.put, List.setIfInBounds_toArray, List.set_cons_zero, List.set_cons_succ])
    refine wpAnyH_take (i := 9) (oi := ⟨_, _, _, _, _, _⟩) (v := undef) rfl (by kernel_rfl) (by kernel_rfl) (by kernel_rfl) (fun _ _ _ h => h) (Or.inr ⟨by rfl, rfl⟩) (by assumption) ?_
    (try simp only [Act.put, List.setIfInBounds_toArray, List.set_cons_zero, List.set_cons_succ])
    refine wpAnyH_take (i := 10) (oi := ⟨_, _, _, _, _, _⟩) (v := undef) rfl (by kernel_rfl) (by kernel_rfl) (by kernel_rfl) (fun _ _ _ h => h) (Or.inr ⟨by rfl, rfl⟩) (by assumption) ?_
    (try simp only [Act.put, List.setIfInBounds_toArray, List.set_cons_zero, List.set_cons_succ])
    refine wpAnyH_take (i := 11) (oi := ⟨_, _, _, _, _, _⟩) (v := ?v33) rfl (by kernel_rfl) (by kernel_rfl) (by kernel_rfl) (fun _ _ _ h => h) (Or.inl ⟨by rfl, ?hy33⟩) (by assumption) ?_
    case hy33 => (intro w hSw; (try dsimp only at hSw); go_simp; (try (with_reducible rfl)))
    (try simp only [Act.put, List.setIfInBounds_toArray, List.set_cons_zero, List.set_cons_succ])
    refine wpAnyH_take (i := 12) (oi := ⟨_, _, _, _, _, _⟩) (v := ?v34) rfl (by kernel_rfl) (by kernel_rfl) (by kernel_rfl) (fun _ _ _ h => h) (Or.inl ⟨by rfl, ?hy34⟩) (by assumption) ?_
    case hy34 => (intro w hSw; (try dsimp only at hSw); go_simp; (try (with_reducible rfl)))
    (try simp only [Act.put, List.setIfInBounds_toArray, List.set_cons_zero, List.set_cons_succ])
    refine wpAnyH_take (i := 13) (oi := ⟨_, _, _, _, _, _⟩) (v := ?v35) rfl (by kernel_rfl) (by kernel_rfl) (by kernel_rfl) (fun _ _ _ h => h) (Or.inl ⟨by rfl, ?hy35⟩) (by assumption) ?_
    case hy35 => (intro w hSw; (try dsimp only at hSw); go_simp; (try (with_reducible rfl)))
    (try simp only [Act.put, List.setIfInBounds_toArray, List.set_cons_zero, List.set_cons_succ])
    refine wpAnyH_take (i := 14) (oi := ⟨_, _, _, _, _, _⟩) (v := ?v36) rfl (by kernel_rfl) (by kernel_rfl) (by kernel_rfl) (fun _ _ _ h => h) (Or.inl ⟨by rfl, ?hy36⟩) (by assumption) ?_
    case hy36 => (intro w hSw; (try dsimp only at hSw); go_simp; (try (with_reducible rfl)))
    (try simp only [Act.put, List.setIfInBounds_toArray, List.set_cons_zero, List.set_cons_succ])
    refine wpAnyH_take (i := 15) (oi := ⟨_, _, _, _, _, _⟩) (v := ?v37) rfl (by kernel_rfl) (by kernel_rfl) (by kernel_rfl) (fun _ _ _ h => h) (Or.inl ⟨by rfl, ?hy37⟩) (by assumption) ?_
    case hy37 => (intro w hSw; (try dsimp only at hSw); go_simp; (try (with_reducible rfl)))
    (try simp only [Act.put, List.setIfInBounds_toArray, List.set_cons_zero, List.set_cons_succ])
    refine wpAnyH_take (i := 16) (oi := ⟨_, _, _, _, _, _⟩) (v := ?v38) rfl (by kernel_rfl) (by kernel_rfl) (by kernel_rfl) (fun _ _ _ h => h) (Or.inl ⟨by rfl, ?hy38⟩) (by assumption) ?_
    case hy38 => (intro w hSw; (try dsimp only at hSw); go_simp; (try (with_reducible rfl)))
    (try simp only [Act.put, List.setIfInBounds_toArray, List.set_cons_zero, List.set_cons_succ])
    refine wpAnyH_take (i := 17) (oi := ⟨_, _, _, _, _, _⟩) (v := ?v39) rfl (by kernel_rfl) (by kernel_rfl) (by kernel_rfl) (fun _ _ _ h => h) (Or.inl ⟨by rfl, ?hy39⟩) (by assumption) ?_
    case hy39 => (intro w hSw; (try dsimp only at hSw); go_simp; (try (with_reducible rfl)))
    (try simp only [Act.put, List.setIfInBounds_toArray, List.set_cons_zero, List.set_cons_succ])
    refine wpAnyH_take (i := 18) (oi := ⟨_, _, _, _, _, _⟩) (v := ?v40) rfl (by kernel_rfl) (by kernel_rfl) (by kernel_rfl) (fun _ _ _ h => h) (Or.inl ⟨by rfl, ?hy40⟩) (by assumption) ?_
    case hy40 => (intro w hSw; (try dsimp only at hSw); go_simp; (try (with_reducible rfl)))
    (try simp only [Act.put, List.setIfInBounds_toArray, List.set_cons_zero, List.set_cons_succ])
    refine wpAnyH_ready (rs := [19]) (by kernel_rfl) (by simp) ?_
    refine AllReadyH.cons (o := ⟨_, _, _, _, _, _⟩) rfl (fun K hK => ?_) AllReadyH.nil
    go_simp
    (go_at_call 43; (with_reducible refine (HQ.out _).mono ?_); rintro e w' ⟨rfl, hu⟩; have HU := Lib.hid hu; clear hu)
    (try go_wp2_with fail)
    refine hK.out _ _ ?hB41 (fun hHeld => ?_)
    case hB41 => (first | (with_reducible exact rkeep6 (by assumption) (by assumption)) | (exact ⟨HUP.out.drew, ⟨_, _, r0, r1⟩, a0, a1, b0, b1, g0, g1⟩) | (repeat (first | (with_reducible assumption) | (with_reducible exact Hid.out (by assumption)) | (with_reducible refine rset6_0 ?_ (by omega) (by omega) (by omega) (by omega) (by omega) (by omega) (by omega)) | (with_reducible refine rset6_1 ?_ (by omega) (by omega) (by omega) (by omega) (by omega) (by omega) (by omega)))))
    clear hK K
    (try simp only [Act.put, List.setIfInBounds_toArray, List.set_cons_zero, List.set_cons_succ])
    refine wpAnyH_ready (rs := [20]) (by kernel_rfl) (by simp) ?_
    refine AllReadyH.cons (o := ⟨_, _, _, _, _, _⟩) rfl (fun K hK => ?_) AllReadyH.nil
    go_simp
    (go_at_call 33; (with_reducible refine (HR.out _ HE.out _).mono ?_); rintro e wq ⟨rfl, hu⟩; have HU := Lib.hid hu; have HSq := Lib.hid (rkeep6 HU (by assumption)); obtain ⟨r0', r1', k0, k1⟩ := HSq.out.2.1; have z0 := own2 HSq.out.1 0; have z1 := own2 HSq.out.1 1; clear hu; unfold gotR)
    (try go_wp2_with fail)
    refine hK.out _ _ ?hB42 (fun hHeld => ?_)
    case hB42 => (first | (with_reducible exact rkeep6 (by assumption) (by assumption)) | (exact ⟨HUP.out.drew, ⟨_, _, r0, r1⟩, a0, a1, b0, b1, g0, g1⟩) | (repeat (first | (with_reducible assumption) | (with_reducible exact Hid.out (by assumption)) | (with_reducible refine rset6_0 ?_ (by omega) (by omega) (by omega) (by omega) (by omega) (by omega) (by omega)) | (with_reducible refine rset6_1 ?_ (by omega) (by omega) (by omega) (by omega) (by omega) (by omega) (by omega)))))
    clear hK K
    (try simp only [Act.put, List.setIfInBounds_toArray, List.set_cons_zero, List.set_cons_succ])
    refine wpAnyH_take (i := 21) (oi := ⟨_, _, _, _, _, _⟩) (v := ?v43) rfl (by kernel_rfl) (by kernel_rfl) (by kernel_rfl) (fun _ _ _ h => h) (Or.inl ⟨by rfl, ?hy43⟩) (by assumption) ?_
    case hy43 => (intro w hSw; (try dsimp only at hSw); go_simp; (try (with_reducible rfl)))
    (try simp only [Act.put, List.setIfInBounds_toArray, List.set_cons_zero, List.set_cons_succ])
    refine wpAnyH_take (i := 22) (oi := ⟨_, _, _, _, _, _⟩) (v := ?v44) rfl (by kernel_rfl) (by kernel_rfl) (by kernel_rfl) (fun _ _ _ h => h) (Or.inl ⟨by rfl, ?hy44⟩) (by assumption) ?_
    case hy44 => (intro w hSw; (try dsimp only at hSw); go_simp; (try (with_reducible rfl)))
    (try simp only [Act.put, List.setIfInBounds_toArray, List.set_cons_zero, List.set_cons_succ])
    refine wpAnyH_ready (rs := [23]) (by kernel_rfl) (by simp) ?_
    refine AllReadyH.cons (o := ⟨_, _, _, _, _, _⟩) rfl (fun K hK => ?_) AllReadyH.nil
    go_simp
    refine hK.out _ _ ?hB45 (fun hHeld => ?_)
    case hB45 => (first | (with_reducible exact rkeep6 (by assumption) (by assumption)) | (exact ⟨HUP.out.drew, ⟨_, _, r0, r1⟩, a0, a1, b0, b1, g0, g1⟩) | (repeat (first | (with_reducible assumption) | (with_reducible exact Hid.out (by assumption)) | (with_reducible refine rset6_0 ?_ (by omega) (by omega) (by omega) (by omega) (by omega) (by omega) (by omega)) | (with_reducible refine rset6_1 ?_ (by omega) (by omega) (by omega) (by omega) (by omega) (by omega) (by omega)))))
    clear hK K
    (try simp only [Act.put, List.setIfInBounds_toArray, List.set_cons_zero, List.set_cons_succ])
    refine wpAnyH_take (i := 24) (oi := ⟨_, _, _, _, _, _⟩) (v := ?v46) rfl (by kernel_rfl) (by kernel_rfl) (by kernel_rfl) (fun _ _ _ h => h) (Or.inl ⟨by rfl, ?hy46⟩) (by assumption) ?_
    case hy46 => (intro w hSw; (try dsimp only at hSw); go_simp; (try (with_reducible rfl)))
    (try simp only [Act.put, List.setIfInBounds_toArray, List.set_cons_zero, List.set_cons_succ])
    refine wpAnyH_done (by kernel_rfl) ?_ _
    all_goals
      go_wp2_with fail
      refine bodyPost_ret (v := .tuple #[.agg #[.int .i64 N, .int .i64 D], .bool B]) (by simp [results, Try.results24, go_sem, k0, k1]) rfl ⟨?_, ?_⟩
      · rfl
      · exact And.left (by assumption)
  · have HE := Lib.hid e
    clear e
    go_wp2_with fail
    go_region_held3 (fun w' => Up w w' ∧ Res2 w' (w.heap.size + 1 + 1) ∧ w'.cell? ⟨w.heap.size, 0, none⟩ = some (.int .i64 n) ∧ w'.cell? ⟨w.heap.size, 1, none⟩ = some (.int .i64 d) ∧ w'.cell? ⟨w.heap.size + 1, 0, none⟩ = some (.int .i64 m) ∧ w'.cell? ⟨w.heap.size + 1, 1, none⟩ = some (.int .i64 c) ∧ w'.cell? ⟨g, 0, none⟩ = some (.int .u64 (hiZ x)) ∧ w'.cell? ⟨g, 1, none⟩ = some (.int .u64 (loZ x)))
      (first | (with_reducible exact rkeep6 (by assumption) (by assumption)) | (exact ⟨HUP.out.drew, ⟨_, _, r0, r1⟩, a0, a1, b0, b1, g0, g1⟩) | (repeat (first | (with_reducible assumption) | (with_reducible exact Hid.out (by assumption)) | (with_reducible refine rset6_0 ?_ (by omega) (by omega) (by omega) (by omega) (by omega) (by omega) (by omega)) | (with_reducible refine rset6_1 ?_ (by omega) (by omega) (by omega) (by omega) (by omega) (by omega) (by omega)))))
      (first
        | (go_at_call 43; (with_reducible refine (HQ.out _).mono ?_); rintro e w' ⟨rfl, hu⟩; have HU := Lib.hid hu; clear hu)
        | (go_at_call 33; (with_reducible refine (HR.out _ HE.out _).mono ?_); rintro e wq ⟨rfl, hu⟩; have HU := Lib.hid hu; have HSq := Lib.hid (rkeep6 HU (by assumption)); obtain ⟨r0', r1', k0, k1⟩ := HSq.out.2.1; have z0 := own2 HSq.out.1 0; have z1 := own2 HSq.out.1 1; clear hu; unfold gotR))
    all_goals
      go_wp2_with fail
      refine bodyPost_ret (v := .tuple #[.agg #[.int .i64 N, .int .i64 D], .bool B]) (by simp [results, Try.results24, go_sem, k0, k1]) rfl ⟨?_, ?_⟩
      · rfl
      · exact And.left (by assumption)
  · have HE := Lib.hid e
    clear e
    go_wp2_with fail
    go_region_held3 (fun w' => Up w w' ∧ Res2 w' (w.heap.size + 1 + 1) ∧ w'.cell? ⟨w.heap.size, 0, none⟩ = some (.int .i64 n) ∧ w'.cell? ⟨w.heap.size, 1, none⟩ = some (.int .i64 d) ∧ w'.cell? ⟨w.heap.size + 1, 0, none⟩ = some (.int .i64 m) ∧ w'.cell? ⟨w.heap.size + 1, 1, none⟩ = some (.int .i64 c) ∧ w'.cell? ⟨g, 0, none⟩ = some (.int .u64 (hiZ x)) ∧ w'.cell? ⟨g, 1, none⟩ = some (.int .u64 (loZ x)))
      (first | (with_reducible exact rkeep6 (by assumption) (by assumption)) | (exact ⟨HUP.out.drew, ⟨_, _, r0, r1⟩, a0, a1, b0, b1, g0, g1⟩) | (repeat (first | (with_reducible assumption) | (with_reducible exact Hid.out (by assumption)) | (with_reducible refine rset6_0 ?_ (by omega) (by omega) (by omega) (by omega) (by omega) (by omega) (by omega)) | (with_reducible refine rset6_1 ?_ (by omega) (by omega) (by omega) (by omega) (by omega) (by omega) (by omega)))))
      (first
        | (go_at_call 43; (with_reducible refine (HQ.out _).mono ?_); rintro e w' ⟨rfl, hu⟩; have HU := Lib.hid hu; clear hu)
        | (go_at_call 33; (with_reducible refine (HR.out _ HE.out _).mono ?_); rintro e wq ⟨rfl, hu⟩; have HU := Lib.hid hu; have HSq := Lib.hid (rkeep6 HU (by assumption)); obtain ⟨r0', r1', k0, k1⟩ := HSq.out.2.1; have z0 := own2 HSq.out.1 0; have z1 := own2 HSq.out.1 1; clear hu; unfold gotR))
    all_goals
      go_wp2_with fail
      refine bodyPost_ret (v := .tuple #[.agg #[.int .i64 N, .int .i64 D], .bool B]) (by simp [results, Try.results24, go_sem, k0, k1]) rfl ⟨?_, ?_⟩
      · rfl
      · exact And.left (by assumption)
  · have HE := Lib.hid e
    clear e
    go_wp2_with fail
    go_region_held3 (fun w' => Up w w' ∧ Res2 w' (w.heap.size + 1 + 1) ∧ w'.cell? ⟨w.heap.size, 0, none⟩ = some (.int .i64 n) ∧ w'.cell? ⟨w.heap.size, 1, none⟩ = some (.int .i64 d) ∧ w'.cell? ⟨w.heap.size + 1, 0, none⟩ = some (.int .i64 m) ∧ w'.cell? ⟨w.heap.size + 1, 1, none⟩ = some (.int .i64 c) ∧ w'.cell? ⟨g, 0, none⟩ = some (.int .u64 (hiZ x)) ∧ w'.cell? ⟨g, 1, none⟩ = some (.int .u64 (loZ x)))
      (first | (with_reducible exact rkeep6 (by assumption) (by assumption)) | (exact ⟨HUP.out.drew, ⟨_, _, r0, r1⟩, a0, a1, b0, b1, g0, g1⟩) | (repeat (first | (with_reducible assumption) | (with_reducible exact Hid.out (by assumption)) | (with_reducible refine rset6_0 ?_ (by omega) (by omega) (by omega) (by omega) (by omega) (by omega) (by omega)) | (with_reducible refine rset6_1 ?_ (by omega) (by omega) (by omega) (by omega) (by omega) (by omega) (by omega)))))
      (first
        | (go_at_call 43; (with_reducible refine (HQ.out _).mono ?_); rintro e w' ⟨rfl, hu⟩; have HU := Lib.hid hu; clear hu)
        | (go_at_call 33; (with_reducible refine (HR.out _ HE.out _).mono ?_); rintro e wq ⟨rfl, hu⟩; have HU := Lib.hid hu; have HSq := Lib.hid (rkeep6 HU (by assumption)); obtain ⟨r0', r1', k0, k1⟩ := HSq.out.2.1; have z0 := own2 HSq.out.1 0; have z1 := own2 HSq.out.1 1; clear hu; unfold gotR))
    all_goals
      go_wp2_with fail
      refine bodyPost_ret (v := .tuple #[.agg #[.int .i64 N, .int .i64 D], .bool B]) (by simp [results, Try.results24, go_sem, k0, k1]) rfl ⟨?_, ?_⟩
      · rfl
      · exact And.left (by assumption)
  · have HE := Lib.hid e
    clear e
    go_wp2_with fail
    go_region_held3 (fun w' => Up w w' ∧ Res2 w' (w.heap.size + 1 + 1) ∧ w'.cell? ⟨w.heap.size, 0, none⟩ = some (.int .i64 n) ∧ w'.cell? ⟨w.heap.size, 1, none⟩ = some (.int .i64 d) ∧ w'.cell? ⟨w.heap.size + 1, 0, none⟩ = some (.int .i64 m) ∧ w'.cell? ⟨w.heap.size + 1, 1, none⟩ = some (.int .i64 c) ∧ w'.cell? ⟨g, 0, none⟩ = some (.int .u64 (hiZ x)) ∧ w'.cell? ⟨g, 1, none⟩ = some (.int .u64 (loZ x)))
      (first | (with_reducible exact rkeep6 (by assumption) (by assumption)) | (exact ⟨HUP.out.drew, ⟨_, _, r0, r1⟩, a0, a1, b0, b1, g0, g1⟩) | (repeat (first | (with_reducible assumption) | (with_reducible exact Hid.out (by assumption)) | (with_reducible refine rset6_0 ?_ (by omega) (by omega) (by omega) (by omega) (by omega) (by omega) (by omega)) | (with_reducible refine rset6_1 ?_ (by omega) (by omega) (by omega) (by omega) (by omega) (by omega) (by omega)))))
      (first
        | (go_at_call 43; (with_reducible refine (HQ.out _).mono ?_); rintro e w' ⟨rfl, hu⟩; have HU := Lib.hid hu; clear hu)
        | (go_at_call 33; (with_reducible refine (HR.out _ HE.out _).mono ?_); rintro e wq ⟨rfl, hu⟩; have HU := Lib.hid hu; have HSq := Lib.hid (rkeep6 HU (by assumption)); obtain ⟨r0', r1', k0, k1⟩ := HSq.out.2.1; have z0 := own2 HSq.out.1 0; have z1 := own2 HSq.out.1 1; clear hu; unfold gotR))
    all_goals
      go_wp2_with fail
      refine bodyPost_ret (v := .tuple #[.agg #[.int .i64 N, .int .i64 D], .bool B]) (by simp [results, Try.results24, go_sem, k0, k1]) rfl ⟨?_, ?_⟩
      · rfl
      · exact And.left (by assumption)
  · have HE := Lib.hid e
    clear e
    go_wp2_with fail
    go_region_held3 (fun w' => Up w w' ∧ Res2 w' (w.heap.size + 1 + 1) ∧ w'.cell? ⟨w.heap.size, 0, none⟩ = some (.int .i64 n) ∧ w'.cell? ⟨w.heap.size, 1, none⟩ = some (.int .i64 d) ∧ w'.cell? ⟨w.heap.size + 1, 0, none⟩ = some (.int .i64 m) ∧ w'.cell? ⟨w.heap.size + 1, 1, none⟩ = some (.int .i64 c) ∧ w'.cell? ⟨g, 0, none⟩ = some (.int .u64 (hiZ x)) ∧ w'.cell? ⟨g, 1, none⟩ = some (.int .u64 (loZ x)))
      (first | (with_reducible exact rkeep6 (by assumption) (by assumption)) | (exact ⟨HUP.out.drew, ⟨_, _, r0, r1⟩, a0, a1, b0, b1, g0, g1⟩) | (repeat (first | (with_reducible assumption) | (with_reducible exact Hid.out (by assumption)) | (with_reducible refine rset6_0 ?_ (by omega) (by omega) (by omega) (by omega) (by omega) (by omega) (by omega)) | (with_reducible refine rset6_1 ?_ (by omega) (by omega) (by omega) (by omega) (by omega) (by omega) (by omega)))))
      (first
        | (go_at_call 43; (with_reducible refine (HQ.out _).mono ?_); rintro e w' ⟨rfl, hu⟩; have HU := Lib.hid hu; clear hu)
        | (go_at_call 33; (with_reducible refine (HR.out _ HE.out _).mono ?_); rintro e wq ⟨rfl, hu⟩; have HU := Lib.hid hu; have HSq := Lib.hid (rkeep6 HU (by assumption)); obtain ⟨r0', r1', k0, k1⟩ := HSq.out.2.1; have z0 := own2 HSq.out.1 0; have z1 := own2 HSq.out.1 1; clear hu; unfold gotR))
    all_goals
      go_wp2_with fail
      refine bodyPost_ret (v := .tuple #[.agg #[.int .i64 N, .int .i64 D], .bool B]) (by simp [results, Try.results24, go_sem, k0, k1]) rfl ⟨?_, ?_⟩
      · rfl
      · exact And.left (by assumption)
  · have HE := Lib.hid e
    clear e
    go_wp2_with fail
    go_region_held3 (fun w' => Up w w' ∧ Res2 w' (w.heap.size + 1 + 1) ∧ w'.cell? ⟨w.heap.size, 0, none⟩ = some (.int .i64 n) ∧ w'.cell? ⟨w.heap.size, 1, none⟩ = some (.int .i64 d) ∧ w'.cell? ⟨w.heap.size + 1, 0, none⟩ = some (.int .i64 m) ∧ w'.cell? ⟨w.heap.size + 1, 1, none⟩ = some (.int .i64 c) ∧ w'.cell? ⟨g, 0, none⟩ = some (.int .u64 (hiZ x)) ∧ w'.cell? ⟨g, 1, none⟩ = some (.int .u64 (loZ x)))
      (first | (with_reducible exact rkeep6 (by assumption) (by assumption)) | (exact ⟨HUP.out.drew, ⟨_, _, r0, r1⟩, a0, a1, b0, b1, g0, g1⟩) | (repeat (first | (with_reducible assumption) | (with_reducible exact Hid.out (by assumption)) | (with_reducible refine rset6_0 ?_ (by omega) (by omega) (by omega) (by omega) (by omega) (by omega) (by omega)) | (with_reducible refine rset6_1 ?_ (by omega) (by omega) (by omega) (by omega) (by omega) (by omega) (by omega)))))
      (first
        | (go_at_call 43; (with_reducible refine (HQ.out _).mono ?_); rintro e w' ⟨rfl, hu⟩; have HU := Lib.hid hu; clear hu)
        | (go_at_call 33; (with_reducible refine (HR.out _ HE.out _).mono ?_); rintro e wq ⟨rfl, hu⟩; have HU := Lib.hid hu; have HSq := Lib.hid (rkeep6 HU (by assumption)); obtain ⟨r0', r1', k0, k1⟩ := HSq.out.2.1; have z0 := own2 HSq.out.1 0; have z1 := own2 HSq.out.1 1; clear hu; unfold gotR))
    all_goals
      go_wp2_with fail
      refine bodyPost_ret (v := .tuple #[.agg #[.int .i64 N, .int .i64 D], .bool B]) (by simp [results, Try.results24, go_sem, k0, k1]) rfl ⟨?_, ?_⟩
      · rfl
      · exact And.left (by assumption)

set_option maxHeartbeats 8000000 in
set_option maxRecDepth 100000 in
theorem rdivr_up (n d m c : Int) (hn : In n) (hd : In d) (hm : In m) (hc : In c) (w : World) :
    Calls Try.prog 26 #[.agg #[.int .i64 n, .int .i64 d], .agg #[.int .i64 m, .int .i64 c]] w fun e w' =>
      e = gotR (vN (validB n d && validB m c) (n * c) (d * m)) (vD (validB n d && validB m c) (n * c) (d * m)) (vB (validB n d && validB m c) (n * c) (d * m)) ∧ Up w w' := by
  have HV := Lib.hid (fun W => rvalid_up n d hn hd W)
  have HW := Lib.hid (fun W => rvalid_up m c hm hc W)
  by_cases hv : validB n d = true
  case neg =>
    have hv' : validB n d = false := by simpa using hv
    rw [hv', Bool.false_and, v_no]
    rw [hv'] at HV
    clear hv hv' hn hd hm hc
    go_enter Try.func26, Try.ntmps26
    go_wp2_with fail
    refine (HV.out _).mono ?_
    rintro e w1 ⟨rfl, hu1⟩
    try unfold got2
    have c1_0 := hu1.keep (w.heap.size) (0) (.int .i64 n) (by simp [go_sem, *])
    have c1_1 := hu1.keep (w.heap.size) (1) (.int .i64 d) (by simp [go_sem, *])
    have c1_2 := hu1.keep (w.heap.size + 1) (0) (.int .i64 m) (by simp [go_sem, *])
    have c1_3 := hu1.keep (w.heap.size + 1) (1) (.int .i64 c) (by simp [go_sem, *])
    have c1_4 := hu1.keep (w.heap.size + 1 + 1) (0) (.int .i64 0) (by simp [go_sem, *])
    have c1_5 := hu1.keep (w.heap.size + 1 + 1) (1) (.int .i64 0) (by simp [go_sem, *])
    have l1_0 : w.heap.size < w1.heap.size := World.block_lt_of_cell? _ _ c1_0
    have m1_0 : w.heap.size < w1.heap.size + 1 := by omega
    have n1_0 : w.heap.size < w1.heap.size + 1 + 1 := by omega
    have x1_0 : ¬ w1.heap.size = w.heap.size := by omega
    have y1_0 : ¬ w1.heap.size + 1 = w.heap.size := by omega
    have l1_1 : w.heap.size + 1 < w1.heap.size := World.block_lt_of_cell? _ _ c1_2
    have m1_1 : w.heap.size + 1 < w1.heap.size + 1 := by omega
    have n1_1 : w.heap.size + 1 < w1.heap.size + 1 + 1 := by omega
    have x1_1 : ¬ w1.heap.size = w.heap.size + 1 := by omega
    have y1_1 : ¬ w1.heap.size + 1 = w.heap.size + 1 := by omega
    have l1_2 : w.heap.size + 1 + 1 < w1.heap.size := World.block_lt_of_cell? _ _ c1_4
    have m1_2 : w.heap.size + 1 + 1 < w1.heap.size + 1 := by omega
    have n1_2 : w.heap.size + 1 + 1 < w1.heap.size + 1 + 1 := by omega
    have x1_2 : ¬ w1.heap.size = w.heap.size + 1 + 1 := by omega
    have y1_2 : ¬ w1.heap.size + 1 = w.heap.size + 1 + 1 := by omega
    have HU1 : Hid (Up w w1) := Lib.hid (by ((repeat (first | (with_reducible exact Up.refl _) | (with_reducible refine Up.trans ?_ hu1) | (with_reducible refine Up.alloc ?_ _ _) | (with_reducible refine Up.setCell ?_ ?_ _) | (with_reducible refine Up.drewN ?_ _) | (with_reducible refine Up.drew ?_))); all_goals (first | (simp; done) | (simp; omega) | omega)))
    clear hu1
    have z0 := own2 HU1.out 0
    have z1 := own2 HU1.out 1
    go_wp2_with fail
    refine bodyPost_ret (v := .tuple #[.agg #[.int .i64 0, .int .i64 0], .bool false]) (by simp [results, Try.results26, go_sem, c1_4, c1_5]) rfl ⟨?_, ?_⟩
    · rfl
    · ((repeat (first | (with_reducible exact Up.refl _) | (with_reducible exact HU1.out) | (with_reducible refine Up.alloc ?_ _ _) | (with_reducible refine Up.setCell ?_ ?_ _) | (with_reducible refine Up.drewN ?_ _) | (with_reducible refine Up.drew ?_))); all_goals (first | (simp; done) | (simp; omega) | omega))
  rw [hv] at HV
  by_cases hu : validB m c = true
  case neg =>
    have hu' : validB m c = false := by simpa using hu
    rw [hv, hu', Bool.true_and, v_no]
    rw [hu'] at HW
    clear hv hu hu' hn hd hm hc
    go_enter Try.func26, Try.ntmps26
    go_wp2_with fail
    refine (HV.out _).mono ?_
    rintro e w1 ⟨rfl, hu1⟩
    try unfold got2
    have c1_0 := hu1.keep (w.heap.size) (0) (.int .i64 n) (by simp [go_sem, *])
    have c1_1 := hu1.keep (w.heap.size) (1) (.int .i64 d) (by simp [go_sem, *])
    have c1_2 := hu1.keep (w.heap.size + 1) (0) (.int .i64 m) (by simp [go_sem, *])
    have c1_3 := hu1.keep (w.heap.size + 1) (1) (.int .i64 c) (by simp [go_sem, *])
    have c1_4 := hu1.keep (w.heap.size + 1 + 1) (0) (.int .i64 0) (by simp [go_sem, *])
    have c1_5 := hu1.keep (w.heap.size + 1 + 1) (1) (.int .i64 0) (by simp [go_sem, *])
    have l1_0 : w.heap.size < w1.heap.size := World.block_lt_of_cell? _ _ c1_0
    have m1_0 : w.heap.size < w1.heap.size + 1 := by omega
    have n1_0 : w.heap.size < w1.heap.size + 1 + 1 := by omega
    have x1_0 : ¬ w1.heap.size = w.heap.size := by omega
    have y1_0 : ¬ w1.heap.size + 1 = w.heap.size := by omega
    have l1_1 : w.heap.size + 1 < w1.heap.size := World.block_lt_of_cell? _ _ c1_2
    have m1_1 : w.heap.size + 1 < w1.heap.size + 1 := by omega
    have n1_1 : w.heap.size + 1 < w1.heap.size + 1 + 1 := by omega
    have x1_1 : ¬ w1.heap.size = w.heap.size + 1 := by omega
    have y1_1 : ¬ w1.heap.size + 1 = w.heap.size + 1 := by omega
    have l1_2 : w.heap.size + 1 + 1 < w1.heap.size := World.block_lt_of_cell? _ _ c1_4
    have m1_2 : w.heap.size + 1 + 1 < w1.heap.size + 1 := by omega
    have n1_2 : w.heap.size + 1 + 1 < w1.heap.size + 1 + 1 := by omega
    have x1_2 : ¬ w1.heap.size = w.heap.size + 1 + 1 := by omega
    have y1_2 : ¬ w1.heap.size + 1 = w.heap.size + 1 + 1 := by omega
    have HU1 : Hid (Up w w1) := Lib.hid (by ((repeat (first | (with_reducible exact Up.refl _) | (with_reducible refine Up.trans ?_ hu1) | (with_reducible refine Up.alloc ?_ _ _) | (with_reducible refine Up.setCell ?_ ?_ _) | (with_reducible refine Up.drewN ?_ _) | (with_reducible refine Up.drew ?_))); all_goals (first | (simp; done) | (simp; omega) | omega)))
    clear hu1
    go_wp2_with fail
    refine (HW.out _).mono ?_
    rintro e w2 ⟨rfl, hu2⟩
    try unfold got2
    have c2_0 := hu2.keep (w.heap.size) (0) (.int .i64 n) (by simp [go_sem, *])
    have c2_1 := hu2.keep (w.heap.size) (1) (.int .i64 d) (by simp [go_sem, *])
    have c2_2 := hu2.keep (w.heap.size + 1) (0) (.int .i64 m) (by simp [go_sem, *])
    have c2_3 := hu2.keep (w.heap.size + 1) (1) (.int .i64 c) (by simp [go_sem, *])
    have c2_4 := hu2.keep (w.heap.size + 1 + 1) (0) (.int .i64 0) (by simp [go_sem, *])
    have c2_5 := hu2.keep (w.heap.size + 1 + 1) (1) (.int .i64 0) (by simp [go_sem, *])
    have l2_0 : w.heap.size < w2.heap.size := World.block_lt_of_cell? _ _ c2_0
    have m2_0 : w.heap.size < w2.heap.size + 1 := by omega
    have n2_0 : w.heap.size < w2.heap.size + 1 + 1 := by omega
    have x2_0 : ¬ w2.heap.size = w.heap.size := by omega
    have y2_0 : ¬ w2.heap.size + 1 = w.heap.size := by omega
    have l2_1 : w.heap.size + 1 < w2.heap.size := World.block_lt_of_cell? _ _ c2_2
    have m2_1 : w.heap.size + 1 < w2.heap.size + 1 := by omega
    have n2_1 : w.heap.size + 1 < w2.heap.size + 1 + 1 := by omega
    have x2_1 : ¬ w2.heap.size = w.heap.size + 1 := by omega
    have y2_1 : ¬ w2.heap.size + 1 = w.heap.size + 1 := by omega
    have l2_2 : w.heap.size + 1 + 1 < w2.heap.size := World.block_lt_of_cell? _ _ c2_4
    have m2_2 : w.heap.size + 1 + 1 < w2.heap.size + 1 := by omega
    have n2_2 : w.heap.size + 1 + 1 < w2.heap.size + 1 + 1 := by omega
    have x2_2 : ¬ w2.heap.size = w.heap.size + 1 + 1 := by omega
    have y2_2 : ¬ w2.heap.size + 1 = w.heap.size + 1 + 1 := by omega
    have HU2 : Hid (Up w w2) := Lib.hid (by ((repeat (first | (with_reducible exact Up.refl _) | (with_reducible exact HU1.out) | (with_reducible refine Up.trans ?_ hu2) | (with_reducible refine Up.alloc ?_ _ _) | (with_reducible refine Up.setCell ?_ ?_ _) | (with_reducible refine Up.drewN ?_ _) | (with_reducible refine Up.drew ?_))); all_goals (first | (simp; done) | (simp; omega) | omega)))
    clear hu2 c1_0 c1_1 c1_2 c1_3 c1_4 c1_5
    have z0 := own2 HU2.out 0
    have z1 := own2 HU2.out 1
    go_wp2_with fail
    refine bodyPost_ret (v := .tuple #[.agg #[.int .i64 0, .int .i64 0], .bool false]) (by simp [results, Try.results26, go_sem, c2_4, c2_5]) rfl ⟨?_, ?_⟩
    · rfl
    · ((repeat (first | (with_reducible exact Up.refl _) | (with_reducible exact HU2.out) | (with_reducible refine Up.alloc ?_ _ _) | (with_reducible refine Up.setCell ?_ ?_ _) | (with_reducible refine Up.drewN ?_ _) | (with_reducible refine Up.drew ?_))); all_goals (first | (simp; done) | (simp; omega) | omega))
  rw [hu] at HW
  rw [hv, hu, Bool.true_and, v_yes]
  have d1 := (validB_of hv).1
  have c1 := (validB_of hu).1
  clear hv hu
  by_cases m0 : m = 0
  · subst m0
    rw [Int.mul_zero, (quo_zero _).1, (quo_zero _).2.1, (quo_zero _).2.2]
    clear hn hd hm hc d1 c1
    go_enter Try.func26, Try.ntmps26
    go_wp2_with fail
    refine (HV.out _).mono ?_
    rintro e w1 ⟨rfl, hu1⟩
    try unfold got2
    have c1_0 := hu1.keep (w.heap.size) (0) (.int .i64 n) (by simp [go_sem, *])
    have c1_1 := hu1.keep (w.heap.size) (1) (.int .i64 d) (by simp [go_sem, *])
    have c1_2 := hu1.keep (w.heap.size + 1) (0) (.int .i64 0) (by simp [go_sem, *])
    have c1_3 := hu1.keep (w.heap.size + 1) (1) (.int .i64 c) (by simp [go_sem, *])
    have c1_4 := hu1.keep (w.heap.size + 1 + 1) (0) (.int .i64 0) (by simp [go_sem, *])
    have c1_5 := hu1.keep (w.heap.size + 1 + 1) (1) (.int .i64 0) (by simp [go_sem, *])
    have l1_0 : w.heap.size < w1.heap.size := World.block_lt_of_cell? _ _ c1_0
    have m1_0 : w.heap.size < w1.heap.size + 1 := by omega
    have n1_0 : w.heap.size < w1.heap.size + 1 + 1 := by omega
    have x1_0 : ¬ w1.heap.size = w.heap.size := by omega
    have y1_0 : ¬ w1.heap.size + 1 = w.heap.size := by omega
    have l1_1 : w.heap.size + 1 < w1.heap.size := World.block_lt_of_cell? _ _ c1_2
    have m1_1 : w.heap.size + 1 < w1.heap.size + 1 := by omega
    have n1_1 : w.heap.size + 1 < w1.heap.size + 1 + 1 := by omega
    have x1_1 : ¬ w1.heap.size = w.heap.size + 1 := by omega
    have y1_1 : ¬ w1.heap.size + 1 = w.heap.size + 1 := by omega
    have l1_2 : w.heap.size + 1 + 1 < w1.heap.size := World.block_lt_of_cell? _ _ c1_4
    have m1_2 : w.heap.size + 1 + 1 < w1.heap.size + 1 := by omega
    have n1_2 : w.heap.size + 1 + 1 < w1.heap.size + 1 + 1 := by omega
    have x1_2 : ¬ w1.heap.size = w.heap.size + 1 + 1 := by omega
    have y1_2 : ¬ w1.heap.size + 1 = w.heap.size + 1 + 1 := by omega
    have HU1 : Hid (Up w w1) := Lib.hid (by ((repeat (first | (with_reducible exact Up.refl _) | (with_reducible refine Up.trans ?_ hu1) | (with_reducible refine Up.alloc ?_ _ _) | (with_reducible refine Up.setCell ?_ ?_ _) | (with_reducible refine Up.drewN ?_ _) | (with_reducible refine Up.drew ?_))); all_goals (first | (simp; done) | (simp; omega) | omega)))
    clear hu1
    go_wp2_with fail
    refine (HW.out _).mono ?_
    rintro e w2 ⟨rfl, hu2⟩
    try unfold got2
    have c2_0 := hu2.keep (w.heap.size) (0) (.int .i64 n) (by simp [go_sem, *])
    have c2_1 := hu2.keep (w.heap.size) (1) (.int .i64 d) (by simp [go_sem, *])
    have c2_2 := hu2.keep (w.heap.size + 1) (0) (.int .i64 0) (by simp [go_sem, *])
    have c2_3 := hu2.keep (w.heap.size + 1) (1) (.int .i64 c) (by simp [go_sem, *])
    have c2_4 := hu2.keep (w.heap.size + 1 + 1) (0) (.int .i64 0) (by simp [go_sem, *])
    have c2_5 := hu2.keep (w.heap.size + 1 + 1) (1) (.int .i64 0) (by simp [go_sem, *])
    have l2_0 : w.heap.size < w2.heap.size := World.block_lt_of_cell? _ _ c2_0
    have m2_0 : w.heap.size < w2.heap.size + 1 := by omega
    have n2_0 : w.heap.size < w2.heap.size + 1 + 1 := by omega
    have x2_0 : ¬ w2.heap.size = w.heap.size := by omega
    have y2_0 : ¬ w2.heap.size + 1 = w.heap.size := by omega
    have l2_1 : w.heap.size + 1 < w2.heap.size := World.block_lt_of_cell? _ _ c2_2
    have m2_1 : w.heap.size + 1 < w2.heap.size + 1 := by omega
    have n2_1 : w.heap.size + 1 < w2.heap.size + 1 + 1 := by omega
    have x2_1 : ¬ w2.heap.size = w.heap.size + 1 := by omega
    have y2_1 : ¬ w2.heap.size + 1 = w.heap.size + 1 := by omega
    have l2_2 : w.heap.size + 1 + 1 < w2.heap.size := World.block_lt_of_cell? _ _ c2_4
    have m2_2 : w.heap.size + 1 + 1 < w2.heap.size + 1 := by omega
    have n2_2 : w.heap.size + 1 + 1 < w2.heap.size + 1 + 1 := by omega
    have x2_2 : ¬ w2.heap.size = w.heap.size + 1 + 1 := by omega
    have y2_2 : ¬ w2.heap.size + 1 = w.heap.size + 1 + 1 := by omega
    have HU2 : Hid (Up w w2) := Lib.hid (by ((repeat (first | (with_reducible exact Up.refl _) | (with_reducible exact HU1.out) | (with_reducible refine Up.trans ?_ hu2) | (with_reducible refine Up.alloc ?_ _ _) | (with_reducible refine Up.setCell ?_ ?_ _) | (with_reducible refine Up.drewN ?_ _) | (with_reducible refine Up.drew ?_))); all_goals (first | (simp; done) | (simp; omega) | omega)))
    clear hu2 c1_0 c1_1 c1_2 c1_3 c1_4 c1_5
    have z0 := own2 HU2.out 0
    have z1 := own2 HU2.out 1
    go_wp2_with fail
    refine bodyPost_ret (v := .tuple #[.agg #[.int .i64 0, .int .i64 0], .bool false]) (by simp [results, Try.results26, go_sem, c2_4, c2_5]) rfl ⟨?_, ?_⟩
    · rfl
    · ((repeat (first | (with_reducible exact Up.refl _) | (with_reducible exact HU2.out) | (with_reducible refine Up.alloc ?_ _ _) | (with_reducible refine Up.setCell ?_ ?_ _) | (with_reducible refine Up.drewN ?_ _) | (with_reducible refine Up.drew ?_))); all_goals (first | (simp; done) | (simp; omega) | omega))
  have hwd : IntKind.u64.wrap d = d := by rw [IntKind.wrap_u64]; obtain ⟨_, d2⟩ := hd; omega
  have hwc : IntKind.u64.wrap c = c := by rw [IntKind.wrap_u64]; obtain ⟨_, c2⟩ := hc; omega
  have wd := word_int d1 hd
  have wc := word_int c1 hc
  have HA := Lib.hid (fun W => rabs_any n hn W)
  have HB := Lib.hid (fun W => rabs_any m hm W)
  have HP := Lib.hid (fun W => rproduct_up (n.natAbs : Int) c (abs_word hn) wc W)
  have HQ := Lib.hid (fun W => rproduct_up d (m.natAbs : Int) wd (abs_word hm) W)
  have hdm : d * m ≠ 0 := Int.mul_ne_zero (by omega) m0
  have hdy : d * (m.natAbs : Int) ≠ 0 := Int.mul_ne_zero (by omega) (by omega)
  have HR := Lib.hid (fun s (e : sz s ((n.natAbs : Int) * c) * (d * m) = n * c * (d * (m.natAbs : Int))) W => red_v s ((n.natAbs : Int) * c) (d * (m.natAbs : Int)) (n * c) (d * m) (mul_word (abs_word hn) wc) (mul_word wd (abs_word hm)) hdy hdm e W)
  have HY := Lib.hid (sign_ways n m ((n.natAbs : Int) * c) (fun s => sz s ((n.natAbs : Int) * c) * (d * m) = n * c * (d * (m.natAbs : Int))) (by
    rw [sz_scale, show sz (decide (n < 0) != decide (m < 0)) (n.natAbs : Int) * c * (d * m) = sz (decide (n < 0) != decide (m < 0)) (n.natAbs : Int) * m * (c * d) by ac_rfl, sz_swap]
    ac_rfl) (fun h => by
    have h1 : (n.natAbs : Int) = 0 := by
      rcases Int.mul_eq_zero.1 h with h | h
      · exact h
      · omega
    have h2 : n = 0 := by omega
    rw [h, h2]; simp [sz_false]))
  have tm : (m == 0) = false := beq_eq_false_iff_ne.2 m0
  clear hdm hdy m0
  generalize quoN (n * c) (d * m) = N at *
  generalize quoD (n * c) (d * m) = D at *
  generalize quoB (n * c) (d * m) = B at *
  generalize (n.natAbs : Int) * c = x at *
  generalize d * (m.natAbs : Int) = y at *
  generalize (n.natAbs : Int) = na at *
  generalize (m.natAbs : Int) = ma at *
  clear d1 c1 wd wc hn hd hm hc
  go_enter Try.func26, Try.ntmps26
  go_wp2_with fail
  refine (HV.out _).mono ?_
  rintro e w1 ⟨rfl, hu1⟩
  try unfold got2
  have c1_0 := hu1.keep (w.heap.size) (0) (.int .i64 n) (by simp [go_sem, *])
  have c1_1 := hu1.keep (w.heap.size) (1) (.int .i64 d) (by simp [go_sem, *])
  have c1_2 := hu1.keep (w.heap.size + 1) (0) (.int .i64 m) (by simp [go_sem, *])
  have c1_3 := hu1.keep (w.heap.size + 1) (1) (.int .i64 c) (by simp [go_sem, *])
  have c1_4 := hu1.keep (w.heap.size + 1 + 1) (0) (.int .i64 0) (by simp [go_sem, *])
  have c1_5 := hu1.keep (w.heap.size + 1 + 1) (1) (.int .i64 0) (by simp [go_sem, *])
  have l1_0 : w.heap.size < w1.heap.size := World.block_lt_of_cell? _ _ c1_0
  have m1_0 : w.heap.size < w1.heap.size + 1 := by omega
  have n1_0 : w.heap.size < w1.heap.size + 1 + 1 := by omega
  have x1_0 : ¬ w1.heap.size = w.heap.size := by omega
  have y1_0 : ¬ w1.heap.size + 1 = w.heap.size := by omega
  have l1_1 : w.heap.size + 1 < w1.heap.size := World.block_lt_of_cell? _ _ c1_2
  have m1_1 : w.heap.size + 1 < w1.heap.size + 1 := by omega
  have n1_1 : w.heap.size + 1 < w1.heap.size + 1 + 1 := by omega
  have x1_1 : ¬ w1.heap.size = w.heap.size + 1 := by omega
  have y1_1 : ¬ w1.heap.size + 1 = w.heap.size + 1 := by omega
  have l1_2 : w.heap.size + 1 + 1 < w1.heap.size := World.block_lt_of_cell? _ _ c1_4
  have m1_2 : w.heap.size + 1 + 1 < w1.heap.size + 1 := by omega
  have n1_2 : w.heap.size + 1 + 1 < w1.heap.size + 1 + 1 := by omega
  have x1_2 : ¬ w1.heap.size = w.heap.size + 1 + 1 := by omega
  have y1_2 : ¬ w1.heap.size + 1 = w.heap.size + 1 + 1 := by omega
  have HU1 : Hid (Up w w1) := Lib.hid (by ((repeat (first | (with_reducible exact Up.refl _) | (with_reducible refine Up.trans ?_ hu1) | (with_reducible refine Up.alloc ?_ _ _) | (with_reducible refine Up.setCell ?_ ?_ _) | (with_reducible refine Up.drewN ?_ _) | (with_reducible refine Up.drew ?_))); all_goals (first | (simp; done) | (simp; omega) | omega)))
  clear hu1
  go_wp2_with fail
  refine (HW.out _).mono ?_
  rintro e w2 ⟨rfl, hu2⟩
  try unfold got2
  have c2_0 := hu2.keep (w.heap.size) (0) (.int .i64 n) (by simp [go_sem, *])
  have c2_1 := hu2.keep (w.heap.size) (1) (.int .i64 d) (by simp [go_sem, *])
  have c2_2 := hu2.keep (w.heap.size + 1) (0) (.int .i64 m) (by simp [go_sem, *])
  have c2_3 := hu2.keep (w.heap.size + 1) (1) (.int .i64 c) (by simp [go_sem, *])
  have c2_4 := hu2.keep (w.heap.size + 1 + 1) (0) (.int .i64 0) (by simp [go_sem, *])
  have c2_5 := hu2.keep (w.heap.size + 1 + 1) (1) (.int .i64 0) (by simp [go_sem, *])
  have l2_0 : w.heap.size < w2.heap.size := World.block_lt_of_cell? _ _ c2_0
  have m2_0 : w.heap.size < w2.heap.size + 1 := by omega
  have n2_0 : w.heap.size < w2.heap.size + 1 + 1 := by omega
  have x2_0 : ¬ w2.heap.size = w.heap.size := by omega
  have y2_0 : ¬ w2.heap.size + 1 = w.heap.size := by omega
  have l2_1 : w.heap.size + 1 < w2.heap.size := World.block_lt_of_cell? _ _ c2_2
  have m2_1 : w.heap.size + 1 < w2.heap.size + 1 := by omega
  have n2_1 : w.heap.size + 1 < w2.heap.size + 1 + 1 := by omega
  have x2_1 : ¬ w2.heap.size = w.heap.size + 1 := by omega
  have y2_1 : ¬ w2.heap.size + 1 = w.heap.size + 1 := by omega
  have l2_2 : w.heap.size + 1 + 1 < w2.heap.size := World.block_lt_of_cell? _ _ c2_4
  have m2_2 : w.heap.size + 1 + 1 < w2.heap.size + 1 := by omega
  have n2_2 : w.heap.size + 1 + 1 < w2.heap.size + 1 + 1 := by omega
  have x2_2 : ¬ w2.heap.size = w.heap.size + 1 + 1 := by omega
  have y2_2 : ¬ w2.heap.size + 1 = w.heap.size + 1 + 1 := by omega
  have HU2 : Hid (Up w w2) := Lib.hid (by ((repeat (first | (with_reducible exact Up.refl _) | (with_reducible exact HU1.out) | (with_reducible refine Up.trans ?_ hu2) | (with_reducible refine Up.alloc ?_ _ _) | (with_reducible refine Up.setCell ?_ ?_ _) | (with_reducible refine Up.drewN ?_ _) | (with_reducible refine Up.drew ?_))); all_goals (first | (simp; done) | (simp; omega) | omega)))
  clear hu2 c1_0 c1_1 c1_2 c1_3 c1_4 c1_5
  go_upto_region 3 with fail
  go_cut [6] (fun t6 wx => ∃ g : Nat, w.heap.size + 2 < g ∧ t6 = .pointer (some ⟨g, 0, none⟩) ∧ wx.cell? ⟨g, 0, none⟩ = some (.int .u64 (hiZ x)) ∧ wx.cell? ⟨g, 1, none⟩ = some (.int .u64 (loZ x)) ∧ Up w wx ∧ wx.cell? ⟨w.heap.size, 0, none⟩ = some (.int .i64 n) ∧ wx.cell? ⟨w.heap.size, 1, none⟩ = some (.int .i64 d) ∧ wx.cell? ⟨w.heap.size + 1, 0, none⟩ = some (.int .i64 m) ∧ wx.cell? ⟨w.heap.size + 1, 1, none⟩ = some (.int .i64 c) ∧ wx.cell? ⟨w.heap.size + 1 + 1, 0, none⟩ = some (.int .i64 0) ∧ wx.cell? ⟨w.heap.size + 1 + 1, 1, none⟩ = some (.int .i64 0))
  case first =>
    go_region_held3 (fun w' => Up w w' ∧ w'.cell? ⟨w.heap.size, 0, none⟩ = some (.int .i64 n) ∧ w'.cell? ⟨w.heap.size, 1, none⟩ = some (.int .i64 d) ∧ w'.cell? ⟨w.heap.size + 1, 0, none⟩ = some (.int .i64 m) ∧ w'.cell? ⟨w.heap.size + 1, 1, none⟩ = some (.int .i64 c) ∧ w'.cell? ⟨w.heap.size + 1 + 1, 0, none⟩ = some (.int .i64 0) ∧ w'.cell? ⟨w.heap.size + 1 + 1, 1, none⟩ = some (.int .i64 0))
      (first | (with_reducible exact keep6 (by assumption) (by assumption)) | (exact ⟨HU2.out.drew, c2_0, c2_1, c2_2, c2_3, c2_4, c2_5⟩) | (repeat (first | (with_reducible assumption) | (with_reducible exact ⟨HU2.out, c2_0, c2_1, c2_2, c2_3, c2_4, c2_5⟩) | (with_reducible exact Hid.out (by assumption)) | (with_reducible refine alloc6 ?_) | (with_reducible refine drew6 ?_) | (with_reducible refine set6 ?_ (by omega) (by omega) (by omega) (by omega) (by omega) (by omega) (by omega)))))
      (first
        | (go_at_call 35; (with_reducible refine (HA.out _).mono ?_); rintro e w' ⟨rfl, rfl⟩)
        | (go_at_call 43; (with_reducible refine (HP.out _).mono ?_); rintro e w3 ⟨rfl, hu3⟩; have HU3 := Lib.hid hu3; have HS3 := Lib.hid (keep6 HU3 (by assumption)); obtain ⟨hc3, hz3⟩ := hu3.cells; have hs3 := hu3.size; (try simp at hs3); clear hu3; (try unfold got2); (try (have p3_0 : w.heap.size < w3.heap.size := by omega)); (try (have p3_1 : w.heap.size + 1 < w3.heap.size := by omega)); (try (have p3_2 : w.heap.size + 1 + 1 < w3.heap.size := by omega)); (try (have p3_3 : w2.heap.size < w3.heap.size := by omega)))
        )
    all_goals
      go_wp2_with fail
      go_meet
      refine ⟨_, ?_, rfl, ?_, ?_, by assumption⟩
      · omega
      all_goals (simp [go_sem, *])
  obtain ⟨g, lg, rfl, g0, g1, hS⟩ := hcut
  obtain ⟨hup, a0, a1, b0, b1, r0, r1⟩ := hS
  have HUP := Lib.hid hup
  clear hup
  rcases HY.out with ⟨t1, t2, e⟩ | ⟨t1, t2, e⟩ | ⟨t1, t2, t3, t4, e⟩ | ⟨t1, t2, t3, t4, e⟩ | ⟨t1, t2, t3, e⟩ | ⟨t1, t2, t3, e⟩ | ⟨t1, t2, t3, t4, e⟩ | ⟨t1, t2, t3, t4, e⟩
  · have HE := Lib.hid e
    clear e
    go_wp2_with fail
    refine wp_region_held_drew (S := fun w' => Up w w' ∧ Res2 w' (w.heap.size + 1 + 1) ∧ w'.cell? ⟨w.heap.size, 0, none⟩ = some (.int .i64 n) ∧ w'.cell? ⟨w.heap.size, 1, none⟩ = some (.int .i64 d) ∧ w'.cell? ⟨w.heap.size + 1, 0, none⟩ = some (.int .i64 m) ∧ w'.cell? ⟨w.heap.size + 1, 1, none⟩ = some (.int .i64 c) ∧ w'.cell? ⟨g, 0, none⟩ = some (.int .u64 (hiZ x)) ∧ w'.cell? ⟨g, 1, none⟩ = some (.int .u64 (loZ x))) (by kernel_rfl) ?hB47 (fun hHeld => ?_)
    case hB47 => (first | (with_reducible exact rkeep6 (by assumption) (by assumption)) | (exact ⟨HUP.out.drew, ⟨_, _, r0, r1⟩, a0, a1, b0, b1, g0, g1⟩) | (repeat (first | (with_reducible assumption) | (with_reducible exact Hid.out (by assumption)) | (with_reducible refine rset6_0 ?_ (by omega) (by omega) (by omega) (by omega) (by omega) (by omega) (by omega)) | (with_reducible refine rset6_1 ?_ (by omega) (by omega) (by omega) (by omega) (by omega) (by omega) (by omega)))))
    refine wpAnyH_take (i := 0) (oi := ⟨_, _, _, _, _, _⟩) (v := ?v48) rfl (by kernel_rfl) (by kernel_rfl) (by kernel_rfl) (fun _ _ _ h => h) (Or.inl ⟨by rfl, ?hy48⟩) (by assumption) ?_
    case hy48 => (intro w hSw; (try dsimp only at hSw); go_simp; (try (with_reducible rfl)))
    (try simp only [Act.put, List.setIfInBounds_toArray, List.set_cons_zero, List.set_cons_succ])
    refine wpAnyH_take (i := 1) (oi := ⟨_, _, _, _, _, _⟩) (v := ?v49) rfl (by kernel_rfl) (by kernel_rfl) (by kernel_rfl) (fun _ _ _ h => h) (Or.inl ⟨by rfl, ?hy49⟩) (by assumption) ?_
    case hy49 => (intro w hSw; (try dsimp only at hSw); go_simp; (try (with_reducible rfl)))
    (try simp only [Act.put, List.setIfInBounds_toArray, List.set_cons_zero, List.set_cons_succ])
    refine wpAnyH_take (i := 2) (oi := ⟨_, _, _, _, _, _⟩) (v := ?v50) rfl (by kernel_rfl) (by kernel_rfl) (by kernel_rfl) (fun _ _ _ h => h) (Or.inl ⟨by rfl, ?hy50⟩) (by assumption) ?_
    case hy50 => (intro w hSw; (try dsimp only at hSw); go_simp; (try (with_reducible rfl)))
    (try simp only [Act.put, List.setIfInBounds_toArray, List.set_cons_zero, List.set_cons_succ])
    refine wpAnyH_take (i := 3) (oi := ⟨_, _, _, _, _, _⟩) (v := ?v51) rfl (by kernel_rfl) (by kernel_rfl) (by kernel_rfl) (fun _ _ _ h => h) (Or.inl ⟨by rfl, ?hy51⟩) (by assumption) ?_
    case hy51 => (intro w hSw; (try dsimp only at hSw); go_simp; (try (with_reducible rfl)))
    (try simp only [Act.put, List.setIfInBounds_toArray, List.set_cons_zero, List.set_cons_succ])
    refine wpAnyH_take (i := 4) (oi := ⟨_, _, _, _, _, _⟩) (v := ?v52) rfl (by kernel_rfl) (by kernel_rfl) (by kernel_rfl) (fun _ _ _ h => h) (Or.inl ⟨by rfl, ?hy52⟩) (by assumption) ?_
    case hy52 => (intro w hSw; (try dsimp only at hSw); go_simp; (try (with_reducible rfl)))
    (try simp only [Act.put, List.setIfInBounds_toArray, List.set_cons_zero, List.set_cons_succ])
    refine wpAnyH_take (i := 5) (oi := ⟨_, _, _, _, _, _⟩) (v := ?v53) rfl (by kernel_rfl) (by kernel_rfl) (by kernel_rfl) (fun _ _ _ h => h) (Or.inl ⟨by rfl, ?hy53⟩) (by assumption) ?_
    case hy53 => (intro w hSw; (try dsimp only at hSw); go_simp; (try (with_reducible rfl)))
    (try simp only [Act.put, List.setIfInBounds_toArray, List.set_cons_zero, List.set_cons_succ])
    refine wpAnyH_take (i := 6) (oi := ⟨_, _, _, _, _, _⟩) (v := ?v54) rfl (by kernel_rfl) (by kernel_rfl) (by kernel_rfl) (fun _ _ _ h => h) (Or.inl ⟨by rfl, ?hy54⟩) (by assumption) ?_
    case hy54 => (intro w hSw; (try dsimp only at hSw); go_simp; (try (with_reducible rfl)))
    (try simp only [Act.put, List.setIfInBounds_toArray, List.set_cons_zero, List.set_cons_succ])
    refine wpAnyH_take (i := 7) (oi := ⟨_, _, _, _, _, _⟩) (v := ?v55) rfl (by kernel_rfl) (by kernel_rfl) (by kernel_rfl) (fun _ _ _ h => h) (Or.inl ⟨by rfl, ?hy55⟩) (by assumption) ?_
    case hy55 => (intro w hSw; (try dsimp only at hSw); go_simp; (try (with_reducible rfl)))
    (try simp only [Act.put, List.setIfInBounds_toArray, List.set_cons_zero, List.set_cons_succ])
    refine wpAnyH_take (i := 8) (oi := ⟨_, _, _, _, _, _⟩) (v := undef) rfl (by kernel_rfl) (by kernel_rfl) (by kernel_rfl) (fun _ _ _ h => h) (Or.inr ⟨by rfl, rfl⟩) (by assumption) ?_
    (try simp only [Act.put, List.setIfInBounds_toArray, List.set_cons_zero, List.set_cons_succ])
    refine wpAnyH_take (i := 9) (oi := ⟨_, _, _, _, _, _⟩) (v := undef) rfl (by kernel_rfl) (by kernel_rfl) (by kernel_rfl) (fun _ _ _ h => h) (Or.inr ⟨by rfl, rfl⟩) (by assumption) ?_
    (try simp only [Act.put, List.setIfInBounds_toArray, List.set_cons_zero, List.set_cons_succ])
    refine wpAnyH_take (i := 10) (oi := ⟨_, _, _, _, _, _⟩) (v := undef) rfl (by kernel_rfl) (by kernel_rfl) (by kernel_rfl) (fun _ _ _ h => h) (Or.inr ⟨by rfl, rfl⟩) (by assumption) ?_
    (try simp only [Act.put, List.setIfInBounds_toArray, List.set_cons_zero, List.set_cons_succ])
    refine wpAnyH_take (i := 11) (oi := ⟨_, _, _, _, _, _⟩) (v := ?v56) rfl (by kernel_rfl) (by kernel_rfl) (by kernel_rfl) (fun _ _ _ h => h) (Or.inl ⟨by rfl, ?hy56⟩) (by assumption) ?_
    case hy56 => (intro w hSw; (try dsimp only at hSw); go_simp; (try (with_reducible rfl)))
    (try simp only [Act.put, List.setIfInBounds_toArray, List.set_cons_zero, List.set_cons_succ])
    refine wpAnyH_take (i := 12) (oi := ⟨_, _, _, _, _, _⟩) (v := ?v57) rfl (by kernel_rfl) (by kernel_rfl) (by kernel_rfl) (fun _ _ _ h => h) (Or.inl ⟨by rfl, ?hy57⟩) (by assumption) ?_
    case hy57 => (intro w hSw; (try dsimp only at hSw); go_simp; (try (with_reducible rfl)))
    (try simp only [Act.put, List.setIfInBounds_toArray, List.set_cons_zero, List.set_cons_succ])
    refine wpAnyH_take (i := 13) (oi := ⟨_, _, _, _, _, _⟩) (v := ?v58) rfl (by kernel_rfl) (by kernel_rfl) (by kernel_rfl) (fun _ _ _ h => h) (Or.inl ⟨by rfl, ?hy58⟩) (by assumption) ?_
    case hy58 => (intro w hSw; (try dsimp only at hSw); go_simp; (try (with_reducible rfl)))
    (try simp only [Act.put, List.setIfInBounds_toArray, List.set_cons_zero, List.set_cons_succ])
    refine wpAnyH_take (i := 14) (oi := ⟨_, _, _, _, _, _⟩) (v := ?v59) rfl (by kernel_rfl) (by kernel_rfl) (by kernel_rfl) (fun _ _ _ h => h) (Or.inl ⟨by rfl, ?hy59⟩) (by assumption) ?_
    case hy59 => (intro w hSw; (try dsimp only at hSw); go_simp; (try (with_reducible rfl)))
    (try simp only [Act.put, List.setIfInBounds_toArray, List.set_cons_zero, List.set_cons_succ])
    refine wpAnyH_take (i := 15) (oi := ⟨_, _, _, _, _, _⟩) (v := ?v60) rfl (by kernel_rfl) (by kernel_rfl) (by kernel_rfl) (fun _ _ _ h => h) (Or.inl ⟨by rfl, ?hy60⟩) (by assumption) ?_
    case hy60 => (intro w hSw; (try dsimp only at hSw); go_simp; (try (with_reducible rfl)))
    (try simp only [Act.put, List.setIfInBounds_toArray, List.set_cons_zero, List.set_cons_succ])
    refine wpAnyH_take (i := 16) (oi := ⟨_, _, _, _, _, _⟩) (v := ?v61) rfl (by kernel_rfl) (by kernel_rfl) (by kernel_rfl) (fun _ _ _ h => h) (Or.inl ⟨by rfl, ?hy61⟩) (by assumption) ?_
    case hy61 => (intro w hSw; (try dsimp only at hSw); go_simp; (try (with_reducible rfl)))
    (try simp only [Act.put, List.setIfInBounds_toArray, List.set_cons_zero, List.set_cons_succ])
    refine wpAnyH_take (i := 17) (oi := ⟨_, _, _, _, _, _⟩) (v := ?v62) rfl (by kernel_rfl) (by kernel_rfl) (by kernel_rfl) (fun _ _ _ h => h) (Or.inl ⟨by rfl, ?hy62⟩) (by assumption) ?_
    case hy62 => (intro w hSw; (try dsimp only at hSw); go_simp; (try (with_reducible rfl)))
    (try simp only [Act.put, List.setIfInBounds_toArray, List.set_cons_zero, List.set_cons_succ])
    refine wpAnyH_ready (rs := [18]) (by kernel_rfl) (by simp) ?_
    refine AllReadyH.cons (o := ⟨_, _, _, _, _, _⟩) rfl (fun K hK => ?_) AllReadyH.nil
    go_simp
    (go_at_call 35; (with_reducible refine (HB.out _).mono ?_); rintro e w' ⟨rfl, rfl⟩)
    (try go_wp2_with fail)
    refine hK.out _ _ ?hB63 (fun hHeld => ?_)
    case hB63 => (first | (with_reducible exact rkeep6 (by assumption) (by assumption)) | (exact ⟨HUP.out.drew, ⟨_, _, r0, r1⟩, a0, a1, b0, b1, g0, g1⟩) | (repeat (first | (with_reducible assumption) | (with_reducible exact Hid.out (by assumption)) | (with_reducible refine rset6_0 ?_ (by omega) (by omega) (by omega) (by omega) (by omega) (by omega) (by omega)) | (with_reducible refine rset6_1 ?_ (by omega) (by omega) (by omega) (by omega) (by omega) (by omega) (by omega)))))
    clear hK K
    (try simp only [Act.put, List.setIfInBounds_toArray, List.set_cons_zero, List.set_cons_succ])
    refine wpAnyH_ready (rs := [19]) (by kernel_rfl) (by simp) ?_
    refine AllReadyH.cons (o := ⟨_, _, _, _, _, _⟩) rfl (fun K hK => ?_) AllReadyH.nil
    go_simp
    (go_at_call 43; (with_reducible refine (HQ.out _).mono ?_); rintro e w' ⟨rfl, hu⟩; have HU := Lib.hid hu; clear hu)
    (try go_wp2_with fail)
    refine hK.out _ _ ?hB64 (fun hHeld => ?_)
    case hB64 => (first | (with_reducible exact rkeep6 (by assumption) (by assumption)) | (exact ⟨HUP.out.drew, ⟨_, _, r0, r1⟩, a0, a1, b0, b1, g0, g1⟩) | (repeat (first | (with_reducible assumption) | (with_reducible exact Hid.out (by assumption)) | (with_reducible refine rset6_0 ?_ (by omega) (by omega) (by omega) (by omega) (by omega) (by omega) (by omega)) | (with_reducible refine rset6_1 ?_ (by omega) (by omega) (by omega) (by omega) (by omega) (by omega) (by omega)))))
    clear hK K
    (try simp only [Act.put, List.setIfInBounds_toArray, List.set_cons_zero, List.set_cons_succ])
    refine wpAnyH_ready (rs := [20]) (by kernel_rfl) (by simp) ?_
    refine AllReadyH.cons (o := ⟨_, _, _, _, _, _⟩) rfl (fun K hK => ?_) AllReadyH.nil
    go_simp
    (go_at_call 33; (with_reducible refine (HR.out _ HE.out _).mono ?_); rintro e wq ⟨rfl, hu⟩; have HU := Lib.hid hu; have HSq := Lib.hid (rkeep6 HU (by assumption)); obtain ⟨r0', r1', k0, k1⟩ := HSq.out.2.1; have z0 := own2 HSq.out.1 0; have z1 := own2 HSq.out.1 1; clear hu; unfold gotR)
    (try go_wp2_with fail)
    refine hK.out _ _ ?hB65 (fun hHeld => ?_)
    case hB65 => (first | (with_reducible exact rkeep6 (by assumption) (by assumption)) | (exact ⟨HUP.out.drew, ⟨_, _, r0, r1⟩, a0, a1, b0, b1, g0, g1⟩) | (repeat (first | (with_reducible assumption) | (with_reducible exact Hid.out (by assumption)) | (with_reducible refine rset6_0 ?_ (by omega) (by omega) (by omega) (by omega) (by omega) (by omega) (by omega)) | (with_reducible refine rset6_1 ?_ (by omega) (by omega) (by omega) (by omega) (by omega) (by omega) (by omega)))))
    clear hK K
    (try simp only [Act.put, List.setIfInBounds_toArray, List.set_cons_zero, List.set_cons_succ])
    refine wpAnyH_take (i := 21) (oi := ⟨_, _, _, _, _, _⟩) (v := ?v66) rfl (by kernel_rfl) (by kernel_rfl) (by kernel_rfl) (fun _ _ _ h => h) (Or.inl ⟨by rfl, ?hy66⟩) (by assumption) ?_
    case hy66 => (intro w hSw; (try dsimp only at hSw); go_simp; (try (with_reducible rfl)))
    (try simp only [Act.put, List.setIfInBounds_toArray, List.set_cons_zero, List.set_cons_succ])
    refine wpAnyH_take (i := 22) (oi := ⟨_, _, _, _, _, _⟩) (v := ?v67) rfl (by kernel_rfl) (by kernel_rfl) (by kernel_rfl) (fun _ _ _ h => h) (Or.inl ⟨by rfl, ?hy67⟩) (by assumption) ?_
    case hy67 => (intro w hSw; (try dsimp only at hSw); go_simp; (try (with_reducible rfl)))
    (try simp only [Act.put, List.setIfInBounds_toArray, List.set_cons_zero, List.set_cons_succ])
    refine wpAnyH_ready (rs := [23]) (by kernel_rfl) (by simp) ?_
    refine AllReadyH.cons (o := ⟨_, _, _, _, _, _⟩) rfl (fun K hK => ?_) AllReadyH.nil
    go_simp
    refine hK.out _ _ ?hB68 (fun hHeld => ?_)
    case hB68 => (first | (with_reducible exact rkeep6 (by assumption) (by assumption)) | (exact ⟨HUP.out.drew, ⟨_, _, r0, r1⟩, a0, a1, b0, b1, g0, g1⟩) | (repeat (first | (with_reducible assumption) | (with_reducible exact Hid.out (by assumption)) | (with_reducible refine rset6_0 ?_ (by omega) (by omega) (by omega) (by omega) (by omega) (by omega) (by omega)) | (with_reducible refine rset6_1 ?_ (by omega) (by omega) (by omega) (by omega) (by omega) (by omega) (by omega)))))
    clear hK K
    (try simp only [Act.put, List.setIfInBounds_toArray, List.set_cons_zero, List.set_cons_succ])
    refine wpAnyH_take (i := 24) (oi := ⟨_, _, _, _, _, _⟩) (v := ?v69) rfl (by kernel_rfl) (by kernel_rfl) (by kernel_rfl) (fun _ _ _ h => h) (Or.inl ⟨by rfl, ?hy69⟩) (by assumption) ?_
    case hy69 => (intro w hSw; (try dsimp only at hSw); go_simp; (try (with_reducible rfl)))
    (try simp only [Act.put, List.setIfInBounds_toArray, List.set_cons_zero, List.set_cons_succ])
    refine wpAnyH_done (by kernel_rfl) ?_ _
    all_goals
      go_wp2_with fail
      refine bodyPost_ret (v := .tuple #[.agg #[.int .i64 N, .int .i64 D], .bool B]) (by simp [results, Try.results26, go_sem, k0, k1]) rfl ⟨?_, ?_⟩
      · rfl
      · exact And.left (by assumption)
  · have HE := Lib.hid e
    clear e
    go_wp2_with fail
    refine wp_region_held_drew (S := fun w' => Up w w' ∧ Res2 w' (w.heap.size + 1 + 1) ∧ w'.cell? ⟨w.heap.size, 0, none⟩ = some (.int .i64 n) ∧ w'.cell? ⟨w.heap.size, 1, none⟩ = some (.int .i64 d) ∧ w'.cell? ⟨w.heap.size + 1, 0, none⟩ = some (.int .i64 m) ∧ w'.cell? ⟨w.heap.size + 1, 1, none⟩ = some (.int .i64 c) ∧ w'.cell? ⟨g, 0, none⟩ = some (.int .u64 (hiZ x)) ∧ w'.cell? ⟨g, 1, none⟩ = some (.int .u64 (loZ x))) (by kernel_rfl) ?hB70 (fun hHeld => ?_)
    case hB70 => (first | (with_reducible exact rkeep6 (by assumption) (by assumption)) | (exact ⟨HUP.out.drew, ⟨_, _, r0, r1⟩, a0, a1, b0, b1, g0, g1⟩) | (repeat (first | (with_reducible assumption) | (with_reducible exact Hid.out (by assumption)) | (with_reducible refine rset6_0 ?_ (by omega) (by omega) (by omega) (by omega) (by omega) (by omega) (by omega)) | (with_reducible refine rset6_1 ?_ (by omega) (by omega) (by omega) (by omega) (by omega) (by omega) (by omega)))))
    refine wpAnyH_take (i := 0) (oi := ⟨_, _, _, _, _, _⟩) (v := ?v71) rfl (by kernel_rfl) (by kernel_rfl) (by kernel_rfl) (fun _ _ _ h => h) (Or.inl ⟨by rfl, ?hy71⟩) (by assumption) ?_
    case hy71 => (intro w hSw; (try dsimp only at hSw); go_simp; (try (with_reducible rfl)))
    (try simp only [Act.put, List.setIfInBounds_toArray, List.set_cons_zero, List.set_cons_succ])
    refine wpAnyH_take (i := 1) (oi := ⟨_, _, _, _, _, _⟩) (v := ?v72) rfl (by kernel_rfl) (by kernel_rfl) (by kernel_rfl) (fun _ _ _ h => h) (Or.inl ⟨by rfl, ?hy72⟩) (by assumption) ?_
    case hy72 => (intro w hSw; (try dsimp only at hSw); go_simp; (try (with_reducible rfl)))
    (try simp only [Act.put, List.setIfInBounds_toArray, List.set_cons_zero, List.set_cons_succ])
    refine wpAnyH_take (i := 2) (oi := ⟨_, _, _, _, _, _⟩) (v := ?v73) rfl (by kernel_rfl) (by kernel_rfl) (by kernel_rfl) (fun _ _ _ h => h) (Or.inl ⟨by rfl, ?hy73⟩) (by assumption) ?_
    case hy73 => (intro w hSw; (try dsimp only at hSw); go_simp; (try (with_reducible rfl)))
    (try simp only [Act.put, List.setIfInBounds_toArray, List.set_cons_zero, List.set_cons_succ])
    refine wpAnyH_take (i := 3) (oi := ⟨_, _, _, _, _, _⟩) (v := ?v74) rfl (by kernel_rfl) (by kernel_rfl) (by kernel_rfl) (fun _ _ _ h => h) (Or.inl ⟨by rfl, ?hy74⟩) (by assumption) ?_
    case hy74 => (intro w hSw; (try dsimp only at hSw); go_simp; (try (with_reducible rfl)))
    (try simp only [Act.put, List.setIfInBounds_toArray, List.set_cons_zero, List.set_cons_succ])
    refine wpAnyH_take (i := 4) (oi := ⟨_, _, _, _, _, _⟩) (v := ?v75) rfl (by kernel_rfl) (by kernel_rfl) (by kernel_rfl) (fun _ _ _ h => h) (Or.inl ⟨by rfl, ?hy75⟩) (by assumption) ?_
    case hy75 => (intro w hSw; (try dsimp only at hSw); go_simp; (try (with_reducible rfl)))
    (try simp only [Act.put, List.setIfInBounds_toArray, List.set_cons_zero, List.set_cons_succ])
    refine wpAnyH_take (i := 5) (oi := ⟨_, _, _, _, _, _⟩) (v := ?v76) rfl (by kernel_rfl) (by kernel_rfl) (by kernel_rfl) (fun _ _ _ h => h) (Or.inl ⟨by rfl, ?hy76⟩) (by assumption) ?_
    case hy76 => (intro w hSw; (try dsimp only at hSw); go_simp; (try (with_reducible rfl)))
    (try simp only [Act.put, List.setIfInBounds_toArray, List.set_cons_zero, List.set_cons_succ])
    refine wpAnyH_take (i := 6) (oi := ⟨_, _, _, _, _, _⟩) (v := ?v77) rfl (by kernel_rfl) (by kernel_rfl) (by kernel_rfl) (fun _ _ _ h => h) (Or.inl ⟨by rfl, ?hy77⟩) (by assumption) ?_
    case hy77 => (intro w hSw; (try dsimp only at hSw); go_simp; (try (with_reducible rfl)))
    (try simp only [Act.put, List.setIfInBounds_toArray, List.set_cons_zero, List.set_cons_succ])
    refine wpAnyH_take (i := 7) (oi := ⟨_, _, _, _, _, _⟩) (v := ?v78) rfl (by kernel_rfl) (by kernel_rfl) (by kernel_rfl) (fun _ _ _ h => h) (Or.inl ⟨by rfl, ?hy78⟩) (by assumption) ?_
    case hy78 => (intro w hSw; (try dsimp only at hSw); go_simp; (try (with_reducible rfl)))
    (try simp only [Act.put, List.setIfInBounds_toArray, List.set_cons_zero, List.set_cons_succ])
    refine wpAnyH_take (i := 8) (oi := ⟨_, _, _, _, _, _⟩) (v := undef) rfl (by kernel_rfl) (by kernel_rfl) (by kernel_rfl) (fun _ _ _ h => h) (Or.inr ⟨by rfl, rfl⟩) (by assumption) ?_
    (try simp only [Act.put, List.setIfInBounds_toArray, List.set_cons_zero, List.set_cons_succ])
    refine wpAnyH_take (i := 9) (oi := ⟨_, _, _, _, _, _⟩) (v := undef) rfl (by kernel_rfl) (by kernel_rfl) (by kernel_rfl) (fun _ _ _ h => h) (Or.inr ⟨by rfl, rfl⟩) (by assumption) ?_
    (try simp only [Act.put, List.setIfInBounds_toArray, List.set_cons_zero, List.set_cons_succ])
    refine wpAnyH_take (i := 10) (oi := ⟨_, _, _, _, _, _⟩) (v := undef) rfl (by kernel_rfl) (by kernel_rfl) (by kernel_rfl) (fun _ _ _ h => h) (Or.inr ⟨by rfl, rfl⟩) (by assumption) ?_
    (try simp only [Act.put, List.setIfInBounds_toArray, List.set_cons_zero, List.set_cons_succ])
    refine wpAnyH_take (i := 11) (oi := ⟨_, _, _, _, _, _⟩) (v := ?v79) rfl (by kernel_rfl) (by kernel_rfl) (by kernel_rfl) (fun _ _ _ h => h) (Or.inl ⟨by rfl, ?hy79⟩) (by assumption) ?_
    case hy79 => (intro w hSw; (try dsimp only at hSw); go_simp; (try (with_reducible rfl)))
    (try simp only [Act.put, List.setIfInBounds_toArray, List.set_cons_zero, List.set_cons_succ])
    refine wpAnyH_take (i := 12) (oi := ⟨_, _, _, _, _, _⟩) (v := ?v80) rfl (by kernel_rfl) (by kernel_rfl) (by kernel_rfl) (fun _ _ _ h => h) (Or.inl ⟨by rfl, ?hy80⟩) (by assumption) ?_
    case hy80 => (intro w hSw; (try dsimp only at hSw); go_simp; (try (with_reducible rfl)))
    (try simp only [Act.put, List.setIfInBounds_toArray, List.set_cons_zero, List.set_cons_succ])
    refine wpAnyH_take (i := 13) (oi := ⟨_, _, _, _, _, _⟩) (v := ?v81) rfl (by kernel_rfl) (by kernel_rfl) (by kernel_rfl) (fun _ _ _ h => h) (Or.inl ⟨by rfl, ?hy81⟩) (by assumption) ?_
    case hy81 => (intro w hSw; (try dsimp only at hSw); go_simp; (try (with_reducible rfl)))
    (try simp only [Act.put, List.setIfInBounds_toArray, List.set_cons_zero, List.set_cons_succ])
    refine wpAnyH_take (i := 14) (oi := ⟨_, _, _, _, _, _⟩) (v := ?v82) rfl (by kernel_rfl) (by kernel_rfl) (by kernel_rfl) (fun _ _ _ h => h) (Or.inl ⟨by rfl, ?hy82⟩) (by assumption) ?_
    case hy82 => (intro w hSw; (try dsimp only at hSw); go_simp; (try (with_reducible rfl)))
    (try simp only [Act.put, List.setIfInBounds_toArray, List.set_cons_zero, List.set_cons_succ])
    refine wpAnyH_take (i := 15) (oi := ⟨_, _, _, _, _, _⟩) (v := ?v83) rfl (by kernel_rfl) (by kernel_rfl) (by kernel_rfl) (fun _ _ _ h => h) (Or.inl ⟨by rfl, ?hy83⟩) (by assumption) ?_
    case hy83 => (intro w hSw; (try dsimp only at hSw); go_simp; (try (with_reducible rfl)))
    (try simp only [Act.put, List.setIfInBounds_toArray, List.set_cons_zero, List.set_cons_succ])
    refine wpAnyH_take (i := 16) (oi := ⟨_, _, _, _, _, _⟩) (v := ?v84) rfl (by kernel_rfl) (by kernel_rfl) (by kernel_rfl) (fun _ _ _ h => h) (Or.inl ⟨by rfl, ?hy84⟩) (by assumption) ?_
    case hy84 => (intro w hSw; (try dsimp only at hSw); go_simp; (try (with_reducible rfl)))
    (try simp only [Act.put, List.setIfInBounds_toArray, List.set_cons_zero, List.set_cons_succ])
    refine wpAnyH_take (i := 17) (oi := ⟨_, _, _, _, _, _⟩) (v := ?v85) rfl (by kernel_rfl) (by kernel_rfl) (by kernel_rfl) (fun _ _ _ h => h) (Or.inl ⟨by rfl, ?hy85⟩) (by assumption) ?_
    case hy85 => (intro w hSw; (try dsimp only at hSw); go_simp; (try (with_reducible rfl)))
    (try simp only [Act.put, List.setIfInBounds_toArray, List.set_cons_zero, List.set_cons_succ])
    refine wpAnyH_ready (rs := [18]) (by kernel_rfl) (by simp) ?_
    refine AllReadyH.cons (o := ⟨_, _, _, _, _, _⟩) rfl (fun K hK => ?_) AllReadyH.nil
    go_simp
    (go_at_call 35; (with_reducible refine (HB.out _).mono ?_); rintro e w' ⟨rfl, rfl⟩)
    (try go_wp2_with fail)
    refine hK.out _ _ ?hB86 (fun hHeld => ?_)
    case hB86 => (first | (with_reducible exact rkeep6 (by assumption) (by assumption)) | (exact ⟨HUP.out.drew, ⟨_, _, r0, r1⟩, a0, a1, b0, b1, g0, g1⟩) | (repeat (first | (with_reducible assumption) | (with_reducible exact Hid.out (by assumption)) | (with_reducible refine rset6_0 ?_ (by omega) (by omega) (by omega) (by omega) (by omega) (by omega) (by omega)) | (with_reducible refine rset6_1 ?_ (by omega) (by omega) (by omega) (by omega) (by omega) (by omega) (by omega)))))
    clear hK K
    (try simp only [Act.put, List.setIfInBounds_toArray, List.set_cons_zero, List.set_cons_succ])
    refine wpAnyH_ready (rs := [19]) (by kernel_rfl) (by simp) ?_
    refine AllReadyH.cons (o := ⟨_, _, _, _, _, _⟩) rfl (fun K hK => ?_) AllReadyH.nil
    go_simp
    (go_at_call 43; (with_reducible refine (HQ.out _).mono ?_); rintro e w' ⟨rfl, hu⟩; have HU := Lib.hid hu; clear hu)
    (try go_wp2_with fail)
    refine hK.out _ _ ?hB87 (fun hHeld => ?_)
    case hB87 => (first | (with_reducible exact rkeep6 (by assumption) (by assumption)) | (exact ⟨HUP.out.drew, ⟨_, _, r0, r1⟩, a0, a1, b0, b1, g0, g1⟩) | (repeat (first | (with_reducible assumption) | (with_reducible exact Hid.out (by assumption)) | (with_reducible refine rset6_0 ?_ (by omega) (by omega) (by omega) (by omega) (by omega) (by omega) (by omega)) | (with_reducible refine rset6_1 ?_ (by omega) (by omega) (by omega) (by omega) (by omega) (by omega) (by omega)))))
    clear hK K
    (try simp only [Act.put, List.setIfInBounds_toArray, List.set_cons_zero, List.set_cons_succ])
    refine wpAnyH_ready (rs := [20]) (by kernel_rfl) (by simp) ?_
    refine AllReadyH.cons (o := ⟨_, _, _, _, _, _⟩) rfl (fun K hK => ?_) AllReadyH.nil
    go_simp
    (go_at_call 33; (with_reducible refine (HR.out _ HE.out _).mono ?_); rintro e wq ⟨rfl, hu⟩; have HU := Lib.hid hu; have HSq := Lib.hid (rkeep6 HU (by assumption)); obtain ⟨r0', r1', k0, k1⟩ := HSq.out.2.1; have z0 := own2 HSq.out.1 0; have z1 := own2 HSq.out.1 1; clear hu; unfold gotR)
    (try go_wp2_with fail)
    refine hK.out _ _ ?hB88 (fun hHeld => ?_)
    case hB88 => (first | (with_reducible exact rkeep6 (by assumption) (by assumption)) | (exact ⟨HUP.out.drew, ⟨_, _, r0, r1⟩, a0, a1, b0, b1, g0, g1⟩) | (repeat (first | (with_reducible assumption) | (with_reducible exact Hid.out (by assumption)) | (with_reducible refine rset6_0 ?_ (by omega) (by omega) (by omega) (by omega) (by omega) (by omega) (by omega)) | (with_reducible refine rset6_1 ?_ (by omega) (by omega) (by omega) (by omega) (by omega) (by omega) (by omega)))))
    clear hK K
    (try simp only [Act.put, List.setIfInBounds_toArray, List.set_cons_zero, List.set_cons_succ])
    refine wpAnyH_take (i := 21) (oi := ⟨_, _, _, _, _, _⟩) (v := ?v89) rfl (by kernel_rfl) (by kernel_rfl) (by kernel_rfl) (fun _ _ _ h => h) (Or.inl ⟨by rfl, ?hy89⟩) (by assumption) ?_
    case hy89 => (intro w hSw; (try dsimp only at hSw); go_simp; (try (with_reducible rfl)))
    (try simp only [Act.put, List.setIfInBounds_toArray, List.set_cons_zero, List.set_cons_succ])
    refine wpAnyH_take (i := 22) (oi := ⟨_, _, _, _, _, _⟩) (v := ?v90) rfl (by kernel_rfl) (by kernel_rfl) (by kernel_rfl) (fun _ _ _ h => h) (Or.inl ⟨by rfl, ?hy90⟩) (by assumption) ?_
    case hy90 => (intro w hSw; (try dsimp only at hSw); go_simp; (try (with_reducible rfl)))
    (try simp only [Act.put, List.setIfInBounds_toArray, List.set_cons_zero, List.set_cons_succ])
    refine wpAnyH_ready (rs := [23]) (by kernel_rfl) (by simp) ?_
    refine AllReadyH.cons (o := ⟨_, _, _, _, _, _⟩) rfl (fun K hK => ?_) AllReadyH.nil
    go_simp
    refine hK.out _ _ ?hB91 (fun hHeld => ?_)
    case hB91 => (first | (with_reducible exact rkeep6 (by assumption) (by assumption)) | (exact ⟨HUP.out.drew, ⟨_, _, r0, r1⟩, a0, a1, b0, b1, g0, g1⟩) | (repeat (first | (with_reducible assumption) | (with_reducible exact Hid.out (by assumption)) | (with_reducible refine rset6_0 ?_ (by omega) (by omega) (by omega) (by omega) (by omega) (by omega) (by omega)) | (with_reducible refine rset6_1 ?_ (by omega) (by omega) (by omega) (by omega) (by omega) (by omega) (by omega)))))
    clear hK K
    (try simp only [Act.put, List.setIfInBounds_toArray, List.set_cons_zero, List.set_cons_succ])
    refine wpAnyH_take (i := 24) (oi := ⟨_, _, _, _, _, _⟩) (v := ?v92) rfl (by kernel_rfl) (by kernel_rfl) (by kernel_rfl) (fun _ _ _ h => h) (Or.inl ⟨by rfl, ?hy92⟩) (by assumption) ?_
    case hy92 => (intro w hSw; (try dsimp only at hSw); go_simp; (try (with_reducible rfl)))
    (try simp only [Act.put, List.setIfInBounds_toArray, List.set_cons_zero, List.set_cons_succ])
    refine wpAnyH_done (by kernel_rfl) ?_ _
    all_goals
      go_wp2_with fail
      refine bodyPost_ret (v := .tuple #[.agg #[.int .i64 N, .int .i64 D], .bool B]) (by simp [results, Try.results26, go_sem, k0, k1]) rfl ⟨?_, ?_⟩
      · rfl
      · exact And.left (by assumption)
  · have HE := Lib.hid e
    clear e
    go_wp2_with fail
    go_region_held3 (fun w' => Up w w' ∧ Res2 w' (w.heap.size + 1 + 1) ∧ w'.cell? ⟨w.heap.size, 0, none⟩ = some (.int .i64 n) ∧ w'.cell? ⟨w.heap.size, 1, none⟩ = some (.int .i64 d) ∧ w'.cell? ⟨w.heap.size + 1, 0, none⟩ = some (.int .i64 m) ∧ w'.cell? ⟨w.heap.size + 1, 1, none⟩ = some (.int .i64 c) ∧ w'.cell? ⟨g, 0, none⟩ = some (.int .u64 (hiZ x)) ∧ w'.cell? ⟨g, 1, none⟩ = some (.int .u64 (loZ x)))
      (first | (with_reducible exact rkeep6 (by assumption) (by assumption)) | (exact ⟨HUP.out.drew, ⟨_, _, r0, r1⟩, a0, a1, b0, b1, g0, g1⟩) | (repeat (first | (with_reducible assumption) | (with_reducible exact Hid.out (by assumption)) | (with_reducible refine rset6_0 ?_ (by omega) (by omega) (by omega) (by omega) (by omega) (by omega) (by omega)) | (with_reducible refine rset6_1 ?_ (by omega) (by omega) (by omega) (by omega) (by omega) (by omega) (by omega)))))
      (first
        | (go_at_call 35; (with_reducible refine (HB.out _).mono ?_); rintro e w' ⟨rfl, rfl⟩)
        | (go_at_call 43; (with_reducible refine (HQ.out _).mono ?_); rintro e w' ⟨rfl, hu⟩; have HU := Lib.hid hu; clear hu)
        | (go_at_call 33; (with_reducible refine (HR.out _ HE.out _).mono ?_); rintro e wq ⟨rfl, hu⟩; have HU := Lib.hid hu; have HSq := Lib.hid (rkeep6 HU (by assumption)); obtain ⟨r0', r1', k0, k1⟩ := HSq.out.2.1; have z0 := own2 HSq.out.1 0; have z1 := own2 HSq.out.1 1; clear hu; unfold gotR))
    all_goals
      go_wp2_with fail
      refine bodyPost_ret (v := .tuple #[.agg #[.int .i64 N, .int .i64 D], .bool B]) (by simp [results, Try.results26, go_sem, k0, k1]) rfl ⟨?_, ?_⟩
      · rfl
      · exact And.left (by assumption)
  · have HE := Lib.hid e
    clear e
    go_wp2_with fail
    go_region_held3 (fun w' => Up w w' ∧ Res2 w' (w.heap.size + 1 + 1) ∧ w'.cell? ⟨w.heap.size, 0, none⟩ = some (.int .i64 n) ∧ w'.cell? ⟨w.heap.size, 1, none⟩ = some (.int .i64 d) ∧ w'.cell? ⟨w.heap.size + 1, 0, none⟩ = some (.int .i64 m) ∧ w'.cell? ⟨w.heap.size + 1, 1, none⟩ = some (.int .i64 c) ∧ w'.cell? ⟨g, 0, none⟩ = some (.int .u64 (hiZ x)) ∧ w'.cell? ⟨g, 1, none⟩ = some (.int .u64 (loZ x)))
      (first | (with_reducible exact rkeep6 (by assumption) (by assumption)) | (exact ⟨HUP.out.drew, ⟨_, _, r0, r1⟩, a0, a1, b0, b1, g0, g1⟩) | (repeat (first | (with_reducible assumption) | (with_reducible exact Hid.out (by assumption)) | (with_reducible refine rset6_0 ?_ (by omega) (by omega) (by omega) (by omega) (by omega) (by omega) (by omega)) | (with_reducible refine rset6_1 ?_ (by omega) (by omega) (by omega) (by omega) (by omega) (by omega) (by omega)))))
      (first
        | (go_at_call 35; (with_reducible refine (HB.out _).mono ?_); rintro e w' ⟨rfl, rfl⟩)
        | (go_at_call 43; (with_reducible refine (HQ.out _).mono ?_); rintro e w' ⟨rfl, hu⟩; have HU := Lib.hid hu; clear hu)
        | (go_at_call 33; (with_reducible refine (HR.out _ HE.out _).mono ?_); rintro e wq ⟨rfl, hu⟩; have HU := Lib.hid hu; have HSq := Lib.hid (rkeep6 HU (by assumption)); obtain ⟨r0', r1', k0, k1⟩ := HSq.out.2.1; have z0 := own2 HSq.out.1 0; have z1 := own2 HSq.out.1 1; clear hu; unfold gotR))
    all_goals
      go_wp2_with fail
      refine bodyPost_ret (v := .tuple #[.agg #[.int .i64 N, .int .i64 D], .bool B]) (by simp [results, Try.results26, go_sem, k0, k1]) rfl ⟨?_, ?_⟩
      · rfl
      · exact And.left (by assumption)
  · have HE := Lib.hid e
    clear e
    go_wp2_with fail
    go_region_held3 (fun w' => Up w w' ∧ Res2 w' (w.heap.size + 1 + 1) ∧ w'.cell? ⟨w.heap.size, 0, none⟩ = some (.int .i64 n) ∧ w'.cell? ⟨w.heap.size, 1, none⟩ = some (.int .i64 d) ∧ w'.cell? ⟨w.heap.size + 1, 0, none⟩ = some (.int .i64 m) ∧ w'.cell? ⟨w.heap.size + 1, 1, none⟩ = some (.int .i64 c) ∧ w'.cell? ⟨g, 0, none⟩ = some (.int .u64 (hiZ x)) ∧ w'.cell? ⟨g, 1, none⟩ = some (.int .u64 (loZ x)))
      (first | (with_reducible exact rkeep6 (by assumption) (by assumption)) | (exact ⟨HUP.out.drew, ⟨_, _, r0, r1⟩, a0, a1, b0, b1, g0, g1⟩) | (repeat (first | (with_reducible assumption) | (with_reducible exact Hid.out (by assumption)) | (with_reducible refine rset6_0 ?_ (by omega) (by omega) (by omega) (by omega) (by omega) (by omega) (by omega)) | (with_reducible refine rset6_1 ?_ (by omega) (by omega) (by omega) (by omega) (by omega) (by omega) (by omega)))))
      (first
        | (go_at_call 35; (with_reducible refine (HB.out _).mono ?_); rintro e w' ⟨rfl, rfl⟩)
        | (go_at_call 43; (with_reducible refine (HQ.out _).mono ?_); rintro e w' ⟨rfl, hu⟩; have HU := Lib.hid hu; clear hu)
        | (go_at_call 33; (with_reducible refine (HR.out _ HE.out _).mono ?_); rintro e wq ⟨rfl, hu⟩; have HU := Lib.hid hu; have HSq := Lib.hid (rkeep6 HU (by assumption)); obtain ⟨r0', r1', k0, k1⟩ := HSq.out.2.1; have z0 := own2 HSq.out.1 0; have z1 := own2 HSq.out.1 1; clear hu; unfold gotR))
    all_goals
      go_wp2_with fail
      refine bodyPost_ret (v := .tuple #[.agg #[.int .i64 N, .int .i64 D], .bool B]) (by simp [results, Try.results26, go_sem, k0, k1]) rfl ⟨?_, ?_⟩
      · rfl
      · exact And.left (by assumption)
  · have HE := Lib.hid e
    clear e
    go_wp2_with fail
    go_region_held3 (fun w' => Up w w' ∧ Res2 w' (w.heap.size + 1 + 1) ∧ w'.cell? ⟨w.heap.size, 0, none⟩ = some (.int .i64 n) ∧ w'.cell? ⟨w.heap.size, 1, none⟩ = some (.int .i64 d) ∧ w'.cell? ⟨w.heap.size + 1, 0, none⟩ = some (.int .i64 m) ∧ w'.cell? ⟨w.heap.size + 1, 1, none⟩ = some (.int .i64 c) ∧ w'.cell? ⟨g, 0, none⟩ = some (.int .u64 (hiZ x)) ∧ w'.cell? ⟨g, 1, none⟩ = some (.int .u64 (loZ x)))
      (first | (with_reducible exact rkeep6 (by assumption) (by assumption)) | (exact ⟨HUP.out.drew, ⟨_, _, r0, r1⟩, a0, a1, b0, b1, g0, g1⟩) | (repeat (first | (with_reducible assumption) | (with_reducible exact Hid.out (by assumption)) | (with_reducible refine rset6_0 ?_ (by omega) (by omega) (by omega) (by omega) (by omega) (by omega) (by omega)) | (with_reducible refine rset6_1 ?_ (by omega) (by omega) (by omega) (by omega) (by omega) (by omega) (by omega)))))
      (first
        | (go_at_call 35; (with_reducible refine (HB.out _).mono ?_); rintro e w' ⟨rfl, rfl⟩)
        | (go_at_call 43; (with_reducible refine (HQ.out _).mono ?_); rintro e w' ⟨rfl, hu⟩; have HU := Lib.hid hu; clear hu)
        | (go_at_call 33; (with_reducible refine (HR.out _ HE.out _).mono ?_); rintro e wq ⟨rfl, hu⟩; have HU := Lib.hid hu; have HSq := Lib.hid (rkeep6 HU (by assumption)); obtain ⟨r0', r1', k0, k1⟩ := HSq.out.2.1; have z0 := own2 HSq.out.1 0; have z1 := own2 HSq.out.1 1; clear hu; unfold gotR))
    all_goals
      go_wp2_with fail
      refine bodyPost_ret (v := .tuple #[.agg #[.int .i64 N, .int .i64 D], .bool B]) (by simp [results, Try.results26, go_sem, k0, k1]) rfl ⟨?_, ?_⟩
      · rfl
      · exact And.left (by assumption)
  · have HE := Lib.hid e
    clear e
    go_wp2_with fail
    go_region_held3 (fun w' => Up w w' ∧ Res2 w' (w.heap.size + 1 + 1) ∧ w'.cell? ⟨w.heap.size, 0, none⟩ = some (.int .i64 n) ∧ w'.cell? ⟨w.heap.size, 1, none⟩ = some (.int .i64 d) ∧ w'.cell? ⟨w.heap.size + 1, 0, none⟩ = some (.int .i64 m) ∧ w'.cell? ⟨w.heap.size + 1, 1, none⟩ = some (.int .i64 c) ∧ w'.cell? ⟨g, 0, none⟩ = some (.int .u64 (hiZ x)) ∧ w'.cell? ⟨g, 1, none⟩ = some (.int .u64 (loZ x)))
      (first | (with_reducible exact rkeep6 (by assumption) (by assumption)) | (exact ⟨HUP.out.drew, ⟨_, _, r0, r1⟩, a0, a1, b0, b1, g0, g1⟩) | (repeat (first | (with_reducible assumption) | (with_reducible exact Hid.out (by assumption)) | (with_reducible refine rset6_0 ?_ (by omega) (by omega) (by omega) (by omega) (by omega) (by omega) (by omega)) | (with_reducible refine rset6_1 ?_ (by omega) (by omega) (by omega) (by omega) (by omega) (by omega) (by omega)))))
      (first
        | (go_at_call 35; (with_reducible refine (HB.out _).mono ?_); rintro e w' ⟨rfl, rfl⟩)
        | (go_at_call 43; (with_reducible refine (HQ.out _).mono ?_); rintro e w' ⟨rfl, hu⟩; have HU := Lib.hid hu; clear hu)
        | (go_at_call 33; (with_reducible refine (HR.out _ HE.out _).mono ?_); rintro e wq ⟨rfl, hu⟩; have HU := Lib.hid hu; have HSq := Lib.hid (rkeep6 HU (by assumption)); obtain ⟨r0', r1', k0, k1⟩ := HSq.out.2.1; have z0 := own2 HSq.out.1 0; have z1 := own2 HSq.out.1 1; clear hu; unfold gotR))
    all_goals
      go_wp2_with fail
      refine bodyPost_ret (v := .tuple #[.agg #[.int .i64 N, .int .i64 D], .bool B]) (by simp [results, Try.results26, go_sem, k0, k1]) rfl ⟨?_, ?_⟩
      · rfl
      · exact And.left (by assumption)
  · have HE := Lib.hid e
    clear e
    go_wp2_with fail
    go_region_held3 (fun w' => Up w w' ∧ Res2 w' (w.heap.size + 1 + 1) ∧ w'.cell? ⟨w.heap.size, 0, none⟩ = some (.int .i64 n) ∧ w'.cell? ⟨w.heap.size, 1, none⟩ = some (.int .i64 d) ∧ w'.cell? ⟨w.heap.size + 1, 0, none⟩ = some (.int .i64 m) ∧ w'.cell? ⟨w.heap.size + 1, 1, none⟩ = some (.int .i64 c) ∧ w'.cell? ⟨g, 0, none⟩ = some (.int .u64 (hiZ x)) ∧ w'.cell? ⟨g, 1, none⟩ = some (.int .u64 (loZ x)))
      (first | (with_reducible exact rkeep6 (by assumption) (by assumption)) | (exact ⟨HUP.out.drew, ⟨_, _, r0, r1⟩, a0, a1, b0, b1, g0, g1⟩) | (repeat (first | (with_reducible assumption) | (with_reducible exact Hid.out (by assumption)) | (with_reducible refine rset6_0 ?_ (by omega) (by omega) (by omega) (by omega) (by omega) (by omega) (by omega)) | (with_reducible refine rset6_1 ?_ (by omega) (by omega) (by omega) (by omega) (by omega) (by omega) (by omega)))))
      (first
        | (go_at_call 35; (with_reducible refine (HB.out _).mono ?_); rintro e w' ⟨rfl, rfl⟩)
        | (go_at_call 43; (with_reducible refine (HQ.out _).mono ?_); rintro e w' ⟨rfl, hu⟩; have HU := Lib.hid hu; clear hu)
        | (go_at_call 33; (with_reducible refine (HR.out _ HE.out _).mono ?_); rintro e wq ⟨rfl, hu⟩; have HU := Lib.hid hu; have HSq := Lib.hid (rkeep6 HU (by assumption)); obtain ⟨r0', r1', k0, k1⟩ := HSq.out.2.1; have z0 := own2 HSq.out.1 0; have z1 := own2 HSq.out.1 1; clear hu; unfold gotR))
    all_goals
      go_wp2_with fail
      refine bodyPost_ret (v := .tuple #[.agg #[.int .i64 N, .int .i64 D], .bool B]) (by simp [results, Try.results26, go_sem, k0, k1]) rfl ⟨?_, ?_⟩
      · rfl
      · exact And.left (by assumption)

end Go.Proofs.Ytgkoccnnafilnaa
