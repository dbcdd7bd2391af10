/- What the reference's Sum of package ratio returns. -/
import Derived.Test.YtjbgogajnjefmaaGreatZRArithm4
import Derived.Test.YtjbgogajnjefmaaGreatZREasym3
import Derived.Test.YtjbgogajnjefmaaGreatZRQuo
import Derived.Test.YtjbgogajnjefmaaGreatZRSum
import Derived.Test.YtjbgogajnjefmaaGreatZRValid
import Derived.Test.YtjbgogajnjefmaaGreatZWAdd
import Derived.Test.YtjbgogajnjefmaaGreatZWGcd
import Derived.Test.YtjbgogajnjefmaaGreatZWMathm8
import Derived.Test.YtjbgogajnjefmaaGreatZWMul
import Derived.Test.YtjbgogajnjefmaaGreatZWRDiv2
import Derived.Test.YtjbgogajnjefmaaGreatZWShortm3
namespace Go.Proofs.YtjbgogajnjefmaaGreat
open Go.RowKit

set_option maxHeartbeats 16000000 in
set_option maxRecDepth 100000 in
theorem rsum_up (n d m c : Int) (mi : Bool) (hn : In n) (hd : In d) (hm : In m) (hc : In c) (w : World) :
    Calls Tryz.prog 24 #[.agg #[.int .i64 n, .int .i64 d], .agg #[.int .i64 m, .int .i64 c], .bool mi] w fun e w' =>
      e = gotR (vN (validB n d && validB m c) (n * c + sz mi (m * d)) (d * c)) (vD (validB n d && validB m c) (n * c + sz mi (m * d)) (d * c)) (vB (validB n d && validB m c) (n * c + sz mi (m * d)) (d * c)) ∧ Up w w' := by
  have HV := Lib.hid (fun W => rvalid_up n d hn hd W)
  have HW := Lib.hid (fun W => rvalid_up m c hm hc W)
  by_cases hv : validB n d = true
  case neg =>
    have hv' : validB n d = false := by simpa using hv
    rw [hv', Bool.false_and, v_no]
    rw [hv'] at HV
    clear hv hv' hn hd hm hc
    go_enter Tryz.func24, Tryz.ntmps24
    go_wp2_with fail
    refine (HV.out _).mono ?_
    rintro e w1 ⟨rfl, hu1⟩
    try unfold got2
    have c1_0 := hu1.keep (w.heap.size) (0) (.int .i64 n) (by simp [go_sem, *])
    have c1_1 := hu1.keep (w.heap.size) (1) (.int .i64 d) (by simp [go_sem, *])
    have c1_2 := hu1.keep (w.heap.size + 1) (0) (.int .i64 m) (by simp [go_sem, *])
    have c1_3 := hu1.keep (w.heap.size + 1) (1) (.int .i64 c) (by simp [go_sem, *])
    have c1_4 := hu1.keep (w.heap.size + 1 + 1) (0) (.int .i64 0) (by simp [go_sem, *])
    have c1_5 := hu1.keep (w.heap.size + 1 + 1) (1) (.int .i64 0) (by simp [go_sem, *])
    have l1_0 : w.heap.size < w1.heap.size := World.block_lt_of_cell? _ _ c1_0
    have m1_0 : w.heap.size < w1.heap.size + 1 := by omega
    have n1_0 : w.heap.size < w1.heap.size + 1 + 1 := by omega
    have x1_0 : ¬ w1.heap.size = w.heap.size := by omega
    have y1_0 : ¬ w1.heap.size + 1 = w.heap.size := by omega
    have l1_1 : w.heap.size + 1 < w1.heap.size := World.block_lt_of_cell? _ _ c1_2
    have m1_1 : w.heap.size + 1 < w1.heap.size + 1 := by omega
    have n1_1 : w.heap.size + 1 < w1.heap.size + 1 + 1 := by omega
    have x1_1 : ¬ w1.heap.size = w.heap.size + 1 := by omega
    have y1_1 : ¬ w1.heap.size + 1 = w.heap.size + 1 := by omega
    have l1_2 : w.heap.size + 1 + 1 < w1.heap.size := World.block_lt_of_cell? _ _ c1_4
    have m1_2 : w.heap.size + 1 + 1 < w1.heap.size + 1 := by omega
    have n1_2 : w.heap.size + 1 + 1 < w1.heap.size + 1 + 1 := by omega
    have x1_2 : ¬ w1.heap.size = w.heap.size + 1 + 1 := by omega
    have y1_2 : ¬ w1.heap.size + 1 = w.heap.size + 1 + 1 := by omega
    have HU1 : Hid (Up w w1) := Lib.hid (by ((repeat (first | (with_reducible exact Up.refl _) | (with_reducible refine Up.trans ?_ hu1) | (with_reducible refine Up.alloc ?_ _ _) | (with_reducible refine Up.setCell ?_ ?_ _) | (with_reducible refine Up.drewN ?_ _) | (with_reducible refine Up.drew ?_))); all_goals (first | (simp; done) | (simp; omega) | omega)))
    clear hu1
    have z0 := own2 HU1.out 0
    have z1 := own2 HU1.out 1
    go_wp2_with fail
    refine bodyPost_ret (v := .tuple #[.agg #[.int .i64 0, .int .i64 0], .bool false]) (by simp [results, Tryz.results24, go_sem, c1_4, c1_5]) rfl ⟨?_, ?_⟩
    · rfl
    · ((repeat (first | (with_reducible exact Up.refl _) | (with_reducible exact HU1.out) | (with_reducible refine Up.alloc ?_ _ _) | (with_reducible refine Up.setCell ?_ ?_ _) | (with_reducible refine Up.drewN ?_ _) | (with_reducible refine Up.drew ?_))); all_goals (first | (simp; done) | (simp; omega) | omega))
  rw [hv] at HV
  by_cases hu : validB m c = true
  case neg =>
    have hu' : validB m c = false := by simpa using hu
    rw [hv, hu', Bool.true_and, v_no]
    rw [hu'] at HW
    clear hv hu hu' hn hd hm hc
    go_enter Tryz.func24, Tryz.ntmps24
    go_wp2_with fail
    refine (HV.out _).mono ?_
    rintro e w1 ⟨rfl, hu1⟩
    try unfold got2
    have c1_0 := hu1.keep (w.heap.size) (0) (.int .i64 n) (by simp [go_sem, *])
    have c1_1 := hu1.keep (w.heap.size) (1) (.int .i64 d) (by simp [go_sem, *])
    have c1_2 := hu1.keep (w.heap.size + 1) (0) (.int .i64 m) (by simp [go_sem, *])
    have c1_3 := hu1.keep (w.heap.size + 1) (1) (.int .i64 c) (by simp [go_sem, *])
    have c1_4 := hu1.keep (w.heap.size + 1 + 1) (0) (.int .i64 0) (by simp [go_sem, *])
    have c1_5 := hu1.keep (w.heap.size + 1 + 1) (1) (.int .i64 0) (by simp [go_sem, *])
    have l1_0 : w.heap.size < w1.heap.size := World.block_lt_of_cell? _ _ c1_0
    have m1_0 : w.heap.size < w1.heap.size + 1 := by omega
    have n1_0 : w.heap.size < w1.heap.size + 1 + 1 := by omega
    have x1_0 : ¬ w1.heap.size = w.heap.size := by omega
    have y1_0 : ¬ w1.heap.size + 1 = w.heap.size := by omega
    have l1_1 : w.heap.size + 1 < w1.heap.size := World.block_lt_of_cell? _ _ c1_2
    have m1_1 : w.heap.size + 1 < w1.heap.size + 1 := by omega
    have n1_1 : w.heap.size + 1 < w1.heap.size + 1 + 1 := by omega
    have x1_1 : ¬ w1.heap.size = w.heap.size + 1 := by omega
    have y1_1 : ¬ w1.heap.size + 1 = w.heap.size + 1 := by omega
    have l1_2 : w.heap.size + 1 + 1 < w1.heap.size := World.block_lt_of_cell? _ _ c1_4
    have m1_2 : w.heap.size + 1 + 1 < w1.heap.size + 1 := by omega
    have n1_2 : w.heap.size + 1 + 1 < w1.heap.size + 1 + 1 := by omega
    have x1_2 : ¬ w1.heap.size = w.heap.size + 1 + 1 := by omega
    have y1_2 : ¬ w1.heap.size + 1 = w.heap.size + 1 + 1 := by omega
    have HU1 : Hid (Up w w1) := Lib.hid (by ((repeat (first | (with_reducible exact Up.refl _) | (with_reducible refine Up.trans ?_ hu1) | (with_reducible refine Up.alloc ?_ _ _) | (with_reducible refine Up.setCell ?_ ?_ _) | (with_reducible refine Up.drewN ?_ _) | (with_reducible refine Up.drew ?_))); all_goals (first | (simp; done) | (simp; omega) | omega)))
    clear hu1
    go_wp2_with fail
    refine (HW.out _).mono ?_
    rintro e w2 ⟨rfl, hu2⟩
    try unfold got2
    have c2_0 := hu2.keep (w.heap.size) (0) (.int .i64 n) (by simp [go_sem, *])
    have c2_1 := hu2.keep (w.heap.size) (1) (.int .i64 d) (by simp [go_sem, *])
    have c2_2 := hu2.keep (w.heap.size + 1) (0) (.int .i64 m) (by simp [go_sem, *])
    have c2_3 := hu2.keep (w.heap.size + 1) (1) (.int .i64 c) (by simp [go_sem, *])
    have c2_4 := hu2.keep (w.heap.size + 1 + 1) (0) (.int .i64 0) (by simp [go_sem, *])
    have c2_5 := hu2.keep (w.heap.size + 1 + 1) (1) (.int .i64 0) (by simp [go_sem, *])
    have l2_0 : w.heap.size < w2.heap.size := World.block_lt_of_cell? _ _ c2_0
    have m2_0 : w.heap.size < w2.heap.size + 1 := by omega
    have n2_0 : w.heap.size < w2.heap.size + 1 + 1 := by omega
    have x2_0 : ¬ w2.heap.size = w.heap.size := by omega
    have y2_0 : ¬ w2.heap.size + 1 = w.heap.size := by omega
    have l2_1 : w.heap.size + 1 < w2.heap.size := World.block_lt_of_cell? _ _ c2_2
    have m2_1 : w.heap.size + 1 < w2.heap.size + 1 := by omega
    have n2_1 : w.heap.size + 1 < w2.heap.size + 1 + 1 := by omega
    have x2_1 : ¬ w2.heap.size = w.heap.size + 1 := by omega
    have y2_1 : ¬ w2.heap.size + 1 = w.heap.size + 1 := by omega
    have l2_2 : w.heap.size + 1 + 1 < w2.heap.size := World.block_lt_of_cell? _ _ c2_4
    have m2_2 : w.heap.size + 1 + 1 < w2.heap.size + 1 := by omega
    have n2_2 : w.heap.size + 1 + 1 < w2.heap.size + 1 + 1 := by omega
    have x2_2 : ¬ w2.heap.size = w.heap.size + 1 + 1 := by omega
    have y2_2 : ¬ w2.heap.size + 1 = w.heap.size + 1 + 1 := by omega
    have HU2 : Hid (Up w w2) := Lib.hid (by ((repeat (first | (with_reducible exact Up.refl _) | (with_reducible exact HU1.out) | (with_reducible refine Up.trans ?_ hu2) | (with_reducible refine Up.alloc ?_ _ _) | (with_reducible refine Up.setCell ?_ ?_ _) | (with_reducible refine Up.drewN ?_ _) | (with_reducible refine Up.drew ?_))); all_goals (first | (simp; done) | (simp; omega) | omega)))
    clear hu2 c1_0 c1_1 c1_2 c1_3 c1_4 c1_5
    have z0 := own2 HU2.out 0
    have z1 := own2 HU2.out 1
    go_wp2_with fail
    refine bodyPost_ret (v := .tuple #[.agg #[.int .i64 0, .int .i64 0], .bool false]) (by simp [results, Tryz.results24, go_sem, c2_4, c2_5]) rfl ⟨?_, ?_⟩
    · rfl
    · ((repeat (first | (with_reducible exact Up.refl _) | (with_reducible exact HU2.out) | (with_reducible refine Up.alloc ?_ _ _) | (with_reducible refine Up.setCell ?_ ?_ _) | (with_reducible refine Up.drewN ?_ _) | (with_reducible refine Up.drew ?_))); all_goals (first | (simp; done) | (simp; omega) | omega))
  rw [hu] at HW
  rw [hv, hu, Bool.true_and, v_yes]
  have d1 := (validB_of hv).1
  have c1 := (validB_of hu).1
  clear hv hu
  have hwd : IntKind.u64.wrap d = d := by rw [IntKind.wrap_u64]; obtain ⟨_, d2⟩ := hd; omega
  have hwc : IntKind.u64.wrap c = c := by rw [IntKind.wrap_u64]; obtain ⟨_, c2⟩ := hc; omega
  have wd := word_int d1 hd
  have wc := word_int c1 hc
  have HNa := Lib.hid (fun W => rabs_any n hn W)
  have HMa := Lib.hid (fun W => rabs_any m hm W)
  have HX := Lib.hid (fun W => rproduct_up (n.natAbs : Int) c (abs_word hn) wc W)
  have HY := Lib.hid (fun W => rproduct_up (m.natAbs : Int) d (abs_word hm) wd W)
  have HQ := Lib.hid (fun W => rproduct_up d c wd wc W)
  have hdc : d * c ≠ 0 := Int.mul_ne_zero (by omega) (by omega)
  have iQ := mul_word wd wc
  have HR := Lib.hid (fun (neg : Bool) (v : Int) (hv : In2 v) (e : sz neg v = n * c + sz mi (m * d)) W => red_v neg v (d * c) (n * c + sz mi (m * d)) (d * c) hv iQ hdc hdc (by rw [e]) W)
  have iX := mul_word (abs_word hn) wc
  have iY := mul_word (abs_word hm) wd
  have iS : In2 ((n.natAbs : Int) * c + (m.natAbs : Int) * d) := by
    have h1 := (abs_prod hn hc).2
    have h2 := (abs_prod hm hd).2
    rw [show (c.natAbs : Int) = c by omega] at h1
    rw [show (d.natAbs : Int) = d by omega] at h2
    unfold In2 at *; omega
  have e1 : sz (decide (n < 0)) ((n.natAbs : Int) * c) = n * c := by rw [sz_scale, sz_of]
  have e2 : sz (decide (m < 0)) ((m.natAbs : Int) * d) = m * d := by rw [sz_scale, sz_of]
  obtain ⟨s, hs⟩ : ∃ s, decide (n < 0) = s := ⟨_, rfl⟩
  obtain ⟨sm, hsm⟩ : ∃ s, decide (m < 0) = s := ⟨_, rfl⟩
  obtain ⟨t, ht⟩ : ∃ t, (sm != mi) = t := ⟨_, rfl⟩
  have HP := Lib.hid (show n * c + sz mi (m * d) = sz s ((n.natAbs : Int) * c) + sz t ((m.natAbs : Int) * d) by
    rw [← e1, ← e2, hs, hsm, ← ht]
    cases sm <;> cases mi <;> simp [sz_true, sz_false])
  have HT := Lib.hid ht
  clear e1 e2 ht wd wc hdc iQ d1 c1 hn hd hm hc
  generalize n * c + sz mi (m * d) = P at *
  generalize quoN P (d * c) = N at *
  generalize quoD P (d * c) = D at *
  generalize quoB P (d * c) = B at *
  generalize (n.natAbs : Int) * c = X at *
  generalize (m.natAbs : Int) * d = Y at *
  generalize d * c = q at *
  generalize (n.natAbs : Int) = na at *
  generalize (m.natAbs : Int) = ma at *
  have HSN := Lib.hid hs
  have HSM := Lib.hid hsm
  clear hs hsm
  go_enter Tryz.func24, Tryz.ntmps24
  go_wp2_with fail
  refine (HV.out _).mono ?_
  rintro e w1 ⟨rfl, hu1⟩
  try unfold got2
  have c1_0 := hu1.keep (w.heap.size) (0) (.int .i64 n) (by simp [go_sem, *])
  have c1_1 := hu1.keep (w.heap.size) (1) (.int .i64 d) (by simp [go_sem, *])
  have c1_2 := hu1.keep (w.heap.size + 1) (0) (.int .i64 m) (by simp [go_sem, *])
  have c1_3 := hu1.keep (w.heap.size + 1) (1) (.int .i64 c) (by simp [go_sem, *])
  have c1_4 := hu1.keep (w.heap.size + 1 + 1) (0) (.int .i64 0) (by simp [go_sem, *])
  have c1_5 := hu1.keep (w.heap.size + 1 + 1) (1) (.int .i64 0) (by simp [go_sem, *])
  have l1_0 : w.heap.size < w1.heap.size := World.block_lt_of_cell? _ _ c1_0
  have m1_0 : w.heap.size < w1.heap.size + 1 := by omega
  have n1_0 : w.heap.size < w1.heap.size + 1 + 1 := by omega
  have x1_0 : ¬ w1.heap.size = w.heap.size := by omega
  have y1_0 : ¬ w1.heap.size + 1 = w.heap.size := by omega
  have l1_1 : w.heap.size + 1 < w1.heap.size := World.block_lt_of_cell? _ _ c1_2
  have m1_1 : w.heap.size + 1 < w1.heap.size + 1 := by omega
  have n1_1 : w.heap.size + 1 < w1.heap.size + 1 + 1 := by omega
  have x1_1 : ¬ w1.heap.size = w.heap.size + 1 := by omega
  have y1_1 : ¬ w1.heap.size + 1 = w.heap.size + 1 := by omega
  have l1_2 : w.heap.size + 1 + 1 < w1.heap.size := World.block_lt_of_cell? _ _ c1_4
  have m1_2 : w.heap.size + 1 + 1 < w1.heap.size + 1 := by omega
  have n1_2 : w.heap.size + 1 + 1 < w1.heap.size + 1 + 1 := by omega
  have x1_2 : ¬ w1.heap.size = w.heap.size + 1 + 1 := by omega
  have y1_2 : ¬ w1.heap.size + 1 = w.heap.size + 1 + 1 := by omega
  have HU1 : Hid (Up w w1) := Lib.hid (by ((repeat (first | (with_reducible exact Up.refl _) | (with_reducible refine Up.trans ?_ hu1) | (with_reducible refine Up.alloc ?_ _ _) | (with_reducible refine Up.setCell ?_ ?_ _) | (with_reducible refine Up.drewN ?_ _) | (with_reducible refine Up.drew ?_))); all_goals (first | (simp; done) | (simp; omega) | omega)))
  clear hu1
  go_wp2_with fail
  refine (HW.out _).mono ?_
  rintro e w2 ⟨rfl, hu2⟩
  try unfold got2
  have c2_0 := hu2.keep (w.heap.size) (0) (.int .i64 n) (by simp [go_sem, *])
  have c2_1 := hu2.keep (w.heap.size) (1) (.int .i64 d) (by simp [go_sem, *])
  have c2_2 := hu2.keep (w.heap.size + 1) (0) (.int .i64 m) (by simp [go_sem, *])
  have c2_3 := hu2.keep (w.heap.size + 1) (1) (.int .i64 c) (by simp [go_sem, *])
  have c2_4 := hu2.keep (w.heap.size + 1 + 1) (0) (.int .i64 0) (by simp [go_sem, *])
  have c2_5 := hu2.keep (w.heap.size + 1 + 1) (1) (.int .i64 0) (by simp [go_sem, *])
  have l2_0 : w.heap.size < w2.heap.size := World.block_lt_of_cell? _ _ c2_0
  have m2_0 : w.heap.size < w2.heap.size + 1 := by omega
  have n2_0 : w.heap.size < w2.heap.size + 1 + 1 := by omega
  have x2_0 : ¬ w2.heap.size = w.heap.size := by omega
  have y2_0 : ¬ w2.heap.size + 1 = w.heap.size := by omega
  have l2_1 : w.heap.size + 1 < w2.heap.size := World.block_lt_of_cell? _ _ c2_2
  have m2_1 : w.heap.size + 1 < w2.heap.size + 1 := by omega
  have n2_1 : w.heap.size + 1 < w2.heap.size + 1 + 1 := by omega
  have x2_1 : ¬ w2.heap.size = w.heap.size + 1 := by omega
  have y2_1 : ¬ w2.heap.size + 1 = w.heap.size + 1 := by omega
  have l2_2 : w.heap.size + 1 + 1 < w2.heap.size := World.block_lt_of_cell? _ _ c2_4
  have m2_2 : w.heap.size + 1 + 1 < w2.heap.size + 1 := by omega
  have n2_2 : w.heap.size + 1 + 1 < w2.heap.size + 1 + 1 := by omega
  have x2_2 : ¬ w2.heap.size = w.heap.size + 1 + 1 := by omega
  have y2_2 : ¬ w2.heap.size + 1 = w.heap.size + 1 + 1 := by omega
  have HU2 : Hid (Up w w2) := Lib.hid (by ((repeat (first | (with_reducible exact Up.refl _) | (with_reducible exact HU1.out) | (with_reducible refine Up.trans ?_ hu2) | (with_reducible refine Up.alloc ?_ _ _) | (with_reducible refine Up.setCell ?_ ?_ _) | (with_reducible refine Up.drewN ?_ _) | (with_reducible refine Up.drew ?_))); all_goals (first | (simp; done) | (simp; omega) | omega)))
  clear hu2 c1_0 c1_1 c1_2 c1_3 c1_4 c1_5
  go_upto_region 3 with fail
  go_cut [8, 9] (fun t8 t9 wx => ∃ g k : Nat, w.heap.size + 2 < g ∧ w.heap.size + 2 < k ∧ t8 = .pointer (some ⟨g, 0, none⟩) ∧ t9 = .pointer (some ⟨k, 0, none⟩) ∧ wx.cell? ⟨g, 0, none⟩ = some (.int .u64 (hiZ X)) ∧ wx.cell? ⟨g, 1, none⟩ = some (.int .u64 (loZ X)) ∧ wx.cell? ⟨k, 0, none⟩ = some (.int .u64 (hiZ Y)) ∧ wx.cell? ⟨k, 1, none⟩ = some (.int .u64 (loZ Y)) ∧ Up w wx ∧ wx.cell? ⟨w.heap.size, 0, none⟩ = some (.int .i64 n) ∧ wx.cell? ⟨w.heap.size, 1, none⟩ = some (.int .i64 d) ∧ wx.cell? ⟨w.heap.size + 1, 0, none⟩ = some (.int .i64 m) ∧ wx.cell? ⟨w.heap.size + 1, 1, none⟩ = some (.int .i64 c) ∧ wx.cell? ⟨w.heap.size + 1 + 1, 0, none⟩ = some (.int .i64 0) ∧ wx.cell? ⟨w.heap.size + 1 + 1, 1, none⟩ = some (.int .i64 0))
  case first =>
    go_region_held3 (fun w' => Up w w' ∧ w'.cell? ⟨w.heap.size, 0, none⟩ = some (.int .i64 n) ∧ w'.cell? ⟨w.heap.size, 1, none⟩ = some (.int .i64 d) ∧ w'.cell? ⟨w.heap.size + 1, 0, none⟩ = some (.int .i64 m) ∧ w'.cell? ⟨w.heap.size + 1, 1, none⟩ = some (.int .i64 c) ∧ w'.cell? ⟨w.heap.size + 1 + 1, 0, none⟩ = some (.int .i64 0) ∧ w'.cell? ⟨w.heap.size + 1 + 1, 1, none⟩ = some (.int .i64 0))
      (first | (with_reducible exact keep6 (by assumption) (by assumption)) | (exact ⟨HU2.out.drew, c2_0, c2_1, c2_2, c2_3, c2_4, c2_5⟩) | (repeat (first | (with_reducible assumption) | (with_reducible exact ⟨HU2.out, c2_0, c2_1, c2_2, c2_3, c2_4, c2_5⟩) | (with_reducible exact Hid.out (by assumption)) | (with_reducible refine alloc6 ?_) | (with_reducible refine drew6 ?_) | (with_reducible refine set6 ?_ (by omega) (by omega) (by omega) (by omega) (by omega) (by omega) (by omega)))))
      (first
        | (go_at_call 45; (with_reducible refine (HNa.out _).mono ?_); rintro e w' ⟨rfl, rfl⟩)
        | (go_at_call 45; (with_reducible refine (HMa.out _).mono ?_); rintro e w' ⟨rfl, rfl⟩)
        | (go_at_call 44; (with_reducible refine (HX.out _).mono ?_); rintro e w3 ⟨rfl, hu3⟩; have HU3 := Lib.hid hu3; have HS3 := Lib.hid (keep6 HU3 (by assumption)); obtain ⟨hc3, hz3⟩ := hu3.cells; have hs3 := hu3.size; (try simp at hs3); clear hu3; (try unfold got2); (try (have p3_0 : w.heap.size < w3.heap.size := by omega)); (try (have p3_1 : w.heap.size + 1 < w3.heap.size := by omega)); (try (have p3_2 : w.heap.size + 1 + 1 < w3.heap.size := by omega)); (try (have q3_0_0 : w2.heap.size < w3.heap.size := by omega)); (try (have q3_0_1 : w2.heap.size < w3.heap.size + 1 := by omega)); (try (have q3_0_2 : w2.heap.size < w3.heap.size + 1 + 1 := by omega)); (try (have y3_0 : ¬ w3.heap.size = w2.heap.size := by omega)); (try (have z3_0 : ¬ w3.heap.size + 1 = w2.heap.size := by omega)); (try (have q3_1_0 : w2.heap.size + 1 < w3.heap.size := by omega)); (try (have q3_1_1 : w2.heap.size + 1 < w3.heap.size + 1 := by omega)); (try (have q3_1_2 : w2.heap.size + 1 < w3.heap.size + 1 + 1 := by omega)); (try (have y3_1 : ¬ w3.heap.size = w2.heap.size + 1 := by omega)); (try (have z3_1 : ¬ w3.heap.size + 1 = w2.heap.size + 1 := by omega)))
        | (go_at_call 44; (with_reducible refine (HY.out _).mono ?_); rintro e w4 ⟨rfl, hu4⟩; have HU4 := Lib.hid hu4; have HS4 := Lib.hid (keep6 HU4 (by assumption)); obtain ⟨hc4, hz4⟩ := hu4.cells; have hs4 := hu4.size; (try simp at hs4); clear hu4; (try unfold got2); (try (have p4_0 : w.heap.size < w4.heap.size := by omega)); (try (have p4_1 : w.heap.size + 1 < w4.heap.size := by omega)); (try (have p4_2 : w.heap.size + 1 + 1 < w4.heap.size := by omega)); (try (have q4_0_0 : w2.heap.size < w4.heap.size := by omega)); (try (have q4_0_1 : w2.heap.size < w4.heap.size + 1 := by omega)); (try (have q4_0_2 : w2.heap.size < w4.heap.size + 1 + 1 := by omega)); (try (have y4_0 : ¬ w4.heap.size = w2.heap.size := by omega)); (try (have z4_0 : ¬ w4.heap.size + 1 = w2.heap.size := by omega)); (try (have q4_1_0 : w2.heap.size + 1 < w4.heap.size := by omega)); (try (have q4_1_1 : w2.heap.size + 1 < w4.heap.size + 1 := by omega)); (try (have q4_1_2 : w2.heap.size + 1 < w4.heap.size + 1 + 1 := by omega)); (try (have y4_1 : ¬ w4.heap.size = w2.heap.size + 1 := by omega)); (try (have z4_1 : ¬ w4.heap.size + 1 = w2.heap.size + 1 := by omega)); (try (have q4_2_0 : w3.heap.size < w4.heap.size := by omega)); (try (have q4_2_1 : w3.heap.size < w4.heap.size + 1 := by omega)); (try (have q4_2_2 : w3.heap.size < w4.heap.size + 1 + 1 := by omega)); (try (have y4_2 : ¬ w4.heap.size = w3.heap.size := by omega)); (try (have z4_2 : ¬ w4.heap.size + 1 = w3.heap.size := by omega)); (try (have q4_3_0 : w3.heap.size + 1 < w4.heap.size := by omega)); (try (have q4_3_1 : w3.heap.size + 1 < w4.heap.size + 1 := by omega)); (try (have q4_3_2 : w3.heap.size + 1 < w4.heap.size + 1 + 1 := by omega)); (try (have y4_3 : ¬ w4.heap.size = w3.heap.size + 1 := by omega)); (try (have z4_3 : ¬ w4.heap.size + 1 = w3.heap.size + 1 := by omega)); (try (have zz4 : ¬ w3.heap.size = w2.heap.size := by omega)))
        )
    all_goals
      go_wp2_with fail
      go_meet
      refine ⟨_, _, ?_, ?_, rfl, rfl, ?_, ?_, ?_, ?_, by assumption⟩
      · omega
      · omega
      all_goals ((have q2 : w2.heap.size < w2.heap.size + 1 + 1 := by omega); (have q3 : w3.heap.size < w3.heap.size + 1 + 1 := by omega); simp [go_sem, *]; done)
  obtain ⟨g, k, lg, lk, rfl, rfl, g0, g1, k0, k1, hup, a0, a1, b0, b1, r0, r1⟩ := hcut
  have HUP := Lib.hid hup
  clear hup
  go_upto_region 4 with fail
  go_cut [10, 11] (fun t10 t11 wx => t10 = .bool s ∧ t11 = .bool t ∧ Up w wx ∧ wx.cell? ⟨g, 0, none⟩ = some (.int .u64 (hiZ X)) ∧ wx.cell? ⟨g, 1, none⟩ = some (.int .u64 (loZ X)) ∧ wx.cell? ⟨k, 0, none⟩ = some (.int .u64 (hiZ Y)) ∧ wx.cell? ⟨k, 1, none⟩ = some (.int .u64 (loZ Y)) ∧ wx.cell? ⟨w.heap.size, 0, none⟩ = some (.int .i64 n) ∧ wx.cell? ⟨w.heap.size, 1, none⟩ = some (.int .i64 d) ∧ wx.cell? ⟨w.heap.size + 1, 0, none⟩ = some (.int .i64 m) ∧ wx.cell? ⟨w.heap.size + 1, 1, none⟩ = some (.int .i64 c) ∧ wx.cell? ⟨w.heap.size + 1 + 1, 0, none⟩ = some (.int .i64 0) ∧ wx.cell? ⟨w.heap.size + 1 + 1, 1, none⟩ = some (.int .i64 0))
  case first =>
    have hs := HSN.out
    have hsm := HSM.out
    have ht := HT.out
    cases s <;> cases sm <;> cases mi
    all_goals
      subst ht
      go_quiet (fail)
      go_wp2_with fail
      go_meet
      refine ⟨rfl, rfl, HUP.out.drewN _, ?_, ?_, ?_, ?_, ?_, ?_, ?_, ?_, ?_, ?_⟩
      all_goals (simp [go_sem, *]; done)
  clear g0 g1 k0 k1 a0 a1 b0 b1 r0 r1 HUP
  obtain ⟨rfl, rfl, hup, g0, g1, k0, k1, a0, a1, b0, b1, r0, r1⟩ := hcut
  have HU4 := Lib.hid hup
  clear hup
  cases s <;> cases t
  · have HA := Lib.hid (fun W => radd_v X Y iX iY iS W)
    have HI := Lib.hid iS
    have ev : sz false (X + Y) = P := by have h := HP.out; simp only [sz_false] at h ⊢; omega
    clear iX iY iS
    generalize X + Y = v at *
    have HE := Lib.hid ev
    clear ev
    go_wp2_with fail
    refine (HQ.out _).mono ?_
    rintro e w5 ⟨rfl, hu5⟩
    try unfold got2
    have c5_0 := hu5.keep (w.heap.size + 1 + 1) (0) (.int .i64 0) (by simp [go_sem, *])
    have c5_1 := hu5.keep (w.heap.size + 1 + 1) (1) (.int .i64 0) (by simp [go_sem, *])
    have c5_2 := hu5.keep (g) (0) (.int .u64 (hiZ X)) (by simp [go_sem, *])
    have c5_3 := hu5.keep (g) (1) (.int .u64 (loZ X)) (by simp [go_sem, *])
    have c5_4 := hu5.keep (k) (0) (.int .u64 (hiZ Y)) (by simp [go_sem, *])
    have c5_5 := hu5.keep (k) (1) (.int .u64 (loZ Y)) (by simp [go_sem, *])
    have l5_0 : w.heap.size + 1 + 1 < w5.heap.size := World.block_lt_of_cell? _ _ c5_0
    have m5_0 : w.heap.size + 1 + 1 < w5.heap.size + 1 := by omega
    have n5_0 : w.heap.size + 1 + 1 < w5.heap.size + 1 + 1 := by omega
    have x5_0 : ¬ w5.heap.size = w.heap.size + 1 + 1 := by omega
    have y5_0 : ¬ w5.heap.size + 1 = w.heap.size + 1 + 1 := by omega
    have l5_1 : g < w5.heap.size := World.block_lt_of_cell? _ _ c5_2
    have m5_1 : g < w5.heap.size + 1 := by omega
    have n5_1 : g < w5.heap.size + 1 + 1 := by omega
    have x5_1 : ¬ w5.heap.size = g := by omega
    have y5_1 : ¬ w5.heap.size + 1 = g := by omega
    have l5_2 : k < w5.heap.size := World.block_lt_of_cell? _ _ c5_4
    have m5_2 : k < w5.heap.size + 1 := by omega
    have n5_2 : k < w5.heap.size + 1 + 1 := by omega
    have x5_2 : ¬ w5.heap.size = k := by omega
    have y5_2 : ¬ w5.heap.size + 1 = k := by omega
    have HU5 : Hid (Up w w5) := Lib.hid (by ((repeat (first | (with_reducible exact Up.refl _) | (with_reducible exact HU4.out) | (with_reducible refine Up.trans ?_ hu5) | (with_reducible refine Up.alloc ?_ _ _) | (with_reducible refine Up.setCell ?_ ?_ _) | (with_reducible refine Up.drewN ?_ _) | (with_reducible refine Up.drew ?_))); all_goals (first | (simp; done) | (simp; omega) | omega)))
    clear hu5
    go_wp2_with fail
    refine (HA.out _).mono ?_
    rintro e w6 ⟨rfl, hu6⟩
    try unfold got2
    have c6_0 := hu6.keep (w.heap.size + 1 + 1) (0) (.int .i64 0) (by simp [go_sem, *])
    have c6_1 := hu6.keep (w.heap.size + 1 + 1) (1) (.int .i64 0) (by simp [go_sem, *])
    have c6_2 := hu6.keep (w5.heap.size) (0) (.int .u64 (hiZ q)) (by simp [go_sem, *])
    have c6_3 := hu6.keep (w5.heap.size) (1) (.int .u64 (loZ q)) (by simp [go_sem, *])
    have l6_0 : w.heap.size + 1 + 1 < w6.heap.size := World.block_lt_of_cell? _ _ c6_0
    have m6_0 : w.heap.size + 1 + 1 < w6.heap.size + 1 := by omega
    have n6_0 : w.heap.size + 1 + 1 < w6.heap.size + 1 + 1 := by omega
    have x6_0 : ¬ w6.heap.size = w.heap.size + 1 + 1 := by omega
    have y6_0 : ¬ w6.heap.size + 1 = w.heap.size + 1 + 1 := by omega
    have l6_1 : w5.heap.size < w6.heap.size := World.block_lt_of_cell? _ _ c6_2
    have m6_1 : w5.heap.size < w6.heap.size + 1 := by omega
    have n6_1 : w5.heap.size < w6.heap.size + 1 + 1 := by omega
    have x6_1 : ¬ w6.heap.size = w5.heap.size := by omega
    have y6_1 : ¬ w6.heap.size + 1 = w5.heap.size := by omega
    have HU6 : Hid (Up w w6) := Lib.hid (by ((repeat (first | (with_reducible exact Up.refl _) | (with_reducible exact HU5.out) | (with_reducible refine Up.trans ?_ hu6) | (with_reducible refine Up.alloc ?_ _ _) | (with_reducible refine Up.setCell ?_ ?_ _) | (with_reducible refine Up.drewN ?_ _) | (with_reducible refine Up.drew ?_))); all_goals (first | (simp; done) | (simp; omega) | omega)))
    clear hu6 c5_0 c5_1 c5_2 c5_3 c5_4 c5_5
    go_wp2_with fail
    refine wp_region_held_drew (S := fun w' => Up w w' ∧ Res2 w' (w.heap.size + 1 + 1) ∧ w'.cell? ⟨w6.heap.size, 0, none⟩ = some (.int .u64 (hiZ v)) ∧ w'.cell? ⟨w6.heap.size, 1, none⟩ = some (.int .u64 (loZ v)) ∧ w'.cell? ⟨w5.heap.size, 0, none⟩ = some (.int .u64 (hiZ q)) ∧ w'.cell? ⟨w5.heap.size, 1, none⟩ = some (.int .u64 (loZ q))) (by kernel_rfl) ?hB1 (fun hHeld => ?_)
    case hB1 => (first | (with_reducible exact rkeep4 (by assumption) (by assumption)) | ((repeat (first | (with_reducible assumption) | (with_reducible exact Hid.out (by assumption)) | (with_reducible refine rset4_0 ?_ (by omega) (by omega) (by omega) (by omega) (by omega)) | (with_reducible refine rset4_1 ?_ (by omega) (by omega) (by omega) (by omega) (by omega)))); done) | (exact ⟨by ((repeat (first | (with_reducible exact Up.refl _) | (with_reducible exact HU6.out) | (with_reducible refine Up.alloc ?_ _ _) | (with_reducible refine Up.setCell ?_ ?_ _) | (with_reducible refine Up.drewN ?_ _) | (with_reducible refine Up.drew ?_))); all_goals (first | (simp; done) | (simp; omega) | omega)), ⟨0, 0, by simp [go_sem, *], by simp [go_sem, *]⟩, by simp [go_sem, *], by simp [go_sem, *], by simp [go_sem, *], by simp [go_sem, *]⟩))
    refine wpAnyH_take (i := 0) (oi := ⟨_, _, _, _, _, _⟩) (v := ?v2) rfl (by kernel_rfl) (by kernel_rfl) (by kernel_rfl) (fun _ _ _ h => h) (Or.inl ⟨by rfl, ?hy2⟩) (by assumption) ?_
    case hy2 => (intro w hSw; (try dsimp only at hSw); go_simp; (try (with_reducible rfl)))
    (try simp only [Act.put, List.setIfInBounds_toArray, List.set_cons_zero, List.set_cons_succ])
    refine wpAnyH_take (i := 1) (oi := ⟨_, _, _, _, _, _⟩) (v := ?v3) rfl (by kernel_rfl) (by kernel_rfl) (by kernel_rfl) (fun _ _ _ h => h) (Or.inl ⟨by rfl, ?hy3⟩) (by assumption) ?_
    case hy3 => (intro w hSw; (try dsimp only at hSw); go_simp; (try (with_reducible rfl)))
    (try simp only [Act.put, List.setIfInBounds_toArray, List.set_cons_zero, List.set_cons_succ])
    refine wpAnyH_take (i := 2) (oi := ⟨_, _, _, _, _, _⟩) (v := undef) rfl (by kernel_rfl) (by kernel_rfl) (by kernel_rfl) (fun _ _ _ h => h) (Or.inr ⟨by rfl, rfl⟩) (by assumption) ?_
    (try simp only [Act.put, List.setIfInBounds_toArray, List.set_cons_zero, List.set_cons_succ])
    refine wpAnyH_take (i := 3) (oi := ⟨_, _, _, _, _, _⟩) (v := undef) rfl (by kernel_rfl) (by kernel_rfl) (by kernel_rfl) (fun _ _ _ h => h) (Or.inr ⟨by rfl, rfl⟩) (by assumption) ?_
    (try simp only [Act.put, List.setIfInBounds_toArray, List.set_cons_zero, List.set_cons_succ])
    refine wpAnyH_take (i := 4) (oi := ⟨_, _, _, _, _, _⟩) (v := undef) rfl (by kernel_rfl) (by kernel_rfl) (by kernel_rfl) (fun _ _ _ h => h) (Or.inr ⟨by rfl, rfl⟩) (by assumption) ?_
    (try simp only [Act.put, List.setIfInBounds_toArray, List.set_cons_zero, List.set_cons_succ])
    refine wpAnyH_take (i := 5) (oi := ⟨_, _, _, _, _, _⟩) (v := ?v4) rfl (by kernel_rfl) (by kernel_rfl) (by kernel_rfl) (fun _ _ _ h => h) (Or.inl ⟨by rfl, ?hy4⟩) (by assumption) ?_
    case hy4 => (intro w hSw; (try dsimp only at hSw); go_simp; (try (with_reducible rfl)))
    (try simp only [Act.put, List.setIfInBounds_toArray, List.set_cons_zero, List.set_cons_succ])
    refine wpAnyH_take (i := 6) (oi := ⟨_, _, _, _, _, _⟩) (v := ?v5) rfl (by kernel_rfl) (by kernel_rfl) (by kernel_rfl) (fun _ _ _ h => h) (Or.inl ⟨by rfl, ?hy5⟩) (by assumption) ?_
    case hy5 => (intro w hSw; (try dsimp only at hSw); go_simp; (try (with_reducible rfl)))
    (try simp only [Act.put, List.setIfInBounds_toArray, List.set_cons_zero, List.set_cons_succ])
    refine wpAnyH_take (i := 7) (oi := ⟨_, _, _, _, _, _⟩) (v := ?v6) rfl (by kernel_rfl) (by kernel_rfl) (by kernel_rfl) (fun _ _ _ h => h) (Or.inl ⟨by rfl, ?hy6⟩) (by assumption) ?_
    case hy6 => (intro w hSw; (try dsimp only at hSw); go_simp; (try (with_reducible rfl)))
    (try simp only [Act.put, List.setIfInBounds_toArray, List.set_cons_zero, List.set_cons_succ])
    refine wpAnyH_ready (rs := [8]) (by kernel_rfl) (by simp) ?_
    refine AllReadyH.cons (o := ⟨_, _, _, _, _, _⟩) rfl (fun K hK => ?_) AllReadyH.nil
    go_simp
    (go_at_call 47; (with_reducible refine (HR.out _ _ HI.out HE.out _).mono ?_); rintro e wq ⟨rfl, hu⟩; have HU := Lib.hid hu; have HSq := Lib.hid (rkeep4 HU (by assumption)); obtain ⟨r0', r1', k0', k1'⟩ := HSq.out.2.1; have z0 := own2 HSq.out.1 0; have z1 := own2 HSq.out.1 1; clear hu; unfold gotR)
    (try go_wp2_with fail)
    refine hK.out _ _ ?hB7 (fun hHeld => ?_)
    case hB7 => (first | (with_reducible exact rkeep4 (by assumption) (by assumption)) | ((repeat (first | (with_reducible assumption) | (with_reducible exact Hid.out (by assumption)) | (with_reducible refine rset4_0 ?_ (by omega) (by omega) (by omega) (by omega) (by omega)) | (with_reducible refine rset4_1 ?_ (by omega) (by omega) (by omega) (by omega) (by omega)))); done) | (exact ⟨by ((repeat (first | (with_reducible exact Up.refl _) | (with_reducible exact HU6.out) | (with_reducible refine Up.alloc ?_ _ _) | (with_reducible refine Up.setCell ?_ ?_ _) | (with_reducible refine Up.drewN ?_ _) | (with_reducible refine Up.drew ?_))); all_goals (first | (simp; done) | (simp; omega) | omega)), ⟨0, 0, by simp [go_sem, *], by simp [go_sem, *]⟩, by simp [go_sem, *], by simp [go_sem, *], by simp [go_sem, *], by simp [go_sem, *]⟩))
    clear hK K
    (try simp only [Act.put, List.setIfInBounds_toArray, List.set_cons_zero, List.set_cons_succ])
    refine wpAnyH_take (i := 9) (oi := ⟨_, _, _, _, _, _⟩) (v := ?v8) rfl (by kernel_rfl) (by kernel_rfl) (by kernel_rfl) (fun _ _ _ h => h) (Or.inl ⟨by rfl, ?hy8⟩) (by assumption) ?_
    case hy8 => (intro w hSw; (try dsimp only at hSw); go_simp; (try (with_reducible rfl)))
    (try simp only [Act.put, List.setIfInBounds_toArray, List.set_cons_zero, List.set_cons_succ])
    refine wpAnyH_take (i := 10) (oi := ⟨_, _, _, _, _, _⟩) (v := ?v9) rfl (by kernel_rfl) (by kernel_rfl) (by kernel_rfl) (fun _ _ _ h => h) (Or.inl ⟨by rfl, ?hy9⟩) (by assumption) ?_
    case hy9 => (intro w hSw; (try dsimp only at hSw); go_simp; (try (with_reducible rfl)))
    (try simp only [Act.put, List.setIfInBounds_toArray, List.set_cons_zero, List.set_cons_succ])
    refine wpAnyH_ready (rs := [11]) (by kernel_rfl) (by simp) ?_
    refine AllReadyH.cons (o := ⟨_, _, _, _, _, _⟩) rfl (fun K hK => ?_) AllReadyH.nil
    go_simp
    refine hK.out _ _ ?hB10 (fun hHeld => ?_)
    case hB10 => (first | (with_reducible exact rkeep4 (by assumption) (by assumption)) | ((repeat (first | (with_reducible assumption) | (with_reducible exact Hid.out (by assumption)) | (with_reducible refine rset4_0 ?_ (by omega) (by omega) (by omega) (by omega) (by omega)) | (with_reducible refine rset4_1 ?_ (by omega) (by omega) (by omega) (by omega) (by omega)))); done) | (exact ⟨by ((repeat (first | (with_reducible exact Up.refl _) | (with_reducible exact HU6.out) | (with_reducible refine Up.alloc ?_ _ _) | (with_reducible refine Up.setCell ?_ ?_ _) | (with_reducible refine Up.drewN ?_ _) | (with_reducible refine Up.drew ?_))); all_goals (first | (simp; done) | (simp; omega) | omega)), ⟨0, 0, by simp [go_sem, *], by simp [go_sem, *]⟩, by simp [go_sem, *], by simp [go_sem, *], by simp [go_sem, *], by simp [go_sem, *]⟩))
    clear hK K
    (try simp only [Act.put, List.setIfInBounds_toArray, List.set_cons_zero, List.set_cons_succ])
    refine wpAnyH_take (i := 12) (oi := ⟨_, _, _, _, _, _⟩) (v := ?v11) rfl (by kernel_rfl) (by kernel_rfl) (by kernel_rfl) (fun _ _ _ h => h) (Or.inl ⟨by rfl, ?hy11⟩) (by assumption) ?_
    case hy11 => (intro w hSw; (try dsimp only at hSw); go_simp; (try (with_reducible rfl)))
    (try simp only [Act.put, List.setIfInBounds_toArray, List.set_cons_zero, List.set_cons_succ])
    refine wpAnyH_done (by kernel_rfl) ?_ _
    all_goals
      go_wp2_with fail
      refine bodyPost_ret (v := .tuple #[.agg #[.int .i64 N, .int .i64 D], .bool B]) (by simp [results, Tryz.results24, go_sem, k0', k1']) rfl ⟨?_, ?_⟩
      · rfl
      · exact And.left (by assumption)
  · have HC := Lib.hid (fun W => rcompare_v X Y iX iY W)
    by_cases hl : Y ≤ X
    · have tc : decide (0 ≤ cmpZ X Y) = true := decide_eq_true (by unfold cmpZ; (repeat' split) <;> omega)
      have iv : In2 (X - Y) := by unfold In2 at *; omega
      have HD := Lib.hid (fun W => rsub_v X Y iX iY iv W)
      have HI := Lib.hid iv
      have ev : sz false (X - Y) = P := by have h := HP.out; simp only [sz_true, sz_false] at h ⊢; omega
      clear iX iY iS iv hl
      generalize X - Y = v at *
      generalize cmpZ X Y = cz at *
      have HE := Lib.hid ev
      clear ev
      go_wp2_with fail
      refine (HQ.out _).mono ?_
      rintro e w5 ⟨rfl, hu5⟩
      try unfold got2
      have c5_0 := hu5.keep (w.heap.size + 1 + 1) (0) (.int .i64 0) (by simp [go_sem, *])
      have c5_1 := hu5.keep (w.heap.size + 1 + 1) (1) (.int .i64 0) (by simp [go_sem, *])
      have c5_2 := hu5.keep (g) (0) (.int .u64 (hiZ X)) (by simp [go_sem, *])
      have c5_3 := hu5.keep (g) (1) (.int .u64 (loZ X)) (by simp [go_sem, *])
      have c5_4 := hu5.keep (k) (0) (.int .u64 (hiZ Y)) (by simp [go_sem, *])
      have c5_5 := hu5.keep (k) (1) (.int .u64 (loZ Y)) (by simp [go_sem, *])
      have l5_0 : w.heap.size + 1 + 1 < w5.heap.size := World.block_lt_of_cell? _ _ c5_0
      have m5_0 : w.heap.size + 1 + 1 < w5.heap.size + 1 := by omega
      have n5_0 : w.heap.size + 1 + 1 < w5.heap.size + 1 + 1 := by omega
      have x5_0 : ¬ w5.heap.size = w.heap.size + 1 + 1 := by omega
      have y5_0 : ¬ w5.heap.size + 1 = w.heap.size + 1 + 1 := by omega
      have l5_1 : g < w5.heap.size := World.block_lt_of_cell? _ _ c5_2
      have m5_1 : g < w5.heap.size + 1 := by omega
      have n5_1 : g < w5.heap.size + 1 + 1 := by omega
      have x5_1 : ¬ w5.heap.size = g := by omega
      have y5_1 : ¬ w5.heap.size + 1 = g := by omega
      have l5_2 : k < w5.heap.size := World.block_lt_of_cell? _ _ c5_4
      have m5_2 : k < w5.heap.size + 1 := by omega
      have n5_2 : k < w5.heap.size + 1 + 1 := by omega
      have x5_2 : ¬ w5.heap.size = k := by omega
      have y5_2 : ¬ w5.heap.size + 1 = k := by omega
      have HU5 : Hid (Up w w5) := Lib.hid (by ((repeat (first | (with_reducible exact Up.refl _) | (with_reducible exact HU4.out) | (with_reducible refine Up.trans ?_ hu5) | (with_reducible refine Up.alloc ?_ _ _) | (with_reducible refine Up.setCell ?_ ?_ _) | (with_reducible refine Up.drewN ?_ _) | (with_reducible refine Up.drew ?_))); all_goals (first | (simp; done) | (simp; omega) | omega)))
      clear hu5
      go_wp2_with fail
      refine (HC.out _).mono ?_
      rintro e w6 ⟨rfl, hu6⟩
      try unfold got2
      have c6_0 := hu6.keep (w.heap.size + 1 + 1) (0) (.int .i64 0) (by simp [go_sem, *])
      have c6_1 := hu6.keep (w.heap.size + 1 + 1) (1) (.int .i64 0) (by simp [go_sem, *])
      have c6_2 := hu6.keep (g) (0) (.int .u64 (hiZ X)) (by simp [go_sem, *])
      have c6_3 := hu6.keep (g) (1) (.int .u64 (loZ X)) (by simp [go_sem, *])
      have c6_4 := hu6.keep (k) (0) (.int .u64 (hiZ Y)) (by simp [go_sem, *])
      have c6_5 := hu6.keep (k) (1) (.int .u64 (loZ Y)) (by simp [go_sem, *])
      have c6_6 := hu6.keep (w5.heap.size) (0) (.int .u64 (hiZ q)) (by simp [go_sem, *])
      have c6_7 := hu6.keep (w5.heap.size) (1) (.int .u64 (loZ q)) (by simp [go_sem, *])
      have l6_0 : w.heap.size + 1 + 1 < w6.heap.size := World.block_lt_of_cell? _ _ c6_0
      have m6_0 : w.heap.size + 1 + 1 < w6.heap.size + 1 := by omega
      have n6_0 : w.heap.size + 1 + 1 < w6.heap.size + 1 + 1 := by omega
      have x6_0 : ¬ w6.heap.size = w.heap.size + 1 + 1 := by omega
      have y6_0 : ¬ w6.heap.size + 1 = w.heap.size + 1 + 1 := by omega
      have l6_1 : g < w6.heap.size := World.block_lt_of_cell? _ _ c6_2
      have m6_1 : g < w6.heap.size + 1 := by omega
      have n6_1 : g < w6.heap.size + 1 + 1 := by omega
      have x6_1 : ¬ w6.heap.size = g := by omega
      have y6_1 : ¬ w6.heap.size + 1 = g := by omega
      have l6_2 : k < w6.heap.size := World.block_lt_of_cell? _ _ c6_4
      have m6_2 : k < w6.heap.size + 1 := by omega
      have n6_2 : k < w6.heap.size + 1 + 1 := by omega
      have x6_2 : ¬ w6.heap.size = k := by omega
      have y6_2 : ¬ w6.heap.size + 1 = k := by omega
      have l6_3 : w5.heap.size < w6.heap.size := World.block_lt_of_cell? _ _ c6_6
      have m6_3 : w5.heap.size < w6.heap.size + 1 := by omega
      have n6_3 : w5.heap.size < w6.heap.size + 1 + 1 := by omega
      have x6_3 : ¬ w6.heap.size = w5.heap.size := by omega
      have y6_3 : ¬ w6.heap.size + 1 = w5.heap.size := by omega
      have HU6 : Hid (Up w w6) := Lib.hid (by ((repeat (first | (with_reducible exact Up.refl _) | (with_reducible exact HU5.out) | (with_reducible refine Up.trans ?_ hu6) | (with_reducible refine Up.alloc ?_ _ _) | (with_reducible refine Up.setCell ?_ ?_ _) | (with_reducible refine Up.drewN ?_ _) | (with_reducible refine Up.drew ?_))); all_goals (first | (simp; done) | (simp; omega) | omega)))
      clear hu6 c5_0 c5_1 c5_2 c5_3 c5_4 c5_5
      go_wp2_with fail
      refine (HD.out _).mono ?_
      rintro e w7 ⟨rfl, hu7⟩
      try unfold got2
      have c7_0 := hu7.keep (w.heap.size + 1 + 1) (0) (.int .i64 0) (by simp [go_sem, *])
      have c7_1 := hu7.keep (w.heap.size + 1 + 1) (1) (.int .i64 0) (by simp [go_sem, *])
      have c7_2 := hu7.keep (w5.heap.size) (0) (.int .u64 (hiZ q)) (by simp [go_sem, *])
      have c7_3 := hu7.keep (w5.heap.size) (1) (.int .u64 (loZ q)) (by simp [go_sem, *])
      have l7_0 : w.heap.size + 1 + 1 < w7.heap.size := World.block_lt_of_cell? _ _ c7_0
      have m7_0 : w.heap.size + 1 + 1 < w7.heap.size + 1 := by omega
      have n7_0 : w.heap.size + 1 + 1 < w7.heap.size + 1 + 1 := by omega
      have x7_0 : ¬ w7.heap.size = w.heap.size + 1 + 1 := by omega
      have y7_0 : ¬ w7.heap.size + 1 = w.heap.size + 1 + 1 := by omega
      have l7_1 : w5.heap.size < w7.heap.size := World.block_lt_of_cell? _ _ c7_2
      have m7_1 : w5.heap.size < w7.heap.size + 1 := by omega
      have n7_1 : w5.heap.size < w7.heap.size + 1 + 1 := by omega
      have x7_1 : ¬ w7.heap.size = w5.heap.size := by omega
      have y7_1 : ¬ w7.heap.size + 1 = w5.heap.size := by omega
      have HU7 : Hid (Up w w7) := Lib.hid (by ((repeat (first | (with_reducible exact Up.refl _) | (with_reducible exact HU6.out) | (with_reducible refine Up.trans ?_ hu7) | (with_reducible refine Up.alloc ?_ _ _) | (with_reducible refine Up.setCell ?_ ?_ _) | (with_reducible refine Up.drewN ?_ _) | (with_reducible refine Up.drew ?_))); all_goals (first | (simp; done) | (simp; omega) | omega)))
      clear hu7 c6_0 c6_1 c6_2 c6_3 c6_4 c6_5 c6_6 c6_7
      go_wp2_with fail
      refine wp_region_held_drew (S := fun w' => Up w w' ∧ Res2 w' (w.heap.size + 1 + 1) ∧ w'.cell? ⟨w7.heap.size, 0, none⟩ = some (.int .u64 (hiZ v)) ∧ w'.cell? ⟨w7.heap.size, 1, none⟩ = some (.int .u64 (loZ v)) ∧ w'.cell? ⟨w5.heap.size, 0, none⟩ = some (.int .u64 (hiZ q)) ∧ w'.cell? ⟨w5.heap.size, 1, none⟩ = some (.int .u64 (loZ q))) (by kernel_rfl) ?hB12 (fun hHeld => ?_)
      case hB12 => (first | (with_reducible exact rkeep4 (by assumption) (by assumption)) | ((repeat (first | (with_reducible assumption) | (with_reducible exact Hid.out (by assumption)) | (with_reducible refine rset4_0 ?_ (by omega) (by omega) (by omega) (by omega) (by omega)) | (with_reducible refine rset4_1 ?_ (by omega) (by omega) (by omega) (by omega) (by omega)))); done) | (exact ⟨by ((repeat (first | (with_reducible exact Up.refl _) | (with_reducible exact HU7.out) | (with_reducible refine Up.alloc ?_ _ _) | (with_reducible refine Up.setCell ?_ ?_ _) | (with_reducible refine Up.drewN ?_ _) | (with_reducible refine Up.drew ?_))); all_goals (first | (simp; done) | (simp; omega) | omega)), ⟨0, 0, by simp [go_sem, *], by simp [go_sem, *]⟩, by simp [go_sem, *], by simp [go_sem, *], by simp [go_sem, *], by simp [go_sem, *]⟩))
      refine wpAnyH_take (i := 0) (oi := ⟨_, _, _, _, _, _⟩) (v := ?v13) rfl (by kernel_rfl) (by kernel_rfl) (by kernel_rfl) (fun _ _ _ h => h) (Or.inl ⟨by rfl, ?hy13⟩) (by assumption) ?_
      case hy13 => (intro w hSw; (try dsimp only at hSw); go_simp; (try (with_reducible rfl)))
      (try simp only [Act.put, List.setIfInBounds_toArray, List.set_cons_zero, List.set_cons_succ])
      refine wpAnyH_take (i := 1) (oi := ⟨_, _, _, _, _, _⟩) (v := ?v14) rfl (by kernel_rfl) (by kernel_rfl) (by kernel_rfl) (fun _ _ _ h => h) (Or.inl ⟨by rfl, ?hy14⟩) (by assumption) ?_
      case hy14 => (intro w hSw; (try dsimp only at hSw); go_simp; (try (with_reducible rfl)))
      (try simp only [Act.put, List.setIfInBounds_toArray, List.set_cons_zero, List.set_cons_succ])
      refine wpAnyH_take (i := 2) (oi := ⟨_, _, _, _, _, _⟩) (v := undef) rfl (by kernel_rfl) (by kernel_rfl) (by kernel_rfl) (fun _ _ _ h => h) (Or.inr ⟨by rfl, rfl⟩) (by assumption) ?_
      (try simp only [Act.put, List.setIfInBounds_toArray, List.set_cons_zero, List.set_cons_succ])
      refine wpAnyH_take (i := 3) (oi := ⟨_, _, _, _, _, _⟩) (v := undef) rfl (by kernel_rfl) (by kernel_rfl) (by kernel_rfl) (fun _ _ _ h => h) (Or.inr ⟨by rfl, rfl⟩) (by assumption) ?_
      (try simp only [Act.put, List.setIfInBounds_toArray, List.set_cons_zero, List.set_cons_succ])
      refine wpAnyH_take (i := 4) (oi := ⟨_, _, _, _, _, _⟩) (v := undef) rfl (by kernel_rfl) (by kernel_rfl) (by kernel_rfl) (fun _ _ _ h => h) (Or.inr ⟨by rfl, rfl⟩) (by assumption) ?_
      (try simp only [Act.put, List.setIfInBounds_toArray, List.set_cons_zero, List.set_cons_succ])
      refine wpAnyH_take (i := 5) (oi := ⟨_, _, _, _, _, _⟩) (v := ?v15) rfl (by kernel_rfl) (by kernel_rfl) (by kernel_rfl) (fun _ _ _ h => h) (Or.inl ⟨by rfl, ?hy15⟩) (by assumption) ?_
      case hy15 => (intro w hSw; (try dsimp only at hSw); go_simp; (try (with_reducible rfl)))
      (try simp only [Act.put, List.setIfInBounds_toArray, List.set_cons_zero, List.set_cons_succ])
      refine wpAnyH_take (i := 6) (oi := ⟨_, _, _, _, _, _⟩) (v := ?v16) rfl (by kernel_rfl) (by kernel_rfl) (by kernel_rfl) (fun _ _ _ h => h) (Or.inl ⟨by rfl, ?hy16⟩) (by assumption) ?_
      case hy16 => (intro w hSw; (try dsimp only at hSw); go_simp; (try (with_reducible rfl)))
      (try simp only [Act.put, List.setIfInBounds_toArray, List.set_cons_zero, List.set_cons_succ])
      refine wpAnyH_take (i := 7) (oi := ⟨_, _, _, _, _, _⟩) (v := ?v17) rfl (by kernel_rfl) (by kernel_rfl) (by kernel_rfl) (fun _ _ _ h => h) (Or.inl ⟨by rfl, ?hy17⟩) (by assumption) ?_
      case hy17 => (intro w hSw; (try dsimp only at hSw); go_simp; (try (with_reducible rfl)))
      (try simp only [Act.put, List.setIfInBounds_toArray, List.set_cons_zero, List.set_cons_succ])
      refine wpAnyH_ready (rs := [8]) (by kernel_rfl) (by simp) ?_
      refine AllReadyH.cons (o := ⟨_, _, _, _, _, _⟩) rfl (fun K hK => ?_) AllReadyH.nil
      go_simp
      (go_at_call 47; (with_reducible refine (HR.out _ _ HI.out HE.out _).mono ?_); rintro e wq ⟨rfl, hu⟩; have HU := Lib.hid hu; have HSq := Lib.hid (rkeep4 HU (by assumption)); obtain ⟨r0', r1', k0', k1'⟩ := HSq.out.2.1; have z0 := own2 HSq.out.1 0; have z1 := own2 HSq.out.1 1; clear hu; unfold gotR)
      (try go_wp2_with fail)
      refine hK.out _ _ ?hB18 (fun hHeld => ?_)
      case hB18 => (first | (with_reducible exact rkeep4 (by assumption) (by assumption)) | ((repeat (first | (with_reducible assumption) | (with_reducible exact Hid.out (by assumption)) | (with_reducible refine rset4_0 ?_ (by omega) (by omega) (by omega) (by omega) (by omega)) | (with_reducible refine rset4_1 ?_ (by omega) (by omega) (by omega) (by omega) (by omega)))); done) | (exact ⟨by ((repeat (first | (with_reducible exact Up.refl _) | (with_reducible exact HU7.out) | (with_reducible refine Up.alloc ?_ _ _) | (with_reducible refine Up.setCell ?_ ?_ _) | (with_reducible refine Up.drewN ?_ _) | (with_reducible refine Up.drew ?_))); all_goals (first | (simp; done) | (simp; omega) | omega)), ⟨0, 0, by simp [go_sem, *], by simp [go_sem, *]⟩, by simp [go_sem, *], by simp [go_sem, *], by simp [go_sem, *], by simp [go_sem, *]⟩))
      clear hK K
      (try simp only [Act.put, List.setIfInBounds_toArray, List.set_cons_zero, List.set_cons_succ])
      refine wpAnyH_take (i := 9) (oi := ⟨_, _, _, _, _, _⟩) (v := ?v19) rfl (by kernel_rfl) (by kernel_rfl) (by kernel_rfl) (fun _ _ _ h => h) (Or.inl ⟨by rfl, ?hy19⟩) (by assumption) ?_
      case hy19 => (intro w hSw; (try dsimp only at hSw); go_simp; (try (with_reducible rfl)))
      (try simp only [Act.put, List.setIfInBounds_toArray, List.set_cons_zero, List.set_cons_succ])
      refine wpAnyH_take (i := 10) (oi := ⟨_, _, _, _, _, _⟩) (v := ?v20) rfl (by kernel_rfl) (by kernel_rfl) (by kernel_rfl) (fun _ _ _ h => h) (Or.inl ⟨by rfl, ?hy20⟩) (by assumption) ?_
      case hy20 => (intro w hSw; (try dsimp only at hSw); go_simp; (try (with_reducible rfl)))
      (try simp only [Act.put, List.setIfInBounds_toArray, List.set_cons_zero, List.set_cons_succ])
      refine wpAnyH_ready (rs := [11]) (by kernel_rfl) (by simp) ?_
      refine AllReadyH.cons (o := ⟨_, _, _, _, _, _⟩) rfl (fun K hK => ?_) AllReadyH.nil
      go_simp
      refine hK.out _ _ ?hB21 (fun hHeld => ?_)
      case hB21 => (first | (with_reducible exact rkeep4 (by assumption) (by assumption)) | ((repeat (first | (with_reducible assumption) | (with_reducible exact Hid.out (by assumption)) | (with_reducible refine rset4_0 ?_ (by omega) (by omega) (by omega) (by omega) (by omega)) | (with_reducible refine rset4_1 ?_ (by omega) (by omega) (by omega) (by omega) (by omega)))); done) | (exact ⟨by ((repeat (first | (with_reducible exact Up.refl _) | (with_reducible exact HU7.out) | (with_reducible refine Up.alloc ?_ _ _) | (with_reducible refine Up.setCell ?_ ?_ _) | (with_reducible refine Up.drewN ?_ _) | (with_reducible refine Up.drew ?_))); all_goals (first | (simp; done) | (simp; omega) | omega)), ⟨0, 0, by simp [go_sem, *], by simp [go_sem, *]⟩, by simp [go_sem, *], by simp [go_sem, *], by simp [go_sem, *], by simp [go_sem, *]⟩))
      clear hK K
      (try simp only [Act.put, List.setIfInBounds_toArray, List.set_cons_zero, List.set_cons_succ])
      refine wpAnyH_take (i := 12) (oi := ⟨_, _, _, _, _, _⟩) (v := ?v22) rfl (by kernel_rfl) (by kernel_rfl) (by kernel_rfl) (fun _ _ _ h => h) (Or.inl ⟨by rfl, ?hy22⟩) (by assumption) ?_
      case hy22 => (intro w hSw; (try dsimp only at hSw); go_simp; (try (with_reducible rfl)))
      (try simp only [Act.put, List.setIfInBounds_toArray, List.set_cons_zero, List.set_cons_succ])
      refine wpAnyH_done (by kernel_rfl) ?_ _
      all_goals
        go_wp2_with fail
        refine bodyPost_ret (v := .tuple #[.agg #[.int .i64 N, .int .i64 D], .bool B]) (by simp [results, Tryz.results24, go_sem, k0', k1']) rfl ⟨?_, ?_⟩
        · rfl
        · exact And.left (by assumption)
    · have tc : decide (0 ≤ cmpZ X Y) = false := decide_eq_false (by unfold cmpZ; (repeat' split) <;> omega)
      have iv : In2 (Y - X) := by unfold In2 at *; omega
      have HD := Lib.hid (fun W => rsub_v Y X iY iX iv W)
      have HI := Lib.hid iv
      have HE := Lib.hid (show sz true (Y - X) = P by have h := HP.out; simp only [sz_true, sz_false] at h ⊢; omega)
      clear iX iY iS iv hl
      generalize Y - X = v at *
      generalize cmpZ X Y = cz at *
      go_wp2_with fail
      refine (HQ.out _).mono ?_
      rintro e w5 ⟨rfl, hu5⟩
      try unfold got2
      have c5_0 := hu5.keep (w.heap.size + 1 + 1) (0) (.int .i64 0) (by simp [go_sem, *])
      have c5_1 := hu5.keep (w.heap.size + 1 + 1) (1) (.int .i64 0) (by simp [go_sem, *])
      have c5_2 := hu5.keep (g) (0) (.int .u64 (hiZ X)) (by simp [go_sem, *])
      have c5_3 := hu5.keep (g) (1) (.int .u64 (loZ X)) (by simp [go_sem, *])
      have c5_4 := hu5.keep (k) (0) (.int .u64 (hiZ Y)) (by simp [go_sem, *])
      have c5_5 := hu5.keep (k) (1) (.int .u64 (loZ Y)) (by simp [go_sem, *])
      have l5_0 : w.heap.size + 1 + 1 < w5.heap.size := World.block_lt_of_cell? _ _ c5_0
      have m5_0 : w.heap.size + 1 + 1 < w5.heap.size + 1 := by omega
      have n5_0 : w.heap.size + 1 + 1 < w5.heap.size + 1 + 1 := by omega
      have x5_0 : ¬ w5.heap.size = w.heap.size + 1 + 1 := by omega
      have y5_0 : ¬ w5.heap.size + 1 = w.heap.size + 1 + 1 := by omega
      have l5_1 : g < w5.heap.size := World.block_lt_of_cell? _ _ c5_2
      have m5_1 : g < w5.heap.size + 1 := by omega
      have n5_1 : g < w5.heap.size + 1 + 1 := by omega
      have x5_1 : ¬ w5.heap.size = g := by omega
      have y5_1 : ¬ w5.heap.size + 1 = g := by omega
      have l5_2 : k < w5.heap.size := World.block_lt_of_cell? _ _ c5_4
      have m5_2 : k < w5.heap.size + 1 := by omega
      have n5_2 : k < w5.heap.size + 1 + 1 := by omega
      have x5_2 : ¬ w5.heap.size = k := by omega
      have y5_2 : ¬ w5.heap.size + 1 = k := by omega
      have HU5 : Hid (Up w w5) := Lib.hid (by ((repeat (first | (with_reducible exact Up.refl _) | (with_reducible exact HU4.out) | (with_reducible refine Up.trans ?_ hu5) | (with_reducible refine Up.alloc ?_ _ _) | (with_reducible refine Up.setCell ?_ ?_ _) | (with_reducible refine Up.drewN ?_ _) | (with_reducible refine Up.drew ?_))); all_goals (first | (simp; done) | (simp; omega) | omega)))
      clear hu5
      go_wp2_with fail
      refine (HC.out _).mono ?_
      rintro e w6 ⟨rfl, hu6⟩
      try unfold got2
      have c6_0 := hu6.keep (w.heap.size + 1 + 1) (0) (.int .i64 0) (by simp [go_sem, *])
      have c6_1 := hu6.keep (w.heap.size + 1 + 1) (1) (.int .i64 0) (by simp [go_sem, *])
      have c6_2 := hu6.keep (g) (0) (.int .u64 (hiZ X)) (by simp [go_sem, *])
      have c6_3 := hu6.keep (g) (1) (.int .u64 (loZ X)) (by simp [go_sem, *])
      have c6_4 := hu6.keep (k) (0) (.int .u64 (hiZ Y)) (by simp [go_sem, *])
      have c6_5 := hu6.keep (k) (1) (.int .u64 (loZ Y)) (by simp [go_sem, *])
      have c6_6 := hu6.keep (w5.heap.size) (0) (.int .u64 (hiZ q)) (by simp [go_sem, *])
      have c6_7 := hu6.keep (w5.heap.size) (1) (.int .u64 (loZ q)) (by simp [go_sem, *])
      have l6_0 : w.heap.size + 1 + 1 < w6.heap.size := World.block_lt_of_cell? _ _ c6_0
      have m6_0 : w.heap.size + 1 + 1 < w6.heap.size + 1 := by omega
      have n6_0 : w.heap.size + 1 + 1 < w6.heap.size + 1 + 1 := by omega
      have x6_0 : ¬ w6.heap.size = w.heap.size + 1 + 1 := by omega
      have y6_0 : ¬ w6.heap.size + 1 = w.heap.size + 1 + 1 := by omega
      have l6_1 : g < w6.heap.size := World.block_lt_of_cell? _ _ c6_2
      have m6_1 : g < w6.heap.size + 1 := by omega
      have n6_1 : g < w6.heap.size + 1 + 1 := by omega
      have x6_1 : ¬ w6.heap.size = g := by omega
      have y6_1 : ¬ w6.heap.size + 1 = g := by omega
      have l6_2 : k < w6.heap.size := World.block_lt_of_cell? _ _ c6_4
      have m6_2 : k < w6.heap.size + 1 := by omega
      have n6_2 : k < w6.heap.size + 1 + 1 := by omega
      have x6_2 : ¬ w6.heap.size = k := by omega
      have y6_2 : ¬ w6.heap.size + 1 = k := by omega
      have l6_3 : w5.heap.size < w6.heap.size := World.block_lt_of_cell? _ _ c6_6
      have m6_3 : w5.heap.size < w6.heap.size + 1 := by omega
      have n6_3 : w5.heap.size < w6.heap.size + 1 + 1 := by omega
      have x6_3 : ¬ w6.heap.size = w5.heap.size := by omega
      have y6_3 : ¬ w6.heap.size + 1 = w5.heap.size := by omega
      have HU6 : Hid (Up w w6) := Lib.hid (by ((repeat (first | (with_reducible exact Up.refl _) | (with_reducible exact HU5.out) | (with_reducible refine Up.trans ?_ hu6) | (with_reducible refine Up.alloc ?_ _ _) | (with_reducible refine Up.setCell ?_ ?_ _) | (with_reducible refine Up.drewN ?_ _) | (with_reducible refine Up.drew ?_))); all_goals (first | (simp; done) | (simp; omega) | omega)))
      clear hu6 c5_0 c5_1 c5_2 c5_3 c5_4 c5_5
      go_wp2_with fail
      refine (HD.out _).mono ?_
      rintro e w7 ⟨rfl, hu7⟩
      try unfold got2
      have c7_0 := hu7.keep (w.heap.size + 1 + 1) (0) (.int .i64 0) (by simp [go_sem, *])
      have c7_1 := hu7.keep (w.heap.size + 1 + 1) (1) (.int .i64 0) (by simp [go_sem, *])
      have c7_2 := hu7.keep (w5.heap.size) (0) (.int .u64 (hiZ q)) (by simp [go_sem, *])
      have c7_3 := hu7.keep (w5.heap.size) (1) (.int .u64 (loZ q)) (by simp [go_sem, *])
      have l7_0 : w.heap.size + 1 + 1 < w7.heap.size := World.block_lt_of_cell? _ _ c7_0
      have m7_0 : w.heap.size + 1 + 1 < w7.heap.size + 1 := by omega
      have n7_0 : w.heap.size + 1 + 1 < w7.heap.size + 1 + 1 := by omega
      have x7_0 : ¬ w7.heap.size = w.heap.size + 1 + 1 := by omega
      have y7_0 : ¬ w7.heap.size + 1 = w.heap.size + 1 + 1 := by omega
      have l7_1 : w5.heap.size < w7.heap.size := World.block_lt_of_cell? _ _ c7_2
      have m7_1 : w5.heap.size < w7.heap.size + 1 := by omega
      have n7_1 : w5.heap.size < w7.heap.size + 1 + 1 := by omega
      have x7_1 : ¬ w7.heap.size = w5.heap.size := by omega
      have y7_1 : ¬ w7.heap.size + 1 = w5.heap.size := by omega
      have HU7 : Hid (Up w w7) := Lib.hid (by ((repeat (first | (with_reducible exact Up.refl _) | (with_reducible exact HU6.out) | (with_reducible refine Up.trans ?_ hu7) | (with_reducible refine Up.alloc ?_ _ _) | (with_reducible refine Up.setCell ?_ ?_ _) | (with_reducible refine Up.drewN ?_ _) | (with_reducible refine Up.drew ?_))); all_goals (first | (simp; done) | (simp; omega) | omega)))
      clear hu7 c6_0 c6_1 c6_2 c6_3 c6_4 c6_5 c6_6 c6_7
      go_wp2_with fail
      refine (HR.out _ _ HI.out HE.out _).mono ?_
      rintro e w8 ⟨rfl, hu8⟩
      try unfold got2
      have c8_0 := hu8.keep (w.heap.size + 1 + 1) (0) (.int .i64 0) (by simp [go_sem, *])
      have c8_1 := hu8.keep (w.heap.size + 1 + 1) (1) (.int .i64 0) (by simp [go_sem, *])
      have l8_0 : w.heap.size + 1 + 1 < w8.heap.size := World.block_lt_of_cell? _ _ c8_0
      have m8_0 : w.heap.size + 1 + 1 < w8.heap.size + 1 := by omega
      have n8_0 : w.heap.size + 1 + 1 < w8.heap.size + 1 + 1 := by omega
      have x8_0 : ¬ w8.heap.size = w.heap.size + 1 + 1 := by omega
      have y8_0 : ¬ w8.heap.size + 1 = w.heap.size + 1 + 1 := by omega
      have HU8 : Hid (Up w w8) := Lib.hid (by ((repeat (first | (with_reducible exact Up.refl _) | (with_reducible exact HU7.out) | (with_reducible refine Up.trans ?_ hu8) | (with_reducible refine Up.alloc ?_ _ _) | (with_reducible refine Up.setCell ?_ ?_ _) | (with_reducible refine Up.drewN ?_ _) | (with_reducible refine Up.drew ?_))); all_goals (first | (simp; done) | (simp; omega) | omega)))
      clear hu8 c7_0 c7_1 c7_2 c7_3
      unfold gotR
      have z0 := own2 HU8.out 0
      have z1 := own2 HU8.out 1
      go_wp2_with fail
      refine bodyPost_ret (v := .tuple #[.agg #[.int .i64 N, .int .i64 D], .bool B]) (by simp [results, Tryz.results24, go_sem, c8_0, c8_1]) rfl ⟨?_, ?_⟩
      · rfl
      · ((repeat (first | (with_reducible exact Up.refl _) | (with_reducible exact HU8.out) | (with_reducible refine Up.alloc ?_ _ _) | (with_reducible refine Up.setCell ?_ ?_ _) | (with_reducible refine Up.drewN ?_ _) | (with_reducible refine Up.drew ?_))); all_goals (first | (simp; done) | (simp; omega) | omega))
  · have HC := Lib.hid (fun W => rcompare_v X Y iX iY W)
    by_cases hl : Y ≤ X
    · have tc : decide (0 ≤ cmpZ X Y) = true := decide_eq_true (by unfold cmpZ; (repeat' split) <;> omega)
      have iv : In2 (X - Y) := by unfold In2 at *; omega
      have HD := Lib.hid (fun W => rsub_v X Y iX iY iv W)
      have HI := Lib.hid iv
      have ev : sz true (X - Y) = P := by have h := HP.out; simp only [sz_true, sz_false] at h ⊢; omega
      clear iX iY iS iv hl
      generalize X - Y = v at *
      generalize cmpZ X Y = cz at *
      by_cases hz : v = 0
      · obtain ⟨t3, t4⟩ := xzero hz
        have HE := Lib.hid (show sz false v = P by rw [sz_false]; rw [sz_true] at ev; omega)
        clear hz ev
        go_wp2_with fail
        refine (HQ.out _).mono ?_
        rintro e w5 ⟨rfl, hu5⟩
        try unfold got2
        have c5_0 := hu5.keep (w.heap.size + 1 + 1) (0) (.int .i64 0) (by simp [go_sem, *])
        have c5_1 := hu5.keep (w.heap.size + 1 + 1) (1) (.int .i64 0) (by simp [go_sem, *])
        have c5_2 := hu5.keep (g) (0) (.int .u64 (hiZ X)) (by simp [go_sem, *])
        have c5_3 := hu5.keep (g) (1) (.int .u64 (loZ X)) (by simp [go_sem, *])
        have c5_4 := hu5.keep (k) (0) (.int .u64 (hiZ Y)) (by simp [go_sem, *])
        have c5_5 := hu5.keep (k) (1) (.int .u64 (loZ Y)) (by simp [go_sem, *])
        have l5_0 : w.heap.size + 1 + 1 < w5.heap.size := World.block_lt_of_cell? _ _ c5_0
        have m5_0 : w.heap.size + 1 + 1 < w5.heap.size + 1 := by omega
        have n5_0 : w.heap.size + 1 + 1 < w5.heap.size + 1 + 1 := by omega
        have x5_0 : ¬ w5.heap.size = w.heap.size + 1 + 1 := by omega
        have y5_0 : ¬ w5.heap.size + 1 = w.heap.size + 1 + 1 := by omega
        have l5_1 : g < w5.heap.size := World.block_lt_of_cell? _ _ c5_2
        have m5_1 : g < w5.heap.size + 1 := by omega
        have n5_1 : g < w5.heap.size + 1 + 1 := by omega
        have x5_1 : ¬ w5.heap.size = g := by omega
        have y5_1 : ¬ w5.heap.size + 1 = g := by omega
        have l5_2 : k < w5.heap.size := World.block_lt_of_cell? _ _ c5_4
        have m5_2 : k < w5.heap.size + 1 := by omega
        have n5_2 : k < w5.heap.size + 1 + 1 := by omega
        have x5_2 : ¬ w5.heap.size = k := by omega
        have y5_2 : ¬ w5.heap.size + 1 = k := by omega
        have HU5 : Hid (Up w w5) := Lib.hid (by ((repeat (first | (with_reducible exact Up.refl _) | (with_reducible exact HU4.out) | (with_reducible refine Up.trans ?_ hu5) | (with_reducible refine Up.alloc ?_ _ _) | (with_reducible refine Up.setCell ?_ ?_ _) | (with_reducible refine Up.drewN ?_ _) | (with_reducible refine Up.drew ?_))); all_goals (first | (simp; done) | (simp; omega) | omega)))
        clear hu5
        go_wp2_with fail
        refine (HC.out _).mono ?_
        rintro e w6 ⟨rfl, hu6⟩
        try unfold got2
        have c6_0 := hu6.keep (w.heap.size + 1 + 1) (0) (.int .i64 0) (by simp [go_sem, *])
        have c6_1 := hu6.keep (w.heap.size + 1 + 1) (1) (.int .i64 0) (by simp [go_sem, *])
        have c6_2 := hu6.keep (g) (0) (.int .u64 (hiZ X)) (by simp [go_sem, *])
        have c6_3 := hu6.keep (g) (1) (.int .u64 (loZ X)) (by simp [go_sem, *])
        have c6_4 := hu6.keep (k) (0) (.int .u64 (hiZ Y)) (by simp [go_sem, *])
        have c6_5 := hu6.keep (k) (1) (.int .u64 (loZ Y)) (by simp [go_sem, *])
        have c6_6 := hu6.keep (w5.heap.size) (0) (.int .u64 (hiZ q)) (by simp [go_sem, *])
        have c6_7 := hu6.keep (w5.heap.size) (1) (.int .u64 (loZ q)) (by simp [go_sem, *])
        have l6_0 : w.heap.size + 1 + 1 < w6.heap.size := World.block_lt_of_cell? _ _ c6_0
        have m6_0 : w.heap.size + 1 + 1 < w6.heap.size + 1 := by omega
        have n6_0 : w.heap.size + 1 + 1 < w6.heap.size + 1 + 1 := by omega
        have x6_0 : ¬ w6.heap.size = w.heap.size + 1 + 1 := by omega
        have y6_0 : ¬ w6.heap.size + 1 = w.heap.size + 1 + 1 := by omega
        have l6_1 : g < w6.heap.size := World.block_lt_of_cell? _ _ c6_2
        have m6_1 : g < w6.heap.size + 1 := by omega
        have n6_1 : g < w6.heap.size + 1 + 1 := by omega
        have x6_1 : ¬ w6.heap.size = g := by omega
        have y6_1 : ¬ w6.heap.size + 1 = g := by omega
        have l6_2 : k < w6.heap.size := World.block_lt_of_cell? _ _ c6_4
        have m6_2 : k < w6.heap.size + 1 := by omega
        have n6_2 : k < w6.heap.size + 1 + 1 := by omega
        have x6_2 : ¬ w6.heap.size = k := by omega
        have y6_2 : ¬ w6.heap.size + 1 = k := by omega
        have l6_3 : w5.heap.size < w6.heap.size := World.block_lt_of_cell? _ _ c6_6
        have m6_3 : w5.heap.size < w6.heap.size + 1 := by omega
        have n6_3 : w5.heap.size < w6.heap.size + 1 + 1 := by omega
        have x6_3 : ¬ w6.heap.size = w5.heap.size := by omega
        have y6_3 : ¬ w6.heap.size + 1 = w5.heap.size := by omega
        have HU6 : Hid (Up w w6) := Lib.hid (by ((repeat (first | (with_reducible exact Up.refl _) | (with_reducible exact HU5.out) | (with_reducible refine Up.trans ?_ hu6) | (with_reducible refine Up.alloc ?_ _ _) | (with_reducible refine Up.setCell ?_ ?_ _) | (with_reducible refine Up.drewN ?_ _) | (with_reducible refine Up.drew ?_))); all_goals (first | (simp; done) | (simp; omega) | omega)))
        clear hu6 c5_0 c5_1 c5_2 c5_3 c5_4 c5_5
        go_wp2_with fail
        refine (HD.out _).mono ?_
        rintro e w7 ⟨rfl, hu7⟩
        try unfold got2
        have c7_0 := hu7.keep (w.heap.size + 1 + 1) (0) (.int .i64 0) (by simp [go_sem, *])
        have c7_1 := hu7.keep (w.heap.size + 1 + 1) (1) (.int .i64 0) (by simp [go_sem, *])
        have c7_2 := hu7.keep (w5.heap.size) (0) (.int .u64 (hiZ q)) (by simp [go_sem, *])
        have c7_3 := hu7.keep (w5.heap.size) (1) (.int .u64 (loZ q)) (by simp [go_sem, *])
        have l7_0 : w.heap.size + 1 + 1 < w7.heap.size := World.block_lt_of_cell? _ _ c7_0
        have m7_0 : w.heap.size + 1 + 1 < w7.heap.size + 1 := by omega
        have n7_0 : w.heap.size + 1 + 1 < w7.heap.size + 1 + 1 := by omega
        have x7_0 : ¬ w7.heap.size = w.heap.size + 1 + 1 := by omega
        have y7_0 : ¬ w7.heap.size + 1 = w.heap.size + 1 + 1 := by omega
        have l7_1 : w5.heap.size < w7.heap.size := World.block_lt_of_cell? _ _ c7_2
        have m7_1 : w5.heap.size < w7.heap.size + 1 := by omega
        have n7_1 : w5.heap.size < w7.heap.size + 1 + 1 := by omega
        have x7_1 : ¬ w7.heap.size = w5.heap.size := by omega
        have y7_1 : ¬ w7.heap.size + 1 = w5.heap.size := by omega
        have HU7 : Hid (Up w w7) := Lib.hid (by ((repeat (first | (with_reducible exact Up.refl _) | (with_reducible exact HU6.out) | (with_reducible refine Up.trans ?_ hu7) | (with_reducible refine Up.alloc ?_ _ _) | (with_reducible refine Up.setCell ?_ ?_ _) | (with_reducible refine Up.drewN ?_ _) | (with_reducible refine Up.drew ?_))); all_goals (first | (simp; done) | (simp; omega) | omega)))
        clear hu7 c6_0 c6_1 c6_2 c6_3 c6_4 c6_5 c6_6 c6_7
        go_wp2_with fail
        refine wp_region_held_drew (S := fun w' => Up w w' ∧ Res2 w' (w.heap.size + 1 + 1) ∧ w'.cell? ⟨w7.heap.size, 0, none⟩ = some (.int .u64 (hiZ v)) ∧ w'.cell? ⟨w7.heap.size, 1, none⟩ = some (.int .u64 (loZ v)) ∧ w'.cell? ⟨w5.heap.size, 0, none⟩ = some (.int .u64 (hiZ q)) ∧ w'.cell? ⟨w5.heap.size, 1, none⟩ = some (.int .u64 (loZ q))) (by kernel_rfl) ?hB23 (fun hHeld => ?_)
        case hB23 => (first | (with_reducible exact rkeep4 (by assumption) (by assumption)) | ((repeat (first | (with_reducible assumption) | (with_reducible exact Hid.out (by assumption)) | (with_reducible refine rset4_0 ?_ (by omega) (by omega) (by omega) (by omega) (by omega)) | (with_reducible refine rset4_1 ?_ (by omega) (by omega) (by omega) (by omega) (by omega)))); done) | (exact ⟨by ((repeat (first | (with_reducible exact Up.refl _) | (with_reducible exact HU7.out) | (with_reducible refine Up.alloc ?_ _ _) | (with_reducible refine Up.setCell ?_ ?_ _) | (with_reducible refine Up.drewN ?_ _) | (with_reducible refine Up.drew ?_))); all_goals (first | (simp; done) | (simp; omega) | omega)), ⟨0, 0, by simp [go_sem, *], by simp [go_sem, *]⟩, by simp [go_sem, *], by simp [go_sem, *], by simp [go_sem, *], by simp [go_sem, *]⟩))
        refine wpAnyH_take (i := 0) (oi := ⟨_, _, _, _, _, _⟩) (v := ?v24) rfl (by kernel_rfl) (by kernel_rfl) (by kernel_rfl) (fun _ _ _ h => h) (Or.inl ⟨by rfl, ?hy24⟩) (by assumption) ?_
        case hy24 => (intro w hSw; (try dsimp only at hSw); go_simp; (try (with_reducible rfl)))
        (try simp only [Act.put, List.setIfInBounds_toArray, List.set_cons_zero, List.set_cons_succ])
        refine wpAnyH_take (i := 1) (oi := ⟨_, _, _, _, _, _⟩) (v := ?v25) rfl (by kernel_rfl) (by kernel_rfl) (by kernel_rfl) (fun _ _ _ h => h) (Or.inl ⟨by rfl, ?hy25⟩) (by assumption) ?_
        case hy25 => (intro w hSw; (try dsimp only at hSw); go_simp; (try (with_reducible rfl)))
        (try simp only [Act.put, List.setIfInBounds_toArray, List.set_cons_zero, List.set_cons_succ])
        refine wpAnyH_take (i := 2) (oi := ⟨_, _, _, _, _, _⟩) (v := ?v26) rfl (by kernel_rfl) (by kernel_rfl) (by kernel_rfl) (fun _ _ _ h => h) (Or.inl ⟨by rfl, ?hy26⟩) (by assumption) ?_
        case hy26 => (intro w hSw; (try dsimp only at hSw); go_simp; (try (with_reducible rfl)))
        (try simp only [Act.put, List.setIfInBounds_toArray, List.set_cons_zero, List.set_cons_succ])
        refine wpAnyH_take (i := 3) (oi := ⟨_, _, _, _, _, _⟩) (v := ?v27) rfl (by kernel_rfl) (by kernel_rfl) (by kernel_rfl) (fun _ _ _ h => h) (Or.inl ⟨by rfl, ?hy27⟩) (by assumption) ?_
        case hy27 => (intro w hSw; (try dsimp only at hSw); go_simp; (try (with_reducible rfl)))
        (try simp only [Act.put, List.setIfInBounds_toArray, List.set_cons_zero, List.set_cons_succ])
        refine wpAnyH_take (i := 4) (oi := ⟨_, _, _, _, _, _⟩) (v := ?v28) rfl (by kernel_rfl) (by kernel_rfl) (by kernel_rfl) (fun _ _ _ h => h) (Or.inl ⟨by rfl, ?hy28⟩) (by assumption) ?_
        case hy28 => (intro w hSw; (try dsimp only at hSw); go_simp; (try (with_reducible rfl)))
        (try simp only [Act.put, List.setIfInBounds_toArray, List.set_cons_zero, List.set_cons_succ])
        refine wpAnyH_take (i := 5) (oi := ⟨_, _, _, _, _, _⟩) (v := ?v29) rfl (by kernel_rfl) (by kernel_rfl) (by kernel_rfl) (fun _ _ _ h => h) (Or.inl ⟨by rfl, ?hy29⟩) (by assumption) ?_
        case hy29 => (intro w hSw; (try dsimp only at hSw); go_simp; (try (with_reducible rfl)))
        (try simp only [Act.put, List.setIfInBounds_toArray, List.set_cons_zero, List.set_cons_succ])
        refine wpAnyH_take (i := 6) (oi := ⟨_, _, _, _, _, _⟩) (v := ?v30) rfl (by kernel_rfl) (by kernel_rfl) (by kernel_rfl) (fun _ _ _ h => h) (Or.inl ⟨by rfl, ?hy30⟩) (by assumption) ?_
        case hy30 => (intro w hSw; (try dsimp only at hSw); go_simp; (try (with_reducible rfl)))
        (try simp only [Act.put, List.setIfInBounds_toArray, List.set_cons_zero, List.set_cons_succ])
        refine wpAnyH_take (i := 7) (oi := ⟨_, _, _, _, _, _⟩) (v := ?v31) rfl (by kernel_rfl) (by kernel_rfl) (by kernel_rfl) (fun _ _ _ h => h) (Or.inl ⟨by rfl, ?hy31⟩) (by assumption) ?_
        case hy31 => (intro w hSw; (try dsimp only at hSw); go_simp; (try (with_reducible rfl)))
        (try simp only [Act.put, List.setIfInBounds_toArray, List.set_cons_zero, List.set_cons_succ])
        refine wpAnyH_ready (rs := [8]) (by kernel_rfl) (by simp) ?_
        refine AllReadyH.cons (o := ⟨_, _, _, _, _, _⟩) rfl (fun K hK => ?_) AllReadyH.nil
        go_simp
        (go_at_call 47; (with_reducible refine (HR.out _ _ HI.out HE.out _).mono ?_); rintro e wq ⟨rfl, hu⟩; have HU := Lib.hid hu; have HSq := Lib.hid (rkeep4 HU (by assumption)); obtain ⟨r0', r1', k0', k1'⟩ := HSq.out.2.1; have z0 := own2 HSq.out.1 0; have z1 := own2 HSq.out.1 1; clear hu; unfold gotR)
        (try go_wp2_with fail)
        refine hK.out _ _ ?hB32 (fun hHeld => ?_)
        case hB32 => (first | (with_reducible exact rkeep4 (by assumption) (by assumption)) | ((repeat (first | (with_reducible assumption) | (with_reducible exact Hid.out (by assumption)) | (with_reducible refine rset4_0 ?_ (by omega) (by omega) (by omega) (by omega) (by omega)) | (with_reducible refine rset4_1 ?_ (by omega) (by omega) (by omega) (by omega) (by omega)))); done) | (exact ⟨by ((repeat (first | (with_reducible exact Up.refl _) | (with_reducible exact HU7.out) | (with_reducible refine Up.alloc ?_ _ _) | (with_reducible refine Up.setCell ?_ ?_ _) | (with_reducible refine Up.drewN ?_ _) | (with_reducible refine Up.drew ?_))); all_goals (first | (simp; done) | (simp; omega) | omega)), ⟨0, 0, by simp [go_sem, *], by simp [go_sem, *]⟩, by simp [go_sem, *], by simp [go_sem, *], by simp [go_sem, *], by simp [go_sem, *]⟩))
        clear hK K
        (try simp only [Act.put, List.setIfInBounds_toArray, List.set_cons_zero, List.set_cons_succ])
        refine wpAnyH_take (i := 9) (oi := ⟨_, _, _, _, _, _⟩) (v := ?v33) rfl (by kernel_rfl) (by kernel_rfl) (by kernel_rfl) (fun _ _ _ h => h) (Or.inl ⟨by rfl, ?hy33⟩) (by assumption) ?_
        case hy33 => (intro w hSw; (try dsimp only at hSw); go_simp; (try (with_reducible rfl)))
        (try simp only [Act.put, List.setIfInBounds_toArray, List.set_cons_zero, List.set_cons_succ])
        refine wpAnyH_take (i := 10) (oi := ⟨_, _, _, _, _, _⟩) (v := ?v34) rfl (by kernel_rfl) (by kernel_rfl) (by kernel_rfl) (fun _ _ _ h => h) (Or.inl ⟨by rfl, ?hy34⟩) (by assumption) ?_
        case hy34 => (intro w hSw; (try dsimp only at hSw); go_simp; (try (with_reducible rfl)))
        (try simp only [Act.put, List.setIfInBounds_toArray, List.set_cons_zero, List.set_cons_succ])
        refine wpAnyH_ready (rs := [11]) (by kernel_rfl) (by simp) ?_
        refine AllReadyH.cons (o := ⟨_, _, _, _, _, _⟩) rfl (fun K hK => ?_) AllReadyH.nil
        go_simp
        refine hK.out _ _ ?hB35 (fun hHeld => ?_)
        case hB35 => (first | (with_reducible exact rkeep4 (by assumption) (by assumption)) | ((repeat (first | (with_reducible assumption) | (with_reducible exact Hid.out (by assumption)) | (with_reducible refine rset4_0 ?_ (by omega) (by omega) (by omega) (by omega) (by omega)) | (with_reducible refine rset4_1 ?_ (by omega) (by omega) (by omega) (by omega) (by omega)))); done) | (exact ⟨by ((repeat (first | (with_reducible exact Up.refl _) | (with_reducible exact HU7.out) | (with_reducible refine Up.alloc ?_ _ _) | (with_reducible refine Up.setCell ?_ ?_ _) | (with_reducible refine Up.drewN ?_ _) | (with_reducible refine Up.drew ?_))); all_goals (first | (simp; done) | (simp; omega) | omega)), ⟨0, 0, by simp [go_sem, *], by simp [go_sem, *]⟩, by simp [go_sem, *], by simp [go_sem, *], by simp [go_sem, *], by simp [go_sem, *]⟩))
        clear hK K
        (try simp only [Act.put, List.setIfInBounds_toArray, List.set_cons_zero, List.set_cons_succ])
        refine wpAnyH_take (i := 12) (oi := ⟨_, _, _, _, _, _⟩) (v := ?v36) rfl (by kernel_rfl) (by kernel_rfl) (by kernel_rfl) (fun _ _ _ h => h) (Or.inl ⟨by rfl, ?hy36⟩) (by assumption) ?_
        case hy36 => (intro w hSw; (try dsimp only at hSw); go_simp; (try (with_reducible rfl)))
        (try simp only [Act.put, List.setIfInBounds_toArray, List.set_cons_zero, List.set_cons_succ])
        refine wpAnyH_done (by kernel_rfl) ?_ _
        all_goals
          go_wp2_with fail
          refine bodyPost_ret (v := .tuple #[.agg #[.int .i64 N, .int .i64 D], .bool B]) (by simp [results, Tryz.results24, go_sem, k0', k1']) rfl ⟨?_, ?_⟩
          · rfl
          · exact And.left (by assumption)
      · have HE := Lib.hid (show sz true v = P from ev)
        clear ev
        rcases tests_v hz with t3 | ⟨t3, t4⟩
        · clear hz
          go_wp2_with fail
          refine (HQ.out _).mono ?_
          rintro e w5 ⟨rfl, hu5⟩
          try unfold got2
          have c5_0 := hu5.keep (w.heap.size + 1 + 1) (0) (.int .i64 0) (by simp [go_sem, *])
          have c5_1 := hu5.keep (w.heap.size + 1 + 1) (1) (.int .i64 0) (by simp [go_sem, *])
          have c5_2 := hu5.keep (g) (0) (.int .u64 (hiZ X)) (by simp [go_sem, *])
          have c5_3 := hu5.keep (g) (1) (.int .u64 (loZ X)) (by simp [go_sem, *])
          have c5_4 := hu5.keep (k) (0) (.int .u64 (hiZ Y)) (by simp [go_sem, *])
          have c5_5 := hu5.keep (k) (1) (.int .u64 (loZ Y)) (by simp [go_sem, *])
          have l5_0 : w.heap.size + 1 + 1 < w5.heap.size := World.block_lt_of_cell? _ _ c5_0
          have m5_0 : w.heap.size + 1 + 1 < w5.heap.size + 1 := by omega
          have n5_0 : w.heap.size + 1 + 1 < w5.heap.size + 1 + 1 := by omega
          have x5_0 : ¬ w5.heap.size = w.heap.size + 1 + 1 := by omega
          have y5_0 : ¬ w5.heap.size + 1 = w.heap.size + 1 + 1 := by omega
          have l5_1 : g < w5.heap.size := World.block_lt_of_cell? _ _ c5_2
          have m5_1 : g < w5.heap.size + 1 := by omega
          have n5_1 : g < w5.heap.size + 1 + 1 := by omega
          have x5_1 : ¬ w5.heap.size = g := by omega
          have y5_1 : ¬ w5.heap.size + 1 = g := by omega
          have l5_2 : k < w5.heap.size := World.block_lt_of_cell? _ _ c5_4
          have m5_2 : k < w5.heap.size + 1 := by omega
          have n5_2 : k < w5.heap.size + 1 + 1 := by omega
          have x5_2 : ¬ w5.heap.size = k := by omega
          have y5_2 : ¬ w5.heap.size + 1 = k := by omega
          have HU5 : Hid (Up w w5) := Lib.hid (by ((repeat (first | (with_reducible exact Up.refl _) | (with_reducible exact HU4.out) | (with_reducible refine Up.trans ?_ hu5) | (with_reducible refine Up.alloc ?_ _ _) | (with_reducible refine Up.setCell ?_ ?_ _) | (with_reducible refine Up.drewN ?_ _) | (with_reducible refine Up.drew ?_))); all_goals (first | (simp; done) | (simp; omega) | omega)))
          clear hu5
          go_wp2_with fail
          refine (HC.out _).mono ?_
          rintro e w6 ⟨rfl, hu6⟩
          try unfold got2
          have c6_0 := hu6.keep (w.heap.size + 1 + 1) (0) (.int .i64 0) (by simp [go_sem, *])
          have c6_1 := hu6.keep (w.heap.size + 1 + 1) (1) (.int .i64 0) (by simp [go_sem, *])
          have c6_2 := hu6.keep (g) (0) (.int .u64 (hiZ X)) (by simp [go_sem, *])
          have c6_3 := hu6.keep (g) (1) (.int .u64 (loZ X)) (by simp [go_sem, *])
          have c6_4 := hu6.keep (k) (0) (.int .u64 (hiZ Y)) (by simp [go_sem, *])
          have c6_5 := hu6.keep (k) (1) (.int .u64 (loZ Y)) (by simp [go_sem, *])
          have c6_6 := hu6.keep (w5.heap.size) (0) (.int .u64 (hiZ q)) (by simp [go_sem, *])
          have c6_7 := hu6.keep (w5.heap.size) (1) (.int .u64 (loZ q)) (by simp [go_sem, *])
          have l6_0 : w.heap.size + 1 + 1 < w6.heap.size := World.block_lt_of_cell? _ _ c6_0
          have m6_0 : w.heap.size + 1 + 1 < w6.heap.size + 1 := by omega
          have n6_0 : w.heap.size + 1 + 1 < w6.heap.size + 1 + 1 := by omega
          have x6_0 : ¬ w6.heap.size = w.heap.size + 1 + 1 := by omega
          have y6_0 : ¬ w6.heap.size + 1 = w.heap.size + 1 + 1 := by omega
          have l6_1 : g < w6.heap.size := World.block_lt_of_cell? _ _ c6_2
          have m6_1 : g < w6.heap.size + 1 := by omega
          have n6_1 : g < w6.heap.size + 1 + 1 := by omega
          have x6_1 : ¬ w6.heap.size = g := by omega
          have y6_1 : ¬ w6.heap.size + 1 = g := by omega
          have l6_2 : k < w6.heap.size := World.block_lt_of_cell? _ _ c6_4
          have m6_2 : k < w6.heap.size + 1 := by omega
          have n6_2 : k < w6.heap.size + 1 + 1 := by omega
          have x6_2 : ¬ w6.heap.size = k := by omega
          have y6_2 : ¬ w6.heap.size + 1 = k := by omega
          have l6_3 : w5.heap.size < w6.heap.size := World.block_lt_of_cell? _ _ c6_6
          have m6_3 : w5.heap.size < w6.heap.size + 1 := by omega
          have n6_3 : w5.heap.size < w6.heap.size + 1 + 1 := by omega
          have x6_3 : ¬ w6.heap.size = w5.heap.size := by omega
          have y6_3 : ¬ w6.heap.size + 1 = w5.heap.size := by omega
          have HU6 : Hid (Up w w6) := Lib.hid (by ((repeat (first | (with_reducible exact Up.refl _) | (with_reducible exact HU5.out) | (with_reducible refine Up.trans ?_ hu6) | (with_reducible refine Up.alloc ?_ _ _) | (with_reducible refine Up.setCell ?_ ?_ _) | (with_reducible refine Up.drewN ?_ _) | (with_reducible refine Up.drew ?_))); all_goals (first | (simp; done) | (simp; omega) | omega)))
          clear hu6 c5_0 c5_1 c5_2 c5_3 c5_4 c5_5
          go_wp2_with fail
          refine (HD.out _).mono ?_
          rintro e w7 ⟨rfl, hu7⟩
          try unfold got2
          have c7_0 := hu7.keep (w.heap.size + 1 + 1) (0) (.int .i64 0) (by simp [go_sem, *])
          have c7_1 := hu7.keep (w.heap.size + 1 + 1) (1) (.int .i64 0) (by simp [go_sem, *])
          have c7_2 := hu7.keep (w5.heap.size) (0) (.int .u64 (hiZ q)) (by simp [go_sem, *])
          have c7_3 := hu7.keep (w5.heap.size) (1) (.int .u64 (loZ q)) (by simp [go_sem, *])
          have l7_0 : w.heap.size + 1 + 1 < w7.heap.size := World.block_lt_of_cell? _ _ c7_0
          have m7_0 : w.heap.size + 1 + 1 < w7.heap.size + 1 := by omega
          have n7_0 : w.heap.size + 1 + 1 < w7.heap.size + 1 + 1 := by omega
          have x7_0 : ¬ w7.heap.size = w.heap.size + 1 + 1 := by omega
          have y7_0 : ¬ w7.heap.size + 1 = w.heap.size + 1 + 1 := by omega
          have l7_1 : w5.heap.size < w7.heap.size := World.block_lt_of_cell? _ _ c7_2
          have m7_1 : w5.heap.size < w7.heap.size + 1 := by omega
          have n7_1 : w5.heap.size < w7.heap.size + 1 + 1 := by omega
          have x7_1 : ¬ w7.heap.size = w5.heap.size := by omega
          have y7_1 : ¬ w7.heap.size + 1 = w5.heap.size := by omega
          have HU7 : Hid (Up w w7) := Lib.hid (by ((repeat (first | (with_reducible exact Up.refl _) | (with_reducible exact HU6.out) | (with_reducible refine Up.trans ?_ hu7) | (with_reducible refine Up.alloc ?_ _ _) | (with_reducible refine Up.setCell ?_ ?_ _) | (with_reducible refine Up.drewN ?_ _) | (with_reducible refine Up.drew ?_))); all_goals (first | (simp; done) | (simp; omega) | omega)))
          clear hu7 c6_0 c6_1 c6_2 c6_3 c6_4 c6_5 c6_6 c6_7
          go_wp2_with fail
          refine wp_region_held_drew (S := fun w' => Up w w' ∧ Res2 w' (w.heap.size + 1 + 1) ∧ w'.cell? ⟨w7.heap.size, 0, none⟩ = some (.int .u64 (hiZ v)) ∧ w'.cell? ⟨w7.heap.size, 1, none⟩ = some (.int .u64 (loZ v)) ∧ w'.cell? ⟨w5.heap.size, 0, none⟩ = some (.int .u64 (hiZ q)) ∧ w'.cell? ⟨w5.heap.size, 1, none⟩ = some (.int .u64 (loZ q))) (by kernel_rfl) ?hB37 (fun hHeld => ?_)
          case hB37 => (first | (with_reducible exact rkeep4 (by assumption) (by assumption)) | ((repeat (first | (with_reducible assumption) | (with_reducible exact Hid.out (by assumption)) | (with_reducible refine rset4_0 ?_ (by omega) (by omega) (by omega) (by omega) (by omega)) | (with_reducible refine rset4_1 ?_ (by omega) (by omega) (by omega) (by omega) (by omega)))); done) | (exact ⟨by ((repeat (first | (with_reducible exact Up.refl _) | (with_reducible exact HU7.out) | (with_reducible refine Up.alloc ?_ _ _) | (with_reducible refine Up.setCell ?_ ?_ _) | (with_reducible refine Up.drewN ?_ _) | (with_reducible refine Up.drew ?_))); all_goals (first | (simp; done) | (simp; omega) | omega)), ⟨0, 0, by simp [go_sem, *], by simp [go_sem, *]⟩, by simp [go_sem, *], by simp [go_sem, *], by simp [go_sem, *], by simp [go_sem, *]⟩))
          refine wpAnyH_take (i := 0) (oi := ⟨_, _, _, _, _, _⟩) (v := ?v38) rfl (by kernel_rfl) (by kernel_rfl) (by kernel_rfl) (fun _ _ _ h => h) (Or.inl ⟨by rfl, ?hy38⟩) (by assumption) ?_
          case hy38 => (intro w hSw; (try dsimp only at hSw); go_simp; (try (with_reducible rfl)))
          (try simp only [Act.put, List.setIfInBounds_toArray, List.set_cons_zero, List.set_cons_succ])
          refine wpAnyH_take (i := 1) (oi := ⟨_, _, _, _, _, _⟩) (v := ?v39) rfl (by kernel_rfl) (by kernel_rfl) (by kernel_rfl) (fun _ _ _ h => h) (Or.inl ⟨by rfl, ?hy39⟩) (by assumption) ?_
          case hy39 => (intro w hSw; (try dsimp only at hSw); go_simp; (try (with_reducible rfl)))
          (try simp only [Act.put, List.setIfInBounds_toArray, List.set_cons_zero, List.set_cons_succ])
          refine wpAnyH_take (i := 2) (oi := ⟨_, _, _, _, _, _⟩) (v := ?v40) rfl (by kernel_rfl) (by kernel_rfl) (by kernel_rfl) (fun _ _ _ h => h) (Or.inl ⟨by rfl, ?hy40⟩) (by assumption) ?_
          case hy40 => (intro w hSw; (try dsimp only at hSw); go_simp; (try (with_reducible rfl)))
          (try simp only [Act.put, List.setIfInBounds_toArray, List.set_cons_zero, List.set_cons_succ])
          refine wpAnyH_take (i := 3) (oi := ⟨_, _, _, _, _, _⟩) (v := ?v41) rfl (by kernel_rfl) (by kernel_rfl) (by kernel_rfl) (fun _ _ _ h => h) (Or.inl ⟨by rfl, ?hy41⟩) (by assumption) ?_
          case hy41 => (intro w hSw; (try dsimp only at hSw); go_simp; (try (with_reducible rfl)))
          (try simp only [Act.put, List.setIfInBounds_toArray, List.set_cons_zero, List.set_cons_succ])
          refine wpAnyH_take (i := 4) (oi := ⟨_, _, _, _, _, _⟩) (v := ?v42) rfl (by kernel_rfl) (by kernel_rfl) (by kernel_rfl) (fun _ _ _ h => h) (Or.inl ⟨by rfl, ?hy42⟩) (by assumption) ?_
          case hy42 => (intro w hSw; (try dsimp only at hSw); go_simp; (try (with_reducible rfl)))
          (try simp only [Act.put, List.setIfInBounds_toArray, List.set_cons_zero, List.set_cons_succ])
          refine wpAnyH_take (i := 5) (oi := ⟨_, _, _, _, _, _⟩) (v := ?v43) rfl (by kernel_rfl) (by kernel_rfl) (by kernel_rfl) (fun _ _ _ h => h) (Or.inl ⟨by rfl, ?hy43⟩) (by assumption) ?_
          case hy43 => (intro w hSw; (try dsimp only at hSw); go_simp; (try (with_reducible rfl)))
          (try simp only [Act.put, List.setIfInBounds_toArray, List.set_cons_zero, List.set_cons_succ])
          refine wpAnyH_take (i := 6) (oi := ⟨_, _, _, _, _, _⟩) (v := ?v44) rfl (by kernel_rfl) (by kernel_rfl) (by kernel_rfl) (fun _ _ _ h => h) (Or.inl ⟨by rfl, ?hy44⟩) (by assumption) ?_
          case hy44 => (intro w hSw; (try dsimp only at hSw); go_simp; (try (with_reducible rfl)))
          (try simp only [Act.put, List.setIfInBounds_toArray, List.set_cons_zero, List.set_cons_succ])
          refine wpAnyH_take (i := 7) (oi := ⟨_, _, _, _, _, _⟩) (v := ?v45) rfl (by kernel_rfl) (by kernel_rfl) (by kernel_rfl) (fun _ _ _ h => h) (Or.inl ⟨by rfl, ?hy45⟩) (by assumption) ?_
          case hy45 => (intro w hSw; (try dsimp only at hSw); go_simp; (try (with_reducible rfl)))
          (try simp only [Act.put, List.setIfInBounds_toArray, List.set_cons_zero, List.set_cons_succ])
          refine wpAnyH_ready (rs := [8]) (by kernel_rfl) (by simp) ?_
          refine AllReadyH.cons (o := ⟨_, _, _, _, _, _⟩) rfl (fun K hK => ?_) AllReadyH.nil
          go_simp
          (go_at_call 47; (with_reducible refine (HR.out _ _ HI.out HE.out _).mono ?_); rintro e wq ⟨rfl, hu⟩; have HU := Lib.hid hu; have HSq := Lib.hid (rkeep4 HU (by assumption)); obtain ⟨r0', r1', k0', k1'⟩ := HSq.out.2.1; have z0 := own2 HSq.out.1 0; have z1 := own2 HSq.out.1 1; clear hu; unfold gotR)
          (try go_wp2_with fail)
          refine hK.out _ _ ?hB46 (fun hHeld => ?_)
          case hB46 => (first | (with_reducible exact rkeep4 (by assumption) (by assumption)) | ((repeat (first | (with_reducible assumption) | (with_reducible exact Hid.out (by assumption)) | (with_reducible refine rset4_0 ?_ (by omega) (by omega) (by omega) (by omega) (by omega)) | (with_reducible refine rset4_1 ?_ (by omega) (by omega) (by omega) (by omega) (by omega)))); done) | (exact ⟨by ((repeat (first | (with_reducible exact Up.refl _) | (with_reducible exact HU7.out) | (with_reducible refine Up.alloc ?_ _ _) | (with_reducible refine Up.setCell ?_ ?_ _) | (with_reducible refine Up.drewN ?_ _) | (with_reducible refine Up.drew ?_))); all_goals (first | (simp; done) | (simp; omega) | omega)), ⟨0, 0, by simp [go_sem, *], by simp [go_sem, *]⟩, by simp [go_sem, *], by simp [go_sem, *], by simp [go_sem, *], by simp [go_sem, *]⟩))
          clear hK K
          (try simp only [Act.put, List.setIfInBounds_toArray, List.set_cons_zero, List.set_cons_succ])
          refine wpAnyH_take (i := 9) (oi := ⟨_, _, _, _, _, _⟩) (v := ?v47) rfl (by kernel_rfl) (by kernel_rfl) (by kernel_rfl) (fun _ _ _ h => h) (Or.inl ⟨by rfl, ?hy47⟩) (by assumption) ?_
          case hy47 => (intro w hSw; (try dsimp only at hSw); go_simp; (try (with_reducible rfl)))
          (try simp only [Act.put, List.setIfInBounds_toArray, List.set_cons_zero, List.set_cons_succ])
          refine wpAnyH_take (i := 10) (oi := ⟨_, _, _, _, _, _⟩) (v := ?v48) rfl (by kernel_rfl) (by kernel_rfl) (by kernel_rfl) (fun _ _ _ h => h) (Or.inl ⟨by rfl, ?hy48⟩) (by assumption) ?_
          case hy48 => (intro w hSw; (try dsimp only at hSw); go_simp; (try (with_reducible rfl)))
          (try simp only [Act.put, List.setIfInBounds_toArray, List.set_cons_zero, List.set_cons_succ])
          refine wpAnyH_ready (rs := [11]) (by kernel_rfl) (by simp) ?_
          refine AllReadyH.cons (o := ⟨_, _, _, _, _, _⟩) rfl (fun K hK => ?_) AllReadyH.nil
          go_simp
          refine hK.out _ _ ?hB49 (fun hHeld => ?_)
          case hB49 => (first | (with_reducible exact rkeep4 (by assumption) (by assumption)) | ((repeat (first | (with_reducible assumption) | (with_reducible exact Hid.out (by assumption)) | (with_reducible refine rset4_0 ?_ (by omega) (by omega) (by omega) (by omega) (by omega)) | (with_reducible refine rset4_1 ?_ (by omega) (by omega) (by omega) (by omega) (by omega)))); done) | (exact ⟨by ((repeat (first | (with_reducible exact Up.refl _) | (with_reducible exact HU7.out) | (with_reducible refine Up.alloc ?_ _ _) | (with_reducible refine Up.setCell ?_ ?_ _) | (with_reducible refine Up.drewN ?_ _) | (with_reducible refine Up.drew ?_))); all_goals (first | (simp; done) | (simp; omega) | omega)), ⟨0, 0, by simp [go_sem, *], by simp [go_sem, *]⟩, by simp [go_sem, *], by simp [go_sem, *], by simp [go_sem, *], by simp [go_sem, *]⟩))
          clear hK K
          (try simp only [Act.put, List.setIfInBounds_toArray, List.set_cons_zero, List.set_cons_succ])
          refine wpAnyH_take (i := 12) (oi := ⟨_, _, _, _, _, _⟩) (v := ?v50) rfl (by kernel_rfl) (by kernel_rfl) (by kernel_rfl) (fun _ _ _ h => h) (Or.inl ⟨by rfl, ?hy50⟩) (by assumption) ?_
          case hy50 => (intro w hSw; (try dsimp only at hSw); go_simp; (try (with_reducible rfl)))
          (try simp only [Act.put, List.setIfInBounds_toArray, List.set_cons_zero, List.set_cons_succ])
          refine wpAnyH_done (by kernel_rfl) ?_ _
          all_goals
            go_wp2_with fail
            refine bodyPost_ret (v := .tuple #[.agg #[.int .i64 N, .int .i64 D], .bool B]) (by simp [results, Tryz.results24, go_sem, k0', k1']) rfl ⟨?_, ?_⟩
            · rfl
            · exact And.left (by assumption)
        · clear hz
          go_wp2_with fail
          refine (HQ.out _).mono ?_
          rintro e w5 ⟨rfl, hu5⟩
          try unfold got2
          have c5_0 := hu5.keep (w.heap.size + 1 + 1) (0) (.int .i64 0) (by simp [go_sem, *])
          have c5_1 := hu5.keep (w.heap.size + 1 + 1) (1) (.int .i64 0) (by simp [go_sem, *])
          have c5_2 := hu5.keep (g) (0) (.int .u64 (hiZ X)) (by simp [go_sem, *])
          have c5_3 := hu5.keep (g) (1) (.int .u64 (loZ X)) (by simp [go_sem, *])
          have c5_4 := hu5.keep (k) (0) (.int .u64 (hiZ Y)) (by simp [go_sem, *])
          have c5_5 := hu5.keep (k) (1) (.int .u64 (loZ Y)) (by simp [go_sem, *])
          have l5_0 : w.heap.size + 1 + 1 < w5.heap.size := World.block_lt_of_cell? _ _ c5_0
          have m5_0 : w.heap.size + 1 + 1 < w5.heap.size + 1 := by omega
          have n5_0 : w.heap.size + 1 + 1 < w5.heap.size + 1 + 1 := by omega
          have x5_0 : ¬ w5.heap.size = w.heap.size + 1 + 1 := by omega
          have y5_0 : ¬ w5.heap.size + 1 = w.heap.size + 1 + 1 := by omega
          have l5_1 : g < w5.heap.size := World.block_lt_of_cell? _ _ c5_2
          have m5_1 : g < w5.heap.size + 1 := by omega
          have n5_1 : g < w5.heap.size + 1 + 1 := by omega
          have x5_1 : ¬ w5.heap.size = g := by omega
          have y5_1 : ¬ w5.heap.size + 1 = g := by omega
          have l5_2 : k < w5.heap.size := World.block_lt_of_cell? _ _ c5_4
          have m5_2 : k < w5.heap.size + 1 := by omega
          have n5_2 : k < w5.heap.size + 1 + 1 := by omega
          have x5_2 : ¬ w5.heap.size = k := by omega
          have y5_2 : ¬ w5.heap.size + 1 = k := by omega
          have HU5 : Hid (Up w w5) := Lib.hid (by ((repeat (first | (with_reducible exact Up.refl _) | (with_reducible exact HU4.out) | (with_reducible refine Up.trans ?_ hu5) | (with_reducible refine Up.alloc ?_ _ _) | (with_reducible refine Up.setCell ?_ ?_ _) | (with_reducible refine Up.drewN ?_ _) | (with_reducible refine Up.drew ?_))); all_goals (first | (simp; done) | (simp; omega) | omega)))
          clear hu5
          go_wp2_with fail
          refine (HC.out _).mono ?_
          rintro e w6 ⟨rfl, hu6⟩
          try unfold got2
          have c6_0 := hu6.keep (w.heap.size + 1 + 1) (0) (.int .i64 0) (by simp [go_sem, *])
          have c6_1 := hu6.keep (w.heap.size + 1 + 1) (1) (.int .i64 0) (by simp [go_sem, *])
          have c6_2 := hu6.keep (g) (0) (.int .u64 (hiZ X)) (by simp [go_sem, *])
          have c6_3 := hu6.keep (g) (1) (.int .u64 (loZ X)) (by simp [go_sem, *])
          have c6_4 := hu6.keep (k) (0) (.int .u64 (hiZ Y)) (by simp [go_sem, *])
          have c6_5 := hu6.keep (k) (1) (.int .u64 (loZ Y)) (by simp [go_sem, *])
          have c6_6 := hu6.keep (w5.heap.size) (0) (.int .u64 (hiZ q)) (by simp [go_sem, *])
          have c6_7 := hu6.keep (w5.heap.size) (1) (.int .u64 (loZ q)) (by simp [go_sem, *])
          have l6_0 : w.heap.size + 1 + 1 < w6.heap.size := World.block_lt_of_cell? _ _ c6_0
          have m6_0 : w.heap.size + 1 + 1 < w6.heap.size + 1 := by omega
          have n6_0 : w.heap.size + 1 + 1 < w6.heap.size + 1 + 1 := by omega
          have x6_0 : ¬ w6.heap.size = w.heap.size + 1 + 1 := by omega
          have y6_0 : ¬ w6.heap.size + 1 = w.heap.size + 1 + 1 := by omega
          have l6_1 : g < w6.heap.size := World.block_lt_of_cell? _ _ c6_2
          have m6_1 : g < w6.heap.size + 1 := by omega
          have n6_1 : g < w6.heap.size + 1 + 1 := by omega
          have x6_1 : ¬ w6.heap.size = g := by omega
          have y6_1 : ¬ w6.heap.size + 1 = g := by omega
          have l6_2 : k < w6.heap.size := World.block_lt_of_cell? _ _ c6_4
          have m6_2 : k < w6.heap.size + 1 := by omega
          have n6_2 : k < w6.heap.size + 1 + 1 := by omega
          have x6_2 : ¬ w6.heap.size = k := by omega
          have y6_2 : ¬ w6.heap.size + 1 = k := by omega
          have l6_3 : w5.heap.size < w6.heap.size := World.block_lt_of_cell? _ _ c6_6
          have m6_3 : w5.heap.size < w6.heap.size + 1 := by omega
          have n6_3 : w5.heap.size < w6.heap.size + 1 + 1 := by omega
          have x6_3 : ¬ w6.heap.size = w5.heap.size := by omega
          have y6_3 : ¬ w6.heap.size + 1 = w5.heap.size := by omega
          have HU6 : Hid (Up w w6) := Lib.hid (by ((repeat (first | (with_reducible exact Up.refl _) | (with_reducible exact HU5.out) | (with_reducible refine Up.trans ?_ hu6) | (with_reducible refine Up.alloc ?_ _ _) | (with_reducible refine Up.setCell ?_ ?_ _) | (with_reducible refine Up.drewN ?_ _) | (with_reducible refine Up.drew ?_))); all_goals (first | (simp; done) | (simp; omega) | omega)))
          clear hu6 c5_0 c5_1 c5_2 c5_3 c5_4 c5_5
          go_wp2_with fail
          refine (HD.out _).mono ?_
          rintro e w7 ⟨rfl, hu7⟩
          try unfold got2
          have c7_0 := hu7.keep (w.heap.size + 1 + 1) (0) (.int .i64 0) (by simp [go_sem, *])
          have c7_1 := hu7.keep (w.heap.size + 1 + 1) (1) (.int .i64 0) (by simp [go_sem, *])
          have c7_2 := hu7.keep (w5.heap.size) (0) (.int .u64 (hiZ q)) (by simp [go_sem, *])
          have c7_3 := hu7.keep (w5.heap.size) (1) (.int .u64 (loZ q)) (by simp [go_sem, *])
          have l7_0 : w.heap.size + 1 + 1 < w7.heap.size := World.block_lt_of_cell? _ _ c7_0
          have m7_0 : w.heap.size + 1 + 1 < w7.heap.size + 1 := by omega
          have n7_0 : w.heap.size + 1 + 1 < w7.heap.size + 1 + 1 := by omega
          have x7_0 : ¬ w7.heap.size = w.heap.size + 1 + 1 := by omega
          have y7_0 : ¬ w7.heap.size + 1 = w.heap.size + 1 + 1 := by omega
          have l7_1 : w5.heap.size < w7.heap.size := World.block_lt_of_cell? _ _ c7_2
          have m7_1 : w5.heap.size < w7.heap.size + 1 := by omega
          have n7_1 : w5.heap.size < w7.heap.size + 1 + 1 := by omega
          have x7_1 : ¬ w7.heap.size = w5.heap.size := by omega
          have y7_1 : ¬ w7.heap.size + 1 = w5.heap.size := by omega
          have HU7 : Hid (Up w w7) := Lib.hid (by ((repeat (first | (with_reducible exact Up.refl _) | (with_reducible exact HU6.out) | (with_reducible refine Up.trans ?_ hu7) | (with_reducible refine Up.alloc ?_ _ _) | (with_reducible refine Up.setCell ?_ ?_ _) | (with_reducible refine Up.drewN ?_ _) | (with_reducible refine Up.drew ?_))); all_goals (first | (simp; done) | (simp; omega) | omega)))
          clear hu7 c6_0 c6_1 c6_2 c6_3 c6_4 c6_5 c6_6 c6_7
          go_wp2_with fail
          refine wp_region_held_drew (S := fun w' => Up w w' ∧ Res2 w' (w.heap.size + 1 + 1) ∧ w'.cell? ⟨w7.heap.size, 0, none⟩ = some (.int .u64 (hiZ v)) ∧ w'.cell? ⟨w7.heap.size, 1, none⟩ = some (.int .u64 (loZ v)) ∧ w'.cell? ⟨w5.heap.size, 0, none⟩ = some (.int .u64 (hiZ q)) ∧ w'.cell? ⟨w5.heap.size, 1, none⟩ = some (.int .u64 (loZ q))) (by kernel_rfl) ?hB51 (fun hHeld => ?_)
          case hB51 => (first | (with_reducible exact rkeep4 (by assumption) (by assumption)) | ((repeat (first | (with_reducible assumption) | (with_reducible exact Hid.out (by assumption)) | (with_reducible refine rset4_0 ?_ (by omega) (by omega) (by omega) (by omega) (by omega)) | (with_reducible refine rset4_1 ?_ (by omega) (by omega) (by omega) (by omega) (by omega)))); done) | (exact ⟨by ((repeat (first | (with_reducible exact Up.refl _) | (with_reducible exact HU7.out) | (with_reducible refine Up.alloc ?_ _ _) | (with_reducible refine Up.setCell ?_ ?_ _) | (with_reducible refine Up.drewN ?_ _) | (with_reducible refine Up.drew ?_))); all_goals (first | (simp; done) | (simp; omega) | omega)), ⟨0, 0, by simp [go_sem, *], by simp [go_sem, *]⟩, by simp [go_sem, *], by simp [go_sem, *], by simp [go_sem, *], by simp [go_sem, *]⟩))
          refine wpAnyH_take (i := 0) (oi := ⟨_, _, _, _, _, _⟩) (v := ?v52) rfl (by kernel_rfl) (by kernel_rfl) (by kernel_rfl) (fun _ _ _ h => h) (Or.inl ⟨by rfl, ?hy52⟩) (by assumption) ?_
          case hy52 => (intro w hSw; (try dsimp only at hSw); go_simp; (try (with_reducible rfl)))
          (try simp only [Act.put, List.setIfInBounds_toArray, List.set_cons_zero, List.set_cons_succ])
          refine wpAnyH_take (i := 1) (oi := ⟨_, _, _, _, _, _⟩) (v := ?v53) rfl (by kernel_rfl) (by kernel_rfl) (by kernel_rfl) (fun _ _ _ h => h) (Or.inl ⟨by rfl, ?hy53⟩) (by assumption) ?_
          case hy53 => (intro w hSw; (try dsimp only at hSw); go_simp; (try (with_reducible rfl)))
          (try simp only [Act.put, List.setIfInBounds_toArray, List.set_cons_zero, List.set_cons_succ])
          refine wpAnyH_take (i := 2) (oi := ⟨_, _, _, _, _, _⟩) (v := ?v54) rfl (by kernel_rfl) (by kernel_rfl) (by kernel_rfl) (fun _ _ _ h => h) (Or.inl ⟨by rfl, ?hy54⟩) (by assumption) ?_
          case hy54 => (intro w hSw; (try dsimp only at hSw); go_simp; (try (with_reducible rfl)))
          (try simp only [Act.put, List.setIfInBounds_toArray, List.set_cons_zero, List.set_cons_succ])
          refine wpAnyH_take (i := 3) (oi := ⟨_, _, _, _, _, _⟩) (v := ?v55) rfl (by kernel_rfl) (by kernel_rfl) (by kernel_rfl) (fun _ _ _ h => h) (Or.inl ⟨by rfl, ?hy55⟩) (by assumption) ?_
          case hy55 => (intro w hSw; (try dsimp only at hSw); go_simp; (try (with_reducible rfl)))
          (try simp only [Act.put, List.setIfInBounds_toArray, List.set_cons_zero, List.set_cons_succ])
          refine wpAnyH_take (i := 4) (oi := ⟨_, _, _, _, _, _⟩) (v := ?v56) rfl (by kernel_rfl) (by kernel_rfl) (by kernel_rfl) (fun _ _ _ h => h) (Or.inl ⟨by rfl, ?hy56⟩) (by assumption) ?_
          case hy56 => (intro w hSw; (try dsimp only at hSw); go_simp; (try (with_reducible rfl)))
          (try simp only [Act.put, List.setIfInBounds_toArray, List.set_cons_zero, List.set_cons_succ])
          refine wpAnyH_take (i := 5) (oi := ⟨_, _, _, _, _, _⟩) (v := ?v57) rfl (by kernel_rfl) (by kernel_rfl) (by kernel_rfl) (fun _ _ _ h => h) (Or.inl ⟨by rfl, ?hy57⟩) (by assumption) ?_
          case hy57 => (intro w hSw; (try dsimp only at hSw); go_simp; (try (with_reducible rfl)))
          (try simp only [Act.put, List.setIfInBounds_toArray, List.set_cons_zero, List.set_cons_succ])
          refine wpAnyH_take (i := 6) (oi := ⟨_, _, _, _, _, _⟩) (v := ?v58) rfl (by kernel_rfl) (by kernel_rfl) (by kernel_rfl) (fun _ _ _ h => h) (Or.inl ⟨by rfl, ?hy58⟩) (by assumption) ?_
          case hy58 => (intro w hSw; (try dsimp only at hSw); go_simp; (try (with_reducible rfl)))
          (try simp only [Act.put, List.setIfInBounds_toArray, List.set_cons_zero, List.set_cons_succ])
          refine wpAnyH_take (i := 7) (oi := ⟨_, _, _, _, _, _⟩) (v := ?v59) rfl (by kernel_rfl) (by kernel_rfl) (by kernel_rfl) (fun _ _ _ h => h) (Or.inl ⟨by rfl, ?hy59⟩) (by assumption) ?_
          case hy59 => (intro w hSw; (try dsimp only at hSw); go_simp; (try (with_reducible rfl)))
          (try simp only [Act.put, List.setIfInBounds_toArray, List.set_cons_zero, List.set_cons_succ])
          refine wpAnyH_ready (rs := [8]) (by kernel_rfl) (by simp) ?_
          refine AllReadyH.cons (o := ⟨_, _, _, _, _, _⟩) rfl (fun K hK => ?_) AllReadyH.nil
          go_simp
          (go_at_call 47; (with_reducible refine (HR.out _ _ HI.out HE.out _).mono ?_); rintro e wq ⟨rfl, hu⟩; have HU := Lib.hid hu; have HSq := Lib.hid (rkeep4 HU (by assumption)); obtain ⟨r0', r1', k0', k1'⟩ := HSq.out.2.1; have z0 := own2 HSq.out.1 0; have z1 := own2 HSq.out.1 1; clear hu; unfold gotR)
          (try go_wp2_with fail)
          refine hK.out _ _ ?hB60 (fun hHeld => ?_)
          case hB60 => (first | (with_reducible exact rkeep4 (by assumption) (by assumption)) | ((repeat (first | (with_reducible assumption) | (with_reducible exact Hid.out (by assumption)) | (with_reducible refine rset4_0 ?_ (by omega) (by omega) (by omega) (by omega) (by omega)) | (with_reducible refine rset4_1 ?_ (by omega) (by omega) (by omega) (by omega) (by omega)))); done) | (exact ⟨by ((repeat (first | (with_reducible exact Up.refl _) | (with_reducible exact HU7.out) | (with_reducible refine Up.alloc ?_ _ _) | (with_reducible refine Up.setCell ?_ ?_ _) | (with_reducible refine Up.drewN ?_ _) | (with_reducible refine Up.drew ?_))); all_goals (first | (simp; done) | (simp; omega) | omega)), ⟨0, 0, by simp [go_sem, *], by simp [go_sem, *]⟩, by simp [go_sem, *], by simp [go_sem, *], by simp [go_sem, *], by simp [go_sem, *]⟩))
          clear hK K
          (try simp only [Act.put, List.setIfInBounds_toArray, List.set_cons_zero, List.set_cons_succ])
          refine wpAnyH_take (i := 9) (oi := ⟨_, _, _, _, _, _⟩) (v := ?v61) rfl (by kernel_rfl) (by kernel_rfl) (by kernel_rfl) (fun _ _ _ h => h) (Or.inl ⟨by rfl, ?hy61⟩) (by assumption) ?_
          case hy61 => (intro w hSw; (try dsimp only at hSw); go_simp; (try (with_reducible rfl)))
          (try simp only [Act.put, List.setIfInBounds_toArray, List.set_cons_zero, List.set_cons_succ])
          refine wpAnyH_take (i := 10) (oi := ⟨_, _, _, _, _, _⟩) (v := ?v62) rfl (by kernel_rfl) (by kernel_rfl) (by kernel_rfl) (fun _ _ _ h => h) (Or.inl ⟨by rfl, ?hy62⟩) (by assumption) ?_
          case hy62 => (intro w hSw; (try dsimp only at hSw); go_simp; (try (with_reducible rfl)))
          (try simp only [Act.put, List.setIfInBounds_toArray, List.set_cons_zero, List.set_cons_succ])
          refine wpAnyH_ready (rs := [11]) (by kernel_rfl) (by simp) ?_
          refine AllReadyH.cons (o := ⟨_, _, _, _, _, _⟩) rfl (fun K hK => ?_) AllReadyH.nil
          go_simp
          refine hK.out _ _ ?hB63 (fun hHeld => ?_)
          case hB63 => (first | (with_reducible exact rkeep4 (by assumption) (by assumption)) | ((repeat (first | (with_reducible assumption) | (with_reducible exact Hid.out (by assumption)) | (with_reducible refine rset4_0 ?_ (by omega) (by omega) (by omega) (by omega) (by omega)) | (with_reducible refine rset4_1 ?_ (by omega) (by omega) (by omega) (by omega) (by omega)))); done) | (exact ⟨by ((repeat (first | (with_reducible exact Up.refl _) | (with_reducible exact HU7.out) | (with_reducible refine Up.alloc ?_ _ _) | (with_reducible refine Up.setCell ?_ ?_ _) | (with_reducible refine Up.drewN ?_ _) | (with_reducible refine Up.drew ?_))); all_goals (first | (simp; done) | (simp; omega) | omega)), ⟨0, 0, by simp [go_sem, *], by simp [go_sem, *]⟩, by simp [go_sem, *], by simp [go_sem, *], by simp [go_sem, *], by simp [go_sem, *]⟩))
          clear hK K
          (try simp only [Act.put, List.setIfInBounds_toArray, List.set_cons_zero, List.set_cons_succ])
          refine wpAnyH_take (i := 12) (oi := ⟨_, _, _, _, _, _⟩) (v := ?v64) rfl (by kernel_rfl) (by kernel_rfl) (by kernel_rfl) (fun _ _ _ h => h) (Or.inl ⟨by rfl, ?hy64⟩) (by assumption) ?_
          case hy64 => (intro w hSw; (try dsimp only at hSw); go_simp; (try (with_reducible rfl)))
          (try simp only [Act.put, List.setIfInBounds_toArray, List.set_cons_zero, List.set_cons_succ])
          refine wpAnyH_done (by kernel_rfl) ?_ _
          all_goals
            go_wp2_with fail
            refine bodyPost_ret (v := .tuple #[.agg #[.int .i64 N, .int .i64 D], .bool B]) (by simp [results, Tryz.results24, go_sem, k0', k1']) rfl ⟨?_, ?_⟩
            · rfl
            · exact And.left (by assumption)
    · have tc : decide (0 ≤ cmpZ X Y) = false := decide_eq_false (by unfold cmpZ; (repeat' split) <;> omega)
      have iv : In2 (Y - X) := by unfold In2 at *; omega
      have HD := Lib.hid (fun W => rsub_v Y X iY iX iv W)
      have HI := Lib.hid iv
      have HE := Lib.hid (show sz false (Y - X) = P by have h := HP.out; simp only [sz_true, sz_false] at h ⊢; omega)
      clear iX iY iS iv hl
      generalize Y - X = v at *
      generalize cmpZ X Y = cz at *
      go_wp2_with fail
      refine (HQ.out _).mono ?_
      rintro e w5 ⟨rfl, hu5⟩
      try unfold got2
      have c5_0 := hu5.keep (w.heap.size + 1 + 1) (0) (.int .i64 0) (by simp [go_sem, *])
      have c5_1 := hu5.keep (w.heap.size + 1 + 1) (1) (.int .i64 0) (by simp [go_sem, *])
      have c5_2 := hu5.keep (g) (0) (.int .u64 (hiZ X)) (by simp [go_sem, *])
      have c5_3 := hu5.keep (g) (1) (.int .u64 (loZ X)) (by simp [go_sem, *])
      have c5_4 := hu5.keep (k) (0) (.int .u64 (hiZ Y)) (by simp [go_sem, *])
      have c5_5 := hu5.keep (k) (1) (.int .u64 (loZ Y)) (by simp [go_sem, *])
      have l5_0 : w.heap.size + 1 + 1 < w5.heap.size := World.block_lt_of_cell? _ _ c5_0
      have m5_0 : w.heap.size + 1 + 1 < w5.heap.size + 1 := by omega
      have n5_0 : w.heap.size + 1 + 1 < w5.heap.size + 1 + 1 := by omega
      have x5_0 : ¬ w5.heap.size = w.heap.size + 1 + 1 := by omega
      have y5_0 : ¬ w5.heap.size + 1 = w.heap.size + 1 + 1 := by omega
      have l5_1 : g < w5.heap.size := World.block_lt_of_cell? _ _ c5_2
      have m5_1 : g < w5.heap.size + 1 := by omega
      have n5_1 : g < w5.heap.size + 1 + 1 := by omega
      have x5_1 : ¬ w5.heap.size = g := by omega
      have y5_1 : ¬ w5.heap.size + 1 = g := by omega
      have l5_2 : k < w5.heap.size := World.block_lt_of_cell? _ _ c5_4
      have m5_2 : k < w5.heap.size + 1 := by omega
      have n5_2 : k < w5.heap.size + 1 + 1 := by omega
      have x5_2 : ¬ w5.heap.size = k := by omega
      have y5_2 : ¬ w5.heap.size + 1 = k := by omega
      have HU5 : Hid (Up w w5) := Lib.hid (by ((repeat (first | (with_reducible exact Up.refl _) | (with_reducible exact HU4.out) | (with_reducible refine Up.trans ?_ hu5) | (with_reducible refine Up.alloc ?_ _ _) | (with_reducible refine Up.setCell ?_ ?_ _) | (with_reducible refine Up.drewN ?_ _) | (with_reducible refine Up.drew ?_))); all_goals (first | (simp; done) | (simp; omega) | omega)))
      clear hu5
      go_wp2_with fail
      refine (HC.out _).mono ?_
      rintro e w6 ⟨rfl, hu6⟩
      try unfold got2
      have c6_0 := hu6.keep (w.heap.size + 1 + 1) (0) (.int .i64 0) (by simp [go_sem, *])
      have c6_1 := hu6.keep (w.heap.size + 1 + 1) (1) (.int .i64 0) (by simp [go_sem, *])
      have c6_2 := hu6.keep (g) (0) (.int .u64 (hiZ X)) (by simp [go_sem, *])
      have c6_3 := hu6.keep (g) (1) (.int .u64 (loZ X)) (by simp [go_sem, *])
      have c6_4 := hu6.keep (k) (0) (.int .u64 (hiZ Y)) (by simp [go_sem, *])
      have c6_5 := hu6.keep (k) (1) (.int .u64 (loZ Y)) (by simp [go_sem, *])
      have c6_6 := hu6.keep (w5.heap.size) (0) (.int .u64 (hiZ q)) (by simp [go_sem, *])
      have c6_7 := hu6.keep (w5.heap.size) (1) (.int .u64 (loZ q)) (by simp [go_sem, *])
      have l6_0 : w.heap.size + 1 + 1 < w6.heap.size := World.block_lt_of_cell? _ _ c6_0
      have m6_0 : w.heap.size + 1 + 1 < w6.heap.size + 1 := by omega
      have n6_0 : w.heap.size + 1 + 1 < w6.heap.size + 1 + 1 := by omega
      have x6_0 : ¬ w6.heap.size = w.heap.size + 1 + 1 := by omega
      have y6_0 : ¬ w6.heap.size + 1 = w.heap.size + 1 + 1 := by omega
      have l6_1 : g < w6.heap.size := World.block_lt_of_cell? _ _ c6_2
      have m6_1 : g < w6.heap.size + 1 := by omega
      have n6_1 : g < w6.heap.size + 1 + 1 := by omega
      have x6_1 : ¬ w6.heap.size = g := by omega
      have y6_1 : ¬ w6.heap.size + 1 = g := by omega
      have l6_2 : k < w6.heap.size := World.block_lt_of_cell? _ _ c6_4
      have m6_2 : k < w6.heap.size + 1 := by omega
      have n6_2 : k < w6.heap.size + 1 + 1 := by omega
      have x6_2 : ¬ w6.heap.size = k := by omega
      have y6_2 : ¬ w6.heap.size + 1 = k := by omega
      have l6_3 : w5.heap.size < w6.heap.size := World.block_lt_of_cell? _ _ c6_6
      have m6_3 : w5.heap.size < w6.heap.size + 1 := by omega
      have n6_3 : w5.heap.size < w6.heap.size + 1 + 1 := by omega
      have x6_3 : ¬ w6.heap.size = w5.heap.size := by omega
      have y6_3 : ¬ w6.heap.size + 1 = w5.heap.size := by omega
      have HU6 : Hid (Up w w6) := Lib.hid (by ((repeat (first | (with_reducible exact Up.refl _) | (with_reducible exact HU5.out) | (with_reducible refine Up.trans ?_ hu6) | (with_reducible refine Up.alloc ?_ _ _) | (with_reducible refine Up.setCell ?_ ?_ _) | (with_reducible refine Up.drewN ?_ _) | (with_reducible refine Up.drew ?_))); all_goals (first | (simp; done) | (simp; omega) | omega)))
      clear hu6 c5_0 c5_1 c5_2 c5_3 c5_4 c5_5
      go_wp2_with fail
      refine (HD.out _).mono ?_
      rintro e w7 ⟨rfl, hu7⟩
      try unfold got2
      have c7_0 := hu7.keep (w.heap.size + 1 + 1) (0) (.int .i64 0) (by simp [go_sem, *])
      have c7_1 := hu7.keep (w.heap.size + 1 + 1) (1) (.int .i64 0) (by simp [go_sem, *])
      have c7_2 := hu7.keep (w5.heap.size) (0) (.int .u64 (hiZ q)) (by simp [go_sem, *])
      have c7_3 := hu7.keep (w5.heap.size) (1) (.int .u64 (loZ q)) (by simp [go_sem, *])
      have l7_0 : w.heap.size + 1 + 1 < w7.heap.size := World.block_lt_of_cell? _ _ c7_0
      have m7_0 : w.heap.size + 1 + 1 < w7.heap.size + 1 := by omega
      have n7_0 : w.heap.size + 1 + 1 < w7.heap.size + 1 + 1 := by omega
      have x7_0 : ¬ w7.heap.size = w.heap.size + 1 + 1 := by omega
      have y7_0 : ¬ w7.heap.size + 1 = w.heap.size + 1 + 1 := by omega
      have l7_1 : w5.heap.size < w7.heap.size := World.block_lt_of_cell? _ _ c7_2
      have m7_1 : w5.heap.size < w7.heap.size + 1 := by omega
      have n7_1 : w5.heap.size < w7.heap.size + 1 + 1 := by omega
      have x7_1 : ¬ w7.heap.size = w5.heap.size := by omega
      have y7_1 : ¬ w7.heap.size + 1 = w5.heap.size := by omega
      have HU7 : Hid (Up w w7) := Lib.hid (by ((repeat (first | (with_reducible exact Up.refl _) | (with_reducible exact HU6.out) | (with_reducible refine Up.trans ?_ hu7) | (with_reducible refine Up.alloc ?_ _ _) | (with_reducible refine Up.setCell ?_ ?_ _) | (with_reducible refine Up.drewN ?_ _) | (with_reducible refine Up.drew ?_))); all_goals (first | (simp; done) | (simp; omega) | omega)))
      clear hu7 c6_0 c6_1 c6_2 c6_3 c6_4 c6_5 c6_6 c6_7
      go_wp2_with fail
      refine (HR.out _ _ HI.out HE.out _).mono ?_
      rintro e w8 ⟨rfl, hu8⟩
      try unfold got2
      have c8_0 := hu8.keep (w.heap.size + 1 + 1) (0) (.int .i64 0) (by simp [go_sem, *])
      have c8_1 := hu8.keep (w.heap.size + 1 + 1) (1) (.int .i64 0) (by simp [go_sem, *])
      have l8_0 : w.heap.size + 1 + 1 < w8.heap.size := World.block_lt_of_cell? _ _ c8_0
      have m8_0 : w.heap.size + 1 + 1 < w8.heap.size + 1 := by omega
      have n8_0 : w.heap.size + 1 + 1 < w8.heap.size + 1 + 1 := by omega
      have x8_0 : ¬ w8.heap.size = w.heap.size + 1 + 1 := by omega
      have y8_0 : ¬ w8.heap.size + 1 = w.heap.size + 1 + 1 := by omega
      have HU8 : Hid (Up w w8) := Lib.hid (by ((repeat (first | (with_reducible exact Up.refl _) | (with_reducible exact HU7.out) | (with_reducible refine Up.trans ?_ hu8) | (with_reducible refine Up.alloc ?_ _ _) | (with_reducible refine Up.setCell ?_ ?_ _) | (with_reducible refine Up.drewN ?_ _) | (with_reducible refine Up.drew ?_))); all_goals (first | (simp; done) | (simp; omega) | omega)))
      clear hu8 c7_0 c7_1 c7_2 c7_3
      unfold gotR
      have z0 := own2 HU8.out 0
      have z1 := own2 HU8.out 1
      go_wp2_with fail
      refine bodyPost_ret (v := .tuple #[.agg #[.int .i64 N, .int .i64 D], .bool B]) (by simp [results, Tryz.results24, go_sem, c8_0, c8_1]) rfl ⟨?_, ?_⟩
      · rfl
      · ((repeat (first | (with_reducible exact Up.refl _) | (with_reducible exact HU8.out) | (with_reducible refine Up.alloc ?_ _ _) | (with_reducible refine Up.setCell ?_ ?_ _) | (with_reducible refine Up.drewN ?_ _) | (with_reducible refine Up.drew ?_))); all_goals (first | (simp; done) | (simp; omega) | omega))
  · have HA := Lib.hid (fun W => radd_v X Y iX iY iS W)
    have HI := Lib.hid iS
    have ev : sz true (X + Y) = P := by have h := HP.out; simp only [sz_true] at h ⊢; omega
    clear iX iY iS
    generalize X + Y = v at *
    by_cases hz : v = 0
    · obtain ⟨t3, t4⟩ := xzero hz
      have HE := Lib.hid (show sz false v = P by rw [sz_false]; rw [sz_true] at ev; omega)
      clear hz ev
      go_wp2_with fail
      refine (HQ.out _).mono ?_
      rintro e w5 ⟨rfl, hu5⟩
      try unfold got2
      have c5_0 := hu5.keep (w.heap.size + 1 + 1) (0) (.int .i64 0) (by simp [go_sem, *])
      have c5_1 := hu5.keep (w.heap.size + 1 + 1) (1) (.int .i64 0) (by simp [go_sem, *])
      have c5_2 := hu5.keep (g) (0) (.int .u64 (hiZ X)) (by simp [go_sem, *])
      have c5_3 := hu5.keep (g) (1) (.int .u64 (loZ X)) (by simp [go_sem, *])
      have c5_4 := hu5.keep (k) (0) (.int .u64 (hiZ Y)) (by simp [go_sem, *])
      have c5_5 := hu5.keep (k) (1) (.int .u64 (loZ Y)) (by simp [go_sem, *])
      have l5_0 : w.heap.size + 1 + 1 < w5.heap.size := World.block_lt_of_cell? _ _ c5_0
      have m5_0 : w.heap.size + 1 + 1 < w5.heap.size + 1 := by omega
      have n5_0 : w.heap.size + 1 + 1 < w5.heap.size + 1 + 1 := by omega
      have x5_0 : ¬ w5.heap.size = w.heap.size + 1 + 1 := by omega
      have y5_0 : ¬ w5.heap.size + 1 = w.heap.size + 1 + 1 := by omega
      have l5_1 : g < w5.heap.size := World.block_lt_of_cell? _ _ c5_2
      have m5_1 : g < w5.heap.size + 1 := by omega
      have n5_1 : g < w5.heap.size + 1 + 1 := by omega
      have x5_1 : ¬ w5.heap.size = g := by omega
      have y5_1 : ¬ w5.heap.size + 1 = g := by omega
      have l5_2 : k < w5.heap.size := World.block_lt_of_cell? _ _ c5_4
      have m5_2 : k < w5.heap.size + 1 := by omega
      have n5_2 : k < w5.heap.size + 1 + 1 := by omega
      have x5_2 : ¬ w5.heap.size = k := by omega
      have y5_2 : ¬ w5.heap.size + 1 = k := by omega
      have HU5 : Hid (Up w w5) := Lib.hid (by ((repeat (first | (with_reducible exact Up.refl _) | (with_reducible exact HU4.out) | (with_reducible refine Up.trans ?_ hu5) | (with_reducible refine Up.alloc ?_ _ _) | (with_reducible refine Up.setCell ?_ ?_ _) | (with_reducible refine Up.drewN ?_ _) | (with_reducible refine Up.drew ?_))); all_goals (first | (simp; done) | (simp; omega) | omega)))
      clear hu5
      go_wp2_with fail
      refine (HA.out _).mono ?_
      rintro e w6 ⟨rfl, hu6⟩
      try unfold got2
      have c6_0 := hu6.keep (w.heap.size + 1 + 1) (0) (.int .i64 0) (by simp [go_sem, *])
      have c6_1 := hu6.keep (w.heap.size + 1 + 1) (1) (.int .i64 0) (by simp [go_sem, *])
      have c6_2 := hu6.keep (w5.heap.size) (0) (.int .u64 (hiZ q)) (by simp [go_sem, *])
      have c6_3 := hu6.keep (w5.heap.size) (1) (.int .u64 (loZ q)) (by simp [go_sem, *])
      have l6_0 : w.heap.size + 1 + 1 < w6.heap.size := World.block_lt_of_cell? _ _ c6_0
      have m6_0 : w.heap.size + 1 + 1 < w6.heap.size + 1 := by omega
      have n6_0 : w.heap.size + 1 + 1 < w6.heap.size + 1 + 1 := by omega
      have x6_0 : ¬ w6.heap.size = w.heap.size + 1 + 1 := by omega
      have y6_0 : ¬ w6.heap.size + 1 = w.heap.size + 1 + 1 := by omega
      have l6_1 : w5.heap.size < w6.heap.size := World.block_lt_of_cell? _ _ c6_2
      have m6_1 : w5.heap.size < w6.heap.size + 1 := by omega
      have n6_1 : w5.heap.size < w6.heap.size + 1 + 1 := by omega
      have x6_1 : ¬ w6.heap.size = w5.heap.size := by omega
      have y6_1 : ¬ w6.heap.size + 1 = w5.heap.size := by omega
      have HU6 : Hid (Up w w6) := Lib.hid (by ((repeat (first | (with_reducible exact Up.refl _) | (with_reducible exact HU5.out) | (with_reducible refine Up.trans ?_ hu6) | (with_reducible refine Up.alloc ?_ _ _) | (with_reducible refine Up.setCell ?_ ?_ _) | (with_reducible refine Up.drewN ?_ _) | (with_reducible refine Up.drew ?_))); all_goals (first | (simp; done) | (simp; omega) | omega)))
      clear hu6 c5_0 c5_1 c5_2 c5_3 c5_4 c5_5
      go_wp2_with fail
      refine wp_region_held_drew (S := fun w' => Up w w' ∧ Res2 w' (w.heap.size + 1 + 1) ∧ w'.cell? ⟨w6.heap.size, 0, none⟩ = some (.int .u64 (hiZ v)) ∧ w'.cell? ⟨w6.heap.size, 1, none⟩ = some (.int .u64 (loZ v)) ∧ w'.cell? ⟨w5.heap.size, 0, none⟩ = some (.int .u64 (hiZ q)) ∧ w'.cell? ⟨w5.heap.size, 1, none⟩ = some (.int .u64 (loZ q))) (by kernel_rfl) ?hB65 (fun hHeld => ?_)
      case hB65 => (first | (with_reducible exact rkeep4 (by assumption) (by assumption)) | ((repeat (first | (with_reducible assumption) | (with_reducible exact Hid.out (by assumption)) | (with_reducible refine rset4_0 ?_ (by omega) (by omega) (by omega) (by omega) (by omega)) | (with_reducible refine rset4_1 ?_ (by omega) (by omega) (by omega) (by omega) (by omega)))); done) | (exact ⟨by ((repeat (first | (with_reducible exact Up.refl _) | (with_reducible exact HU6.out) | (with_reducible refine Up.alloc ?_ _ _) | (with_reducible refine Up.setCell ?_ ?_ _) | (with_reducible refine Up.drewN ?_ _) | (with_reducible refine Up.drew ?_))); all_goals (first | (simp; done) | (simp; omega) | omega)), ⟨0, 0, by simp [go_sem, *], by simp [go_sem, *]⟩, by simp [go_sem, *], by simp [go_sem, *], by simp [go_sem, *], by simp [go_sem, *]⟩))
      refine wpAnyH_take (i := 0) (oi := ⟨_, _, _, _, _, _⟩) (v := ?v66) rfl (by kernel_rfl) (by kernel_rfl) (by kernel_rfl) (fun _ _ _ h => h) (Or.inl ⟨by rfl, ?hy66⟩) (by assumption) ?_
      case hy66 => (intro w hSw; (try dsimp only at hSw); go_simp; (try (with_reducible rfl)))
      (try simp only [Act.put, List.setIfInBounds_toArray, List.set_cons_zero, List.set_cons_succ])
      refine wpAnyH_take (i := 1) (oi := ⟨_, _, _, _, _, _⟩) (v := ?v67) rfl (by kernel_rfl) (by kernel_rfl) (by kernel_rfl) (fun _ _ _ h => h) (Or.inl ⟨by rfl, ?hy67⟩) (by assumption) ?_
      case hy67 => (intro w hSw; (try dsimp only at hSw); go_simp; (try (with_reducible rfl)))
      (try simp only [Act.put, List.setIfInBounds_toArray, List.set_cons_zero, List.set_cons_succ])
      refine wpAnyH_take (i := 2) (oi := ⟨_, _, _, _, _, _⟩) (v := ?v68) rfl (by kernel_rfl) (by kernel_rfl) (by kernel_rfl) (fun _ _ _ h => h) (Or.inl ⟨by rfl, ?hy68⟩) (by assumption) ?_
      case hy68 => (intro w hSw; (try dsimp only at hSw); go_simp; (try (with_reducible rfl)))
      (try simp only [Act.put, List.setIfInBounds_toArray, List.set_cons_zero, List.set_cons_succ])
      refine wpAnyH_take (i := 3) (oi := ⟨_, _, _, _, _, _⟩) (v := ?v69) rfl (by kernel_rfl) (by kernel_rfl) (by kernel_rfl) (fun _ _ _ h => h) (Or.inl ⟨by rfl, ?hy69⟩) (by assumption) ?_
      case hy69 => (intro w hSw; (try dsimp only at hSw); go_simp; (try (with_reducible rfl)))
      (try simp only [Act.put, List.setIfInBounds_toArray, List.set_cons_zero, List.set_cons_succ])
      refine wpAnyH_take (i := 4) (oi := ⟨_, _, _, _, _, _⟩) (v := ?v70) rfl (by kernel_rfl) (by kernel_rfl) (by kernel_rfl) (fun _ _ _ h => h) (Or.inl ⟨by rfl, ?hy70⟩) (by assumption) ?_
      case hy70 => (intro w hSw; (try dsimp only at hSw); go_simp; (try (with_reducible rfl)))
      (try simp only [Act.put, List.setIfInBounds_toArray, List.set_cons_zero, List.set_cons_succ])
      refine wpAnyH_take (i := 5) (oi := ⟨_, _, _, _, _, _⟩) (v := ?v71) rfl (by kernel_rfl) (by kernel_rfl) (by kernel_rfl) (fun _ _ _ h => h) (Or.inl ⟨by rfl, ?hy71⟩) (by assumption) ?_
      case hy71 => (intro w hSw; (try dsimp only at hSw); go_simp; (try (with_reducible rfl)))
      (try simp only [Act.put, List.setIfInBounds_toArray, List.set_cons_zero, List.set_cons_succ])
      refine wpAnyH_take (i := 6) (oi := ⟨_, _, _, _, _, _⟩) (v := ?v72) rfl (by kernel_rfl) (by kernel_rfl) (by kernel_rfl) (fun _ _ _ h => h) (Or.inl ⟨by rfl, ?hy72⟩) (by assumption) ?_
      case hy72 => (intro w hSw; (try dsimp only at hSw); go_simp; (try (with_reducible rfl)))
      (try simp only [Act.put, List.setIfInBounds_toArray, List.set_cons_zero, List.set_cons_succ])
      refine wpAnyH_take (i := 7) (oi := ⟨_, _, _, _, _, _⟩) (v := ?v73) rfl (by kernel_rfl) (by kernel_rfl) (by kernel_rfl) (fun _ _ _ h => h) (Or.inl ⟨by rfl, ?hy73⟩) (by assumption) ?_
      case hy73 => (intro w hSw; (try dsimp only at hSw); go_simp; (try (with_reducible rfl)))
      (try simp only [Act.put, List.setIfInBounds_toArray, List.set_cons_zero, List.set_cons_succ])
      refine wpAnyH_ready (rs := [8]) (by kernel_rfl) (by simp) ?_
      refine AllReadyH.cons (o := ⟨_, _, _, _, _, _⟩) rfl (fun K hK => ?_) AllReadyH.nil
      go_simp
      (go_at_call 47; (with_reducible refine (HR.out _ _ HI.out HE.out _).mono ?_); rintro e wq ⟨rfl, hu⟩; have HU := Lib.hid hu; have HSq := Lib.hid (rkeep4 HU (by assumption)); obtain ⟨r0', r1', k0', k1'⟩ := HSq.out.2.1; have z0 := own2 HSq.out.1 0; have z1 := own2 HSq.out.1 1; clear hu; unfold gotR)
      (try go_wp2_with fail)
      refine hK.out _ _ ?hB74 (fun hHeld => ?_)
      case hB74 => (first | (with_reducible exact rkeep4 (by assumption) (by assumption)) | ((repeat (first | (with_reducible assumption) | (with_reducible exact Hid.out (by assumption)) | (with_reducible refine rset4_0 ?_ (by omega) (by omega) (by omega) (by omega) (by omega)) | (with_reducible refine rset4_1 ?_ (by omega) (by omega) (by omega) (by omega) (by omega)))); done) | (exact ⟨by ((repeat (first | (with_reducible exact Up.refl _) | (with_reducible exact HU6.out) | (with_reducible refine Up.alloc ?_ _ _) | (with_reducible refine Up.setCell ?_ ?_ _) | (with_reducible refine Up.drewN ?_ _) | (with_reducible refine Up.drew ?_))); all_goals (first | (simp; done) | (simp; omega) | omega)), ⟨0, 0, by simp [go_sem, *], by simp [go_sem, *]⟩, by simp [go_sem, *], by simp [go_sem, *], by simp [go_sem, *], by simp [go_sem, *]⟩))
      clear hK K
      (try simp only [Act.put, List.setIfInBounds_toArray, List.set_cons_zero, List.set_cons_succ])
      refine wpAnyH_take (i := 9) (oi := ⟨_, _, _, _, _, _⟩) (v := ?v75) rfl (by kernel_rfl) (by kernel_rfl) (by kernel_rfl) (fun _ _ _ h => h) (Or.inl ⟨by rfl, ?hy75⟩) (by assumption) ?_
      case hy75 => (intro w hSw; (try dsimp only at hSw); go_simp; (try (with_reducible rfl)))
      (try simp only [Act.put, List.setIfInBounds_toArray, List.set_cons_zero, List.set_cons_succ])
      refine wpAnyH_take (i := 10) (oi := ⟨_, _, _, _, _, _⟩) (v := ?v76) rfl (by kernel_rfl) (by kernel_rfl) (by kernel_rfl) (fun _ _ _ h => h) (Or.inl ⟨by rfl, ?hy76⟩) (by assumption) ?_
      case hy76 => (intro w hSw; (try dsimp only at hSw); go_simp; (try (with_reducible rfl)))
      (try simp only [Act.put, List.setIfInBounds_toArray, List.set_cons_zero, List.set_cons_succ])
      refine wpAnyH_ready (rs := [11]) (by kernel_rfl) (by simp) ?_
      refine AllReadyH.cons (o := ⟨_, _, _, _, _, _⟩) rfl (fun K hK => ?_) AllReadyH.nil
      go_simp
      refine hK.out _ _ ?hB77 (fun hHeld => ?_)
      case hB77 => (first | (with_reducible exact rkeep4 (by assumption) (by assumption)) | ((repeat (first | (with_reducible assumption) | (with_reducible exact Hid.out (by assumption)) | (with_reducible refine rset4_0 ?_ (by omega) (by omega) (by omega) (by omega) (by omega)) | (with_reducible refine rset4_1 ?_ (by omega) (by omega) (by omega) (by omega) (by omega)))); done) | (exact ⟨by ((repeat (first | (with_reducible exact Up.refl _) | (with_reducible exact HU6.out) | (with_reducible refine Up.alloc ?_ _ _) | (with_reducible refine Up.setCell ?_ ?_ _) | (with_reducible refine Up.drewN ?_ _) | (with_reducible refine Up.drew ?_))); all_goals (first | (simp; done) | (simp; omega) | omega)), ⟨0, 0, by simp [go_sem, *], by simp [go_sem, *]⟩, by simp [go_sem, *], by simp [go_sem, *], by simp [go_sem, *], by simp [go_sem, *]⟩))
      clear hK K
      (try simp only [Act.put, List.setIfInBounds_toArray, List.set_cons_zero, List.set_cons_succ])
      refine wpAnyH_take (i := 12) (oi := ⟨_, _, _, _, _, _⟩) (v := ?v78) rfl (by kernel_rfl) (by kernel_rfl) (by kernel_rfl) (fun _ _ _ h => h) (Or.inl ⟨by rfl, ?hy78⟩) (by assumption) ?_
      case hy78 => (intro w hSw; (try dsimp only at hSw); go_simp; (try (with_reducible rfl)))
      (try simp only [Act.put, List.setIfInBounds_toArray, List.set_cons_zero, List.set_cons_succ])
      refine wpAnyH_done (by kernel_rfl) ?_ _
      all_goals
        go_wp2_with fail
        refine bodyPost_ret (v := .tuple #[.agg #[.int .i64 N, .int .i64 D], .bool B]) (by simp [results, Tryz.results24, go_sem, k0', k1']) rfl ⟨?_, ?_⟩
        · rfl
        · exact And.left (by assumption)
    · have HE := Lib.hid (show sz true v = P from ev)
      clear ev
      rcases tests_v hz with t3 | ⟨t3, t4⟩
      · clear hz
        go_wp2_with fail
        refine (HQ.out _).mono ?_
        rintro e w5 ⟨rfl, hu5⟩
        try unfold got2
        have c5_0 := hu5.keep (w.heap.size + 1 + 1) (0) (.int .i64 0) (by simp [go_sem, *])
        have c5_1 := hu5.keep (w.heap.size + 1 + 1) (1) (.int .i64 0) (by simp [go_sem, *])
        have c5_2 := hu5.keep (g) (0) (.int .u64 (hiZ X)) (by simp [go_sem, *])
        have c5_3 := hu5.keep (g) (1) (.int .u64 (loZ X)) (by simp [go_sem, *])
        have c5_4 := hu5.keep (k) (0) (.int .u64 (hiZ Y)) (by simp [go_sem, *])
        have c5_5 := hu5.keep (k) (1) (.int .u64 (loZ Y)) (by simp [go_sem, *])
        have l5_0 : w.heap.size + 1 + 1 < w5.heap.size := World.block_lt_of_cell? _ _ c5_0
        have m5_0 : w.heap.size + 1 + 1 < w5.heap.size + 1 := by omega
        have n5_0 : w.heap.size + 1 + 1 < w5.heap.size + 1 + 1 := by omega
        have x5_0 : ¬ w5.heap.size = w.heap.size + 1 + 1 := by omega
        have y5_0 : ¬ w5.heap.size + 1 = w.heap.size + 1 + 1 := by omega
        have l5_1 : g < w5.heap.size := World.block_lt_of_cell? _ _ c5_2
        have m5_1 : g < w5.heap.size + 1 := by omega
        have n5_1 : g < w5.heap.size + 1 + 1 := by omega
        have x5_1 : ¬ w5.heap.size = g := by omega
        have y5_1 : ¬ w5.heap.size + 1 = g := by omega
        have l5_2 : k < w5.heap.size := World.block_lt_of_cell? _ _ c5_4
        have m5_2 : k < w5.heap.size + 1 := by omega
        have n5_2 : k < w5.heap.size + 1 + 1 := by omega
        have x5_2 : ¬ w5.heap.size = k := by omega
        have y5_2 : ¬ w5.heap.size + 1 = k := by omega
        have HU5 : Hid (Up w w5) := Lib.hid (by ((repeat (first | (with_reducible exact Up.refl _) | (with_reducible exact HU4.out) | (with_reducible refine Up.trans ?_ hu5) | (with_reducible refine Up.alloc ?_ _ _) | (with_reducible refine Up.setCell ?_ ?_ _) | (with_reducible refine Up.drewN ?_ _) | (with_reducible refine Up.drew ?_))); all_goals (first | (simp; done) | (simp; omega) | omega)))
        clear hu5
        go_wp2_with fail
        refine (HA.out _).mono ?_
        rintro e w6 ⟨rfl, hu6⟩
        try unfold got2
        have c6_0 := hu6.keep (w.heap.size + 1 + 1) (0) (.int .i64 0) (by simp [go_sem, *])
        have c6_1 := hu6.keep (w.heap.size + 1 + 1) (1) (.int .i64 0) (by simp [go_sem, *])
        have c6_2 := hu6.keep (w5.heap.size) (0) (.int .u64 (hiZ q)) (by simp [go_sem, *])
        have c6_3 := hu6.keep (w5.heap.size) (1) (.int .u64 (loZ q)) (by simp [go_sem, *])
        have l6_0 : w.heap.size + 1 + 1 < w6.heap.size := World.block_lt_of_cell? _ _ c6_0
        have m6_0 : w.heap.size + 1 + 1 < w6.heap.size + 1 := by omega
        have n6_0 : w.heap.size + 1 + 1 < w6.heap.size + 1 + 1 := by omega
        have x6_0 : ¬ w6.heap.size = w.heap.size + 1 + 1 := by omega
        have y6_0 : ¬ w6.heap.size + 1 = w.heap.size + 1 + 1 := by omega
        have l6_1 : w5.heap.size < w6.heap.size := World.block_lt_of_cell? _ _ c6_2
        have m6_1 : w5.heap.size < w6.heap.size + 1 := by omega
        have n6_1 : w5.heap.size < w6.heap.size + 1 + 1 := by omega
        have x6_1 : ¬ w6.heap.size = w5.heap.size := by omega
        have y6_1 : ¬ w6.heap.size + 1 = w5.heap.size := by omega
        have HU6 : Hid (Up w w6) := Lib.hid (by ((repeat (first | (with_reducible exact Up.refl _) | (with_reducible exact HU5.out) | (with_reducible refine Up.trans ?_ hu6) | (with_reducible refine Up.alloc ?_ _ _) | (with_reducible refine Up.setCell ?_ ?_ _) | (with_reducible refine Up.drewN ?_ _) | (with_reducible refine Up.drew ?_))); all_goals (first | (simp; done) | (simp; omega) | omega)))
        clear hu6 c5_0 c5_1 c5_2 c5_3 c5_4 c5_5
        go_wp2_with fail
        refine wp_region_held_drew (S := fun w' => Up w w' ∧ Res2 w' (w.heap.size + 1 + 1) ∧ w'.cell? ⟨w6.heap.size, 0, none⟩ = some (.int .u64 (hiZ v)) ∧ w'.cell? ⟨w6.heap.size, 1, none⟩ = some (.int .u64 (loZ v)) ∧ w'.cell? ⟨w5.heap.size, 0, none⟩ = some (.int .u64 (hiZ q)) ∧ w'.cell? ⟨w5.heap.size, 1, none⟩ = some (.int .u64 (loZ q))) (by kernel_rfl) ?hB79 (fun hHeld => ?_)
        case hB79 => (first | (with_reducible exact rkeep4 (by assumption) (by assumption)) | ((repeat (first | (with_reducible assumption) | (with_reducible exact Hid.out (by assumption)) | (with_reducible refine rset4_0 ?_ (by omega) (by omega) (by omega) (by omega) (by omega)) | (with_reducible refine rset4_1 ?_ (by omega) (by omega) (by omega) (by omega) (by omega)))); done) | (exact ⟨by ((repeat (first | (with_reducible exact Up.refl _) | (with_reducible exact HU6.out) | (with_reducible refine Up.alloc ?_ _ _) | (with_reducible refine Up.setCell ?_ ?_ _) | (with_reducible refine Up.drewN ?_ _) | (with_reducible refine Up.drew ?_))); all_goals (first | (simp; done) | (simp; omega) | omega)), ⟨0, 0, by simp [go_sem, *], by simp [go_sem, *]⟩, by simp [go_sem, *], by simp [go_sem, *], by simp [go_sem, *], by simp [go_sem, *]⟩))
        refine wpAnyH_take (i := 0) (oi := ⟨_, _, _, _, _, _⟩) (v := ?v80) rfl (by kernel_rfl) (by kernel_rfl) (by kernel_rfl) (fun _ _ _ h => h) (Or.inl ⟨by rfl, ?hy80⟩) (by assumption) ?_
        case hy80 => (intro w hSw; (try dsimp only at hSw); go_simp; (try (with_reducible rfl)))
        (try simp only [Act.put, List.setIfInBounds_toArray, List.set_cons_zero, List.set_cons_succ])
        refine wpAnyH_take (i := 1) (oi := ⟨_, _, _, _, _, _⟩) (v := ?v81) rfl (by kernel_rfl) (by kernel_rfl) (by kernel_rfl) (fun _ _ _ h => h) (Or.inl ⟨by rfl, ?hy81⟩) (by assumption) ?_
        case hy81 => (intro w hSw; (try dsimp only at hSw); go_simp; (try (with_reducible rfl)))
        (try simp only [Act.put, List.setIfInBounds_toArray, List.set_cons_zero, List.set_cons_succ])
        refine wpAnyH_take (i := 2) (oi := ⟨_, _, _, _, _, _⟩) (v := ?v82) rfl (by kernel_rfl) (by kernel_rfl) (by kernel_rfl) (fun _ _ _ h => h) (Or.inl ⟨by rfl, ?hy82⟩) (by assumption) ?_
        case hy82 => (intro w hSw; (try dsimp only at hSw); go_simp; (try (with_reducible rfl)))
        (try simp only [Act.put, List.setIfInBounds_toArray, List.set_cons_zero, List.set_cons_succ])
        refine wpAnyH_take (i := 3) (oi := ⟨_, _, _, _, _, _⟩) (v := ?v83) rfl (by kernel_rfl) (by kernel_rfl) (by kernel_rfl) (fun _ _ _ h => h) (Or.inl ⟨by rfl, ?hy83⟩) (by assumption) ?_
        case hy83 => (intro w hSw; (try dsimp only at hSw); go_simp; (try (with_reducible rfl)))
        (try simp only [Act.put, List.setIfInBounds_toArray, List.set_cons_zero, List.set_cons_succ])
        refine wpAnyH_take (i := 4) (oi := ⟨_, _, _, _, _, _⟩) (v := ?v84) rfl (by kernel_rfl) (by kernel_rfl) (by kernel_rfl) (fun _ _ _ h => h) (Or.inl ⟨by rfl, ?hy84⟩) (by assumption) ?_
        case hy84 => (intro w hSw; (try dsimp only at hSw); go_simp; (try (with_reducible rfl)))
        (try simp only [Act.put, List.setIfInBounds_toArray, List.set_cons_zero, List.set_cons_succ])
        refine wpAnyH_take (i := 5) (oi := ⟨_, _, _, _, _, _⟩) (v := ?v85) rfl (by kernel_rfl) (by kernel_rfl) (by kernel_rfl) (fun _ _ _ h => h) (Or.inl ⟨by rfl, ?hy85⟩) (by assumption) ?_
        case hy85 => (intro w hSw; (try dsimp only at hSw); go_simp; (try (with_reducible rfl)))
        (try simp only [Act.put, List.setIfInBounds_toArray, List.set_cons_zero, List.set_cons_succ])
        refine wpAnyH_take (i := 6) (oi := ⟨_, _, _, _, _, _⟩) (v := ?v86) rfl (by kernel_rfl) (by kernel_rfl) (by kernel_rfl) (fun _ _ _ h => h) (Or.inl ⟨by rfl, ?hy86⟩) (by assumption) ?_
        case hy86 => (intro w hSw; (try dsimp only at hSw); go_simp; (try (with_reducible rfl)))
        (try simp only [Act.put, List.setIfInBounds_toArray, List.set_cons_zero, List.set_cons_succ])
        refine wpAnyH_take (i := 7) (oi := ⟨_, _, _, _, _, _⟩) (v := ?v87) rfl (by kernel_rfl) (by kernel_rfl) (by kernel_rfl) (fun _ _ _ h => h) (Or.inl ⟨by rfl, ?hy87⟩) (by assumption) ?_
        case hy87 => (intro w hSw; (try dsimp only at hSw); go_simp; (try (with_reducible rfl)))
        (try simp only [Act.put, List.setIfInBounds_toArray, List.set_cons_zero, List.set_cons_succ])
        refine wpAnyH_ready (rs := [8]) (by kernel_rfl) (by simp) ?_
        refine AllReadyH.cons (o := ⟨_, _, _, _, _, _⟩) rfl (fun K hK => ?_) AllReadyH.nil
        go_simp
        (go_at_call 47; (with_reducible refine (HR.out _ _ HI.out HE.out _).mono ?_); rintro e wq ⟨rfl, hu⟩; have HU := Lib.hid hu; have HSq := Lib.hid (rkeep4 HU (by assumption)); obtain ⟨r0', r1', k0', k1'⟩ := HSq.out.2.1; have z0 := own2 HSq.out.1 0; have z1 := own2 HSq.out.1 1; clear hu; unfold gotR)
        (try go_wp2_with fail)
        refine hK.out _ _ ?hB88 (fun hHeld => ?_)
        case hB88 => (first | (with_reducible exact rkeep4 (by assumption) (by assumption)) | ((repeat (first | (with_reducible assumption) | (with_reducible exact Hid.out (by assumption)) | (with_reducible refine rset4_0 ?_ (by omega) (by omega) (by omega) (by omega) (by omega)) | (with_reducible refine rset4_1 ?_ (by omega) (by omega) (by omega) (by omega) (by omega)))); done) | (exact ⟨by ((repeat (first | (with_reducible exact Up.refl _) | (with_reducible exact HU6.out) | (with_reducible refine Up.alloc ?_ _ _) | (with_reducible refine Up.setCell ?_ ?_ _) | (with_reducible refine Up.drewN ?_ _) | (with_reducible refine Up.drew ?_))); all_goals (first | (simp; done) | (simp; omega) | omega)), ⟨0, 0, by simp [go_sem, *], by simp [go_sem, *]⟩, by simp [go_sem, *], by simp [go_sem, *], by simp [go_sem, *], by simp [go_sem, *]⟩))
        clear hK K
        (try simp only [Act.put, List.setIfInBounds_toArray, List.set_cons_zero, List.set_cons_succ])
        refine wpAnyH_take (i := 9) (oi := ⟨_, _, _, _, _, _⟩) (v := ?v89) rfl (by kernel_rfl) (by kernel_rfl) (by kernel_rfl) (fun _ _ _ h => h) (Or.inl ⟨by rfl, ?hy89⟩) (by assumption) ?_
        case hy89 => (intro w hSw; (try dsimp only at hSw); go_simp; (try (with_reducible rfl)))
        (try simp only [Act.put, List.setIfInBounds_toArray, List.set_cons_zero, List.set_cons_succ])
        refine wpAnyH_take (i := 10) (oi := ⟨_, _, _, _, _, _⟩) (v := ?v90) rfl (by kernel_rfl) (by kernel_rfl) (by kernel_rfl) (fun _ _ _ h => h) (Or.inl ⟨by rfl, ?hy90⟩) (by assumption) ?_
        case hy90 => (intro w hSw; (try dsimp only at hSw); go_simp; (try (with_reducible rfl)))
        (try simp only [Act.put, List.setIfInBounds_toArray, List.set_cons_zero, List.set_cons_succ])
        refine wpAnyH_ready (rs := [11]) (by kernel_rfl) (by simp) ?_
        refine AllReadyH.cons (o := ⟨_, _, _, _, _, _⟩) rfl (fun K hK => ?_) AllReadyH.nil
        go_simp
        refine hK.out _ _ ?hB91 (fun hHeld => ?_)
        case hB91 => (first | (with_reducible exact rkeep4 (by assumption) (by assumption)) | ((repeat (first | (with_reducible assumption) | (with_reducible exact Hid.out (by assumption)) | (with_reducible refine rset4_0 ?_ (by omega) (by omega) (by omega) (by omega) (by omega)) | (with_reducible refine rset4_1 ?_ (by omega) (by omega) (by omega) (by omega) (by omega)))); done) | (exact ⟨by ((repeat (first | (with_reducible exact Up.refl _) | (with_reducible exact HU6.out) | (with_reducible refine Up.alloc ?_ _ _) | (with_reducible refine Up.setCell ?_ ?_ _) | (with_reducible refine Up.drewN ?_ _) | (with_reducible refine Up.drew ?_))); all_goals (first | (simp; done) | (simp; omega) | omega)), ⟨0, 0, by simp [go_sem, *], by simp [go_sem, *]⟩, by simp [go_sem, *], by simp [go_sem, *], by simp [go_sem, *], by simp [go_sem, *]⟩))
        clear hK K
        (try simp only [Act.put, List.setIfInBounds_toArray, List.set_cons_zero, List.set_cons_succ])
        refine wpAnyH_take (i := 12) (oi := ⟨_, _, _, _, _, _⟩) (v := ?v92) rfl (by kernel_rfl) (by kernel_rfl) (by kernel_rfl) (fun _ _ _ h => h) (Or.inl ⟨by rfl, ?hy92⟩) (by assumption) ?_
        case hy92 => (intro w hSw; (try dsimp only at hSw); go_simp; (try (with_reducible rfl)))
        (try simp only [Act.put, List.setIfInBounds_toArray, List.set_cons_zero, List.set_cons_succ])
        refine wpAnyH_done (by kernel_rfl) ?_ _
        all_goals
          go_wp2_with fail
          refine bodyPost_ret (v := .tuple #[.agg #[.int .i64 N, .int .i64 D], .bool B]) (by simp [results, Tryz.results24, go_sem, k0', k1']) rfl ⟨?_, ?_⟩
          · rfl
          · exact And.left (by assumption)
      · clear hz
        go_wp2_with fail
        refine (HQ.out _).mono ?_
        rintro e w5 ⟨rfl, hu5⟩
        try unfold got2
        have c5_0 := hu5.keep (w.heap.size + 1 + 1) (0) (.int .i64 0) (by simp [go_sem, *])
        have c5_1 := hu5.keep (w.heap.size + 1 + 1) (1) (.int .i64 0) (by simp [go_sem, *])
        have c5_2 := hu5.keep (g) (0) (.int .u64 (hiZ X)) (by simp [go_sem, *])
        have c5_3 := hu5.keep (g) (1) (.int .u64 (loZ X)) (by simp [go_sem, *])
        have c5_4 := hu5.keep (k) (0) (.int .u64 (hiZ Y)) (by simp [go_sem, *])
        have c5_5 := hu5.keep (k) (1) (.int .u64 (loZ Y)) (by simp [go_sem, *])
        have l5_0 : w.heap.size + 1 + 1 < w5.heap.size := World.block_lt_of_cell? _ _ c5_0
        have m5_0 : w.heap.size + 1 + 1 < w5.heap.size + 1 := by omega
        have n5_0 : w.heap.size + 1 + 1 < w5.heap.size + 1 + 1 := by omega
        have x5_0 : ¬ w5.heap.size = w.heap.size + 1 + 1 := by omega
        have y5_0 : ¬ w5.heap.size + 1 = w.heap.size + 1 + 1 := by omega
        have l5_1 : g < w5.heap.size := World.block_lt_of_cell? _ _ c5_2
        have m5_1 : g < w5.heap.size + 1 := by omega
        have n5_1 : g < w5.heap.size + 1 + 1 := by omega
        have x5_1 : ¬ w5.heap.size = g := by omega
        have y5_1 : ¬ w5.heap.size + 1 = g := by omega
        have l5_2 : k < w5.heap.size := World.block_lt_of_cell? _ _ c5_4
        have m5_2 : k < w5.heap.size + 1 := by omega
        have n5_2 : k < w5.heap.size + 1 + 1 := by omega
        have x5_2 : ¬ w5.heap.size = k := by omega
        have y5_2 : ¬ w5.heap.size + 1 = k := by omega
        have HU5 : Hid (Up w w5) := Lib.hid (by ((repeat (first | (with_reducible exact Up.refl _) | (with_reducible exact HU4.out) | (with_reducible refine Up.trans ?_ hu5) | (with_reducible refine Up.alloc ?_ _ _) | (with_reducible refine Up.setCell ?_ ?_ _) | (with_reducible refine Up.drewN ?_ _) | (with_reducible refine Up.drew ?_))); all_goals (first | (simp; done) | (simp; omega) | omega)))
        clear hu5
        go_wp2_with fail
        refine (HA.out _).mono ?_
        rintro e w6 ⟨rfl, hu6⟩
        try unfold got2
        have c6_0 := hu6.keep (w.heap.size + 1 + 1) (0) (.int .i64 0) (by simp [go_sem, *])
        have c6_1 := hu6.keep (w.heap.size + 1 + 1) (1) (.int .i64 0) (by simp [go_sem, *])
        have c6_2 := hu6.keep (w5.heap.size) (0) (.int .u64 (hiZ q)) (by simp [go_sem, *])
        have c6_3 := hu6.keep (w5.heap.size) (1) (.int .u64 (loZ q)) (by simp [go_sem, *])
        have l6_0 : w.heap.size + 1 + 1 < w6.heap.size := World.block_lt_of_cell? _ _ c6_0
        have m6_0 : w.heap.size + 1 + 1 < w6.heap.size + 1 := by omega
        have n6_0 : w.heap.size + 1 + 1 < w6.heap.size + 1 + 1 := by omega
        have x6_0 : ¬ w6.heap.size = w.heap.size + 1 + 1 := by omega
        have y6_0 : ¬ w6.heap.size + 1 = w.heap.size + 1 + 1 := by omega
        have l6_1 : w5.heap.size < w6.heap.size := World.block_lt_of_cell? _ _ c6_2
        have m6_1 : w5.heap.size < w6.heap.size + 1 := by omega
        have n6_1 : w5.heap.size < w6.heap.size + 1 + 1 := by omega
        have x6_1 : ¬ w6.heap.size = w5.heap.size := by omega
        have y6_1 : ¬ w6.heap.size + 1 = w5.heap.size := by omega
        have HU6 : Hid (Up w w6) := Lib.hid (by ((repeat (first | (with_reducible exact Up.refl _) | (with_reducible exact HU5.out) | (with_reducible refine Up.trans ?_ hu6) | (with_reducible refine Up.alloc ?_ _ _) | (with_reducible refine Up.setCell ?_ ?_ _) | (with_reducible refine Up.drewN ?_ _) | (with_reducible refine Up.drew ?_))); all_goals (first | (simp; done) | (simp; omega) | omega)))
        clear hu6 c5_0 c5_1 c5_2 c5_3 c5_4 c5_5
        go_wp2_with fail
        refine wp_region_held_drew (S := fun w' => Up w w' ∧ Res2 w' (w.heap.size + 1 + 1) ∧ w'.cell? ⟨w6.heap.size, 0, none⟩ = some (.int .u64 (hiZ v)) ∧ w'.cell? ⟨w6.heap.size, 1, none⟩ = some (.int .u64 (loZ v)) ∧ w'.cell? ⟨w5.heap.size, 0, none⟩ = some (.int .u64 (hiZ q)) ∧ w'.cell? ⟨w5.heap.size, 1, none⟩ = some (.int .u64 (loZ q))) (by kernel_rfl) ?hB93 (fun hHeld => ?_)
        case hB93 => (first | (with_reducible exact rkeep4 (by assumption) (by assumption)) | ((repeat (first | (with_reducible assumption) | (with_reducible exact Hid.out (by assumption)) | (with_reducible refine rset4_0 ?_ (by omega) (by omega) (by omega) (by omega) (by omega)) | (with_reducible refine rset4_1 ?_ (by omega) (by omega) (by omega) (by omega) (by omega)))); done) | (exact ⟨by ((repeat (first | (with_reducible exact Up.refl _) | (with_reducible exact HU6.out) | (with_reducible refine Up.alloc ?_ _ _) | (with_reducible refine Up.setCell ?_ ?_ _) | (with_reducible refine Up.drewN ?_ _) | (with_reducible refine Up.drew ?_))); all_goals (first | (simp; done) | (simp; omega) | omega)), ⟨0, 0, by simp [go_sem, *], by simp [go_sem, *]⟩, by simp [go_sem, *], by simp [go_sem, *], by simp [go_sem, *], by simp [go_sem, *]⟩))
        refine wpAnyH_take (i := 0) (oi := ⟨_, _, _, _, _, _⟩) (v := ?v94) rfl (by kernel_rfl) (by kernel_rfl) (by kernel_rfl) (fun _ _ _ h => h) (Or.inl ⟨by rfl, ?hy94⟩) (by assumption) ?_
        case hy94 => (intro w hSw; (try dsimp only at hSw); go_simp; (try (with_reducible rfl)))
        (try simp only [Act.put, List.setIfInBounds_toArray, List.set_cons_zero, List.set_cons_succ])
        refine wpAnyH_take (i := 1) (oi := ⟨_, _, _, _, _, _⟩) (v := ?v95) rfl (by kernel_rfl) (by kernel_rfl) (by kernel_rfl) (fun _ _ _ h => h) (Or.inl ⟨by rfl, ?hy95⟩) (by assumption) ?_
        case hy95 => (intro w hSw; (try dsimp only at hSw); go_simp; (try (with_reducible rfl)))
        (try simp only [Act.put, List.setIfInBounds_toArray, List.set_cons_zero, List.set_cons_succ])
        refine wpAnyH_take (i := 2) (oi := ⟨_, _, _, _, _, _⟩) (v := ?v96) rfl (by kernel_rfl) (by kernel_rfl) (by kernel_rfl) (fun _ _ _ h => h) (Or.inl ⟨by rfl, ?hy96⟩) (by assumption) ?_
        case hy96 => (intro w hSw; (try dsimp only at hSw); go_simp; (try (with_reducible rfl)))
        (try simp only [Act.put, List.setIfInBounds_toArray, List.set_cons_zero, List.set_cons_succ])
        refine wpAnyH_take (i := 3) (oi := ⟨_, _, _, _, _, _⟩) (v := ?v97) rfl (by kernel_rfl) (by kernel_rfl) (by kernel_rfl) (fun _ _ _ h => h) (Or.inl ⟨by rfl, ?hy97⟩) (by assumption) ?_
        case hy97 => (intro w hSw; (try dsimp only at hSw); go_simp; (try (with_reducible rfl)))
        (try simp only [Act.put, List.setIfInBounds_toArray, List.set_cons_zero, List.set_cons_succ])
        refine wpAnyH_take (i := 4) (oi := ⟨_, _, _, _, _, _⟩) (v := ?v98) rfl (by kernel_rfl) (by kernel_rfl) (by kernel_rfl) (fun _ _ _ h => h) (Or.inl ⟨by rfl, ?hy98⟩) (by assumption) ?_
        case hy98 => (intro w hSw; (try dsimp only at hSw); go_simp; (try (with_reducible rfl)))
        (try simp only [Act.put, List.setIfInBounds_toArray, List.set_cons_zero, List.set_cons_succ])
        refine wpAnyH_take (i := 5) (oi := ⟨_, _, _, _, _, _⟩) (v := ?v99) rfl (by kernel_rfl) (by kernel_rfl) (by kernel_rfl) (fun _ _ _ h => h) (Or.inl ⟨by rfl, ?hy99⟩) (by assumption) ?_
        case hy99 => (intro w hSw; (try dsimp only at hSw); go_simp; (try (with_reducible rfl)))
        (try simp only [Act.put, List.setIfInBounds_toArray, List.set_cons_zero, List.set_cons_succ])
        refine wpAnyH_take (i := 6) (oi := ⟨_, _, _, _, _, _⟩) (v := ?v100) rfl (by kernel_rfl) (by kernel_rfl) (by kernel_rfl) (fun _ _ _ h => h) (Or.inl ⟨by rfl, ?hy100⟩) (by assumption) ?_
        case hy100 => (intro w hSw; (try dsimp only at hSw); go_simp; (try (with_reducible rfl)))
        (try simp only [Act.put, List.setIfInBounds_toArray, List.set_cons_zero, List.set_cons_succ])
        refine wpAnyH_take (i := 7) (oi := ⟨_, _, _, _, _, _⟩) (v := ?v101) rfl (by kernel_rfl) (by kernel_rfl) (by kernel_rfl) (fun _ _ _ h => h) (Or.inl ⟨by rfl, ?hy101⟩) (by assumption) ?_
        case hy101 => (intro w hSw; (try dsimp only at hSw); go_simp; (try (with_reducible rfl)))
        (try simp only [Act.put, List.setIfInBounds_toArray, List.set_cons_zero, List.set_cons_succ])
        refine wpAnyH_ready (rs := [8]) (by kernel_rfl) (by simp) ?_
        refine AllReadyH.cons (o := ⟨_, _, _, _, _, _⟩) rfl (fun K hK => ?_) AllReadyH.nil
        go_simp
        (go_at_call 47; (with_reducible refine (HR.out _ _ HI.out HE.out _).mono ?_); rintro e wq ⟨rfl, hu⟩; have HU := Lib.hid hu; have HSq := Lib.hid (rkeep4 HU (by assumption)); obtain ⟨r0', r1', k0', k1'⟩ := HSq.out.2.1; have z0 := own2 HSq.out.1 0; have z1 := own2 HSq.out.1 1; clear hu; unfold gotR)
        (try go_wp2_with fail)
        refine hK.out _ _ ?hB102 (fun hHeld => ?_)
        case hB102 => (first | (with_reducible exact rkeep4 (by assumption) (by assumption)) | ((repeat (first | (with_reducible assumption) | (with_reducible exact Hid.out (by assumption)) | (with_reducible refine rset4_0 ?_ (by omega) (by omega) (by omega) (by omega) (by omega)) | (with_reducible refine rset4_1 ?_ (by omega) (by omega) (by omega) (by omega) (by omega)))); done) | (exact ⟨by ((repeat (first | (with_reducible exact Up.refl _) | (with_reducible exact HU6.out) | (with_reducible refine Up.alloc ?_ _ _) | (with_reducible refine Up.setCell ?_ ?_ _) | (with_reducible refine Up.drewN ?_ _) | (with_reducible refine Up.drew ?_))); all_goals (first | (simp; done) | (simp; omega) | omega)), ⟨0, 0, by simp [go_sem, *], by simp [go_sem, *]⟩, by simp [go_sem, *], by simp [go_sem, *], by simp [go_sem, *], by simp [go_sem, *]⟩))
        clear hK K
        (try simp only [Act.put, List.setIfInBounds_toArray, List.set_cons_zero, List.set_cons_succ])
        refine wpAnyH_take (i := 9) (oi := ⟨_, _, _, _, _, _⟩) (v := ?v103) rfl (by kernel_rfl) (by kernel_rfl) (by kernel_rfl) (fun _ _ _ h => h) (Or.inl ⟨by rfl, ?hy103⟩) (by assumption) ?_
        case hy103 => (intro w hSw; (try dsimp only at hSw); go_simp; (try (with_reducible rfl)))
        (try simp only [Act.put, List.setIfInBounds_toArray, List.set_cons_zero, List.set_cons_succ])
        refine wpAnyH_take (i := 10) (oi := ⟨_, _, _, _, _, _⟩) (v := ?v104) rfl (by kernel_rfl) (by kernel_rfl) (by kernel_rfl) (fun _ _ _ h => h) (Or.inl ⟨by rfl, ?hy104⟩) (by assumption) ?_
        case hy104 => (intro w hSw; (try dsimp only at hSw); go_simp; (try (with_reducible rfl)))
        (try simp only [Act.put, List.setIfInBounds_toArray, List.set_cons_zero, List.set_cons_succ])
        refine wpAnyH_ready (rs := [11]) (by kernel_rfl) (by simp) ?_
        refine AllReadyH.cons (o := ⟨_, _, _, _, _, _⟩) rfl (fun K hK => ?_) AllReadyH.nil
        go_simp
        refine hK.out _ _ ?hB105 (fun hHeld => ?_)
        case hB105 => (first | (with_reducible exact rkeep4 (by assumption) (by assumption)) | ((repeat (first | (with_reducible assumption) | (with_reducible exact Hid.out (by assumption)) | (with_reducible refine rset4_0 ?_ (by omega) (by omega) (by omega) (by omega) (by omega)) | (with_reducible refine rset4_1 ?_ (by omega) (by omega) (by omega) (by omega) (by omega)))); done) | (exact ⟨by ((repeat (first | (with_reducible exact Up.refl _) | (with_reducible exact HU6.out) | (with_reducible refine Up.alloc ?_ _ _) | (with_reducible refine Up.setCell ?_ ?_ _) | (with_reducible refine Up.drewN ?_ _) | (with_reducible refine Up.drew ?_))); all_goals (first | (simp; done) | (simp; omega) | omega)), ⟨0, 0, by simp [go_sem, *], by simp [go_sem, *]⟩, by simp [go_sem, *], by simp [go_sem, *], by simp [go_sem, *], by simp [go_sem, *]⟩))
        clear hK K
        (try simp only [Act.put, List.setIfInBounds_toArray, List.set_cons_zero, List.set_cons_succ])
        refine wpAnyH_take (i := 12) (oi := ⟨_, _, _, _, _, _⟩) (v := ?v106) rfl (by kernel_rfl) (by kernel_rfl) (by kernel_rfl) (fun _ _ _ h => h) (Or.inl ⟨by rfl, ?hy106⟩) (by assumption) ?_
        case hy106 => (intro w hSw; (try dsimp only at hSw); go_simp; (try (with_reducible rfl)))
        (try simp only [Act.put, List.setIfInBounds_toArray, List.set_cons_zero, List.set_cons_succ])
        refine wpAnyH_done (by kernel_rfl) ?_ _
        all_goals
          go_wp2_with fail
          refine bodyPost_ret (v := .tuple #[.agg #[.int .i64 N, .int .i64 D], .bool B]) (by simp [results, Tryz.results24, go_sem, k0', k1']) rfl ⟨?_, ?_⟩
          · rfl
          · exact And.left (by assumption)

end Go.Proofs.YtjbgogajnjefmaaGreat
