/- Proved: for every buffer r and every item x the law RingPushes returns true: PushBack and PushFront of package ring put x to the back and to the front, or return the error of the reference. Conditions: none. -/
import Derived.Test.YtjedcpfipebncaaRows
import Derived.WalkKit
import Derived.ProofKit
import Derived.OpenShut
import Derived.Lib.SmallJoins
import Derived.Test.YtjedcpfipebncaaGFrame
import Derived.Test.YtjedcpfipebncaaGAwake
import Derived.Test.YtjedcpfipebncaaGSame
import Derived.Test.YtjedcpfipebncaaGRItems
import Derived.Test.YtjedcpfipebncaaGOf
import Derived.Test.YtjedcpfipebncaaGApp2
import Derived.Deep.DeepCutAuto
namespace Go.Proofs.Ytjedcpfipebncaa
open Go.ChangeShapes Go.WideShapes Go.ChangeAt Go.RowKit Go.Joins
set_option linter.unusedVariables false

theorem ringPushes_own : ownKnob Try.prog.godebug = none := by kernel_rfl

set_option maxHeartbeats 16000000 in
set_option maxRecDepth 100000 in
theorem ringPushes_walk (c h l : Int) (n k : Nat) (A : Option Addr) (L : List It) (hk : n ≤ k) (x0 x1 : Int) (w : World) (hS : Sl w A n L) :
    Calls Try.prog 5 #[.agg #[.int .i64 c, .int .i64 h, .int .i64 l, .slice A n k], .agg #[.int .i64 x0, .int .i64 x1]] w fun e w' => e = .returned (.bool true) ∧ Up w w' := by
  have KA := Lib.hid awake_up
  have HU0 := Lib.hid (Up.refl w)
  have KF := Lib.hid (fun W => few_any c h l n k A W)
  by_cases hf : (n : Int) ≤ 200
  case neg =>
    rw [decide_eq_false hf] at KF
    clear hf hS
    go_enter Try.func5, Try.ntmps5
    go_wp2_with (first
      | (go_at_call 14; (with_reducible refine (KF.out _).mono ?_); rintro e w1 ⟨rfl, hu⟩; have HU1 := Lib.hid (HU0.out.trans ((((Up.refl _).alloc _ _).alloc _ _).trans hu)); clear hu)
      | (go_at_call 12; (with_reducible refine (KA.out _).mono ?_); rintro e w2 ⟨rfl, hu⟩; have HU2 := Lib.hid (HU1.out.trans hu); clear hu))
    go_ret
    exact ⟨rfl, HU2.out⟩
  rw [decide_eq_true hf] at KF
  have hn2 : n ≤ 200 := by omega
  clear hf
  have KZ := Lib.hid (fun W => same_t 0 0 0 0 0 0 none none [] (by omega) W Sl.none_ Sl.none_)
  cases hv : vB c h l L with
  | false =>
    have K1 := Lib.hid (fun W (hu : Up w W) => pushBack_bad c h l n k A L x0 x1 hv W (hS.up hu))
    have K1b := Lib.hid (fun W (hu : Up w W) => pushFront_bad c h l n k A L x0 x1 hv W (hS.up hu))
    have K2 := Lib.hid (fun W (hu : Up w W) => rval_bad c h l n k A L hv W (hS.up hu))
    have K3 := Lib.hid (fun W (hu : Up w W) => ritems_bad c h l n k A L hv W (hS.up hu))
    clear hv hS hn2 hk
    go_enter Try.func5, Try.ntmps5
    go_wp2_with (first
      | (go_at_call 14; (with_reducible refine (KF.out _).mono ?_); rintro e w1 ⟨rfl, hu⟩; have HU1 := Lib.hid (HU0.out.trans ((((Up.refl _).alloc _ _).alloc _ _).trans hu)); have q1_0 := hu.keep (w.heap.size) 0 (.int .i64 c) (by simp [go_sem]); have q1_1 := hu.keep (w.heap.size) 1 (.int .i64 h) (by simp [go_sem]); have q1_2 := hu.keep (w.heap.size) 2 (.int .i64 l) (by simp [go_sem]); have q1_3 := hu.keep (w.heap.size) 3 (.slice A n k) (by simp [go_sem]); have q1_4 := hu.keep (w.heap.size + 1) 0 (.int .i64 x0) (by simp [go_sem]); have q1_5 := hu.keep (w.heap.size + 1) 1 (.int .i64 x1) (by simp [go_sem]); have l1_1 : w.heap.size < w1.heap.size := World.block_lt_of_cell? _ _ q1_0; have l1_2 : w.heap.size + 1 < w1.heap.size := World.block_lt_of_cell? _ _ q1_4; clear hu)
      | (go_at_call 20; (with_reducible refine (K1.out _ HU1.out).mono ?_); rintro e w2 ⟨rfl, hu⟩; have HU2 := Lib.hid (HU1.out.trans hu); have q2_0 := hu.keep _ _ _ q1_0; have q2_1 := hu.keep _ _ _ q1_1; have q2_2 := hu.keep _ _ _ q1_2; have q2_3 := hu.keep _ _ _ q1_3; have q2_4 := hu.keep _ _ _ q1_4; have q2_5 := hu.keep _ _ _ q1_5; have l2_1 : w.heap.size < w2.heap.size := World.block_lt_of_cell? _ _ q2_0; have l2_2 : w.heap.size + 1 < w2.heap.size := World.block_lt_of_cell? _ _ q2_4; clear hu q1_0 q1_1 q1_2 q1_3 q1_4 q1_5)
      | (go_at_call 21; (with_reducible refine (K1b.out _ (HU2.out.trans ((Up.refl _).alloc _ _))).mono ?_); rintro e w3 ⟨rfl, hu⟩; have HU3 := Lib.hid (HU2.out.trans (((Up.refl _).alloc _ _).trans hu)); have q3_0 := (((Up.refl _).alloc _ _).trans hu).keep _ _ _ q2_0; have q3_1 := (((Up.refl _).alloc _ _).trans hu).keep _ _ _ q2_1; have q3_2 := (((Up.refl _).alloc _ _).trans hu).keep _ _ _ q2_2; have q3_3 := (((Up.refl _).alloc _ _).trans hu).keep _ _ _ q2_3; have q3_4 := (((Up.refl _).alloc _ _).trans hu).keep _ _ _ q2_4; have q3_5 := (((Up.refl _).alloc _ _).trans hu).keep _ _ _ q2_5; have q3_6 := hu.keep (w2.heap.size) 0 (.int .i64 0) (by simp [go_sem]); have q3_7 := hu.keep (w2.heap.size) 1 (.int .i64 0) (by simp [go_sem]); have q3_8 := hu.keep (w2.heap.size) 2 (.int .i64 0) (by simp [go_sem]); have q3_9 := hu.keep (w2.heap.size) 3 (.slice none 0 0) (by simp [go_sem]); have l3_1 : w.heap.size < w3.heap.size := World.block_lt_of_cell? _ _ q3_0; have l3_2 : w.heap.size + 1 < w3.heap.size := World.block_lt_of_cell? _ _ q3_4; have l3_3 : w2.heap.size < w3.heap.size := World.block_lt_of_cell? _ _ q3_6; clear hu q2_0 q2_1 q2_2 q2_3 q2_4 q2_5))
    obtain ⟨ws, hws⟩ : ∃ z, z = w3.alloc (.cells #[.int .i64 0, .int .i64 0, .int .i64 0, .slice none 0 0] 24) := ⟨_, rfl⟩
    rw [← hws]
    have HA_ws : Hid (Up w3 ws) := Lib.hid (by rw [hws]; exact ((Up.refl _).alloc _ _))
    have HU_ws := Lib.hid (HU3.out.trans HA_ws.out)
    have rws_0 := HA_ws.out.keep _ _ _ q3_0
    have rws_1 := HA_ws.out.keep _ _ _ q3_1
    have rws_2 := HA_ws.out.keep _ _ _ q3_2
    have rws_3 := HA_ws.out.keep _ _ _ q3_3
    have rws_4 := HA_ws.out.keep _ _ _ q3_4
    have rws_5 := HA_ws.out.keep _ _ _ q3_5
    have rws_6 := HA_ws.out.keep _ _ _ q3_6
    have rws_7 := HA_ws.out.keep _ _ _ q3_7
    have rws_8 := HA_ws.out.keep _ _ _ q3_8
    have rws_9 := HA_ws.out.keep _ _ _ q3_9
    have rws_10 : ws.cell? ⟨w3.heap.size, 0, none⟩ = some (.int .i64 0) := by rw [hws]; simp [go_sem]
    have rws_11 : ws.cell? ⟨w3.heap.size, 1, none⟩ = some (.int .i64 0) := by rw [hws]; simp [go_sem]
    have rws_12 : ws.cell? ⟨w3.heap.size, 2, none⟩ = some (.int .i64 0) := by rw [hws]; simp [go_sem]
    have rws_13 : ws.cell? ⟨w3.heap.size, 3, none⟩ = some (.slice none 0 0) := by rw [hws]; simp [go_sem]
    clear hws q3_0 q3_1 q3_2 q3_3 q3_4 q3_5 q3_6 q3_7 q3_8 q3_9
    have SS_ws : Hid (Up ws ws ∧ ws.cell? ⟨w.heap.size, 0, none⟩ = some (.int .i64 c) ∧ ws.cell? ⟨w.heap.size, 1, none⟩ = some (.int .i64 h) ∧ ws.cell? ⟨w.heap.size, 2, none⟩ = some (.int .i64 l) ∧ ws.cell? ⟨w.heap.size, 3, none⟩ = some (.slice A n k)) := Lib.hid ⟨Up.refl _, rws_0, rws_1, rws_2, rws_3⟩
    go_region_held3 (fun w' => Up ws w' ∧ w'.cell? ⟨w.heap.size, 0, none⟩ = some (.int .i64 c) ∧ w'.cell? ⟨w.heap.size, 1, none⟩ = some (.int .i64 h) ∧ w'.cell? ⟨w.heap.size, 2, none⟩ = some (.int .i64 l) ∧ w'.cell? ⟨w.heap.size, 3, none⟩ = some (.slice A n k))
      (first | (with_reducible exact SS_ws.out) | (with_reducible exact keep4 (Lib.hid (Up.refl _).drew) SS_ws.out) | (with_reducible exact keep4 (by assumption) (by assumption)))
      (first
        | (go_at_call 15; (with_reducible refine (K2.out _ (HU_ws.out.trans (And.left (by assumption)))).mono ?_); rintro e w4 ⟨rfl, hu⟩; have HX4 := Lib.hid hu; clear hu)
        | (go_at_call 16; (with_reducible refine (K3.out _ (HU_ws.out.trans (And.left (by assumption)))).mono ?_); rintro e w5 ⟨rfl, hu⟩; have HX5 := Lib.hid hu; clear hu))
    have HUV := Lib.hid (And.left ‹Up ws w5 ∧ _›)
    clear ‹Up ws w5 ∧ _›
    have HU5 := Lib.hid (HU_ws.out.trans HUV.out)
    have rr0 := HUV.out.keep _ _ _ rws_0
    have rr1 := HUV.out.keep _ _ _ rws_1
    have rr2 := HUV.out.keep _ _ _ rws_2
    have rr3 := HUV.out.keep _ _ _ rws_3
    have xx0 := HUV.out.keep _ _ _ rws_4
    have xx1 := HUV.out.keep _ _ _ rws_5
    have va0 := HUV.out.keep _ _ _ rws_6
    have va1 := HUV.out.keep _ _ _ rws_7
    have va2 := HUV.out.keep _ _ _ rws_8
    have va3 := HUV.out.keep _ _ _ rws_9
    have vb0 := HUV.out.keep _ _ _ rws_10
    have vb1 := HUV.out.keep _ _ _ rws_11
    have vb2 := HUV.out.keep _ _ _ rws_12
    have vb3 := HUV.out.keep _ _ _ rws_13
    clear rws_0 rws_1 rws_2 rws_3 rws_4 rws_5 rws_6 rws_7 rws_8 rws_9 rws_10 rws_11 rws_12 rws_13
    go_wp2_with (first
      | (go_at_call 11; (with_reducible refine (KZ.out w5).mono ?_); rintro e w6 ⟨rfl, hu⟩; have HU6 := Lib.hid (HU5.out.trans hu); have b0 := hu.keep _ _ _ vb0; have b1 := hu.keep _ _ _ vb1; have b2 := hu.keep _ _ _ vb2; have b3 := hu.keep _ _ _ vb3; clear hu)
      | (go_at_call 11; (with_reducible refine (KZ.out w6).mono ?_); rintro e w7 ⟨rfl, hu⟩; have HU7 := Lib.hid (HU6.out.trans hu); clear hu)
      | (go_at_call 12; (with_reducible refine (KA.out _).mono ?_); rintro e w8 ⟨rfl, hu⟩; have HU8 := Lib.hid (HU7.out.trans hu); clear hu))
    go_ret
    exact ⟨rfl, HU8.out⟩
  | true =>
    obtain ⟨c, h, M, rfl, rfl, rfl, rfl, hc, hc', hh, hM⟩ := vB_true hv
    obtain rfl : n = c := by rw [← hS.1, ofL_length]
    clear hv
    have K2 := Lib.hid (fun W (hu : Up w W) => rval_good n h k A M hc hc' hh hM W (hS.up hu))
    have K3 := Lib.hid (fun W (hu : Up w W) => ritems_good n h k A M hc hc' hh hM W (hS.up hu))
    by_cases h1 : M.length = n
    · have K1 := Lib.hid (fun W (hu : Up w W) => pushBack_full n h k A M x0 x1 hc hc' hh hM h1 W (hS.up hu))
      have K1b := Lib.hid (fun W (hu : Up w W) => pushFront_full n h k A M x0 x1 hc hc' hh hM h1 W (hS.up hu))
      clear hS
      generalize M.length = l at *
      have t3 : ((l : Int) == (n : Int)) = true := by simp; omega
      have t4 : (l == n) = true := by simp; omega
      clear h1
      go_enter Try.func5, Try.ntmps5
      go_wp2_with (first
        | (go_at_call 14; (with_reducible refine (KF.out _).mono ?_); rintro e w1 ⟨rfl, hu⟩; have HU1 := Lib.hid (HU0.out.trans ((((Up.refl _).alloc _ _).alloc _ _).trans hu)); have q1_0 := hu.keep (w.heap.size) 0 (.int .i64 n) (by simp [go_sem]); have q1_1 := hu.keep (w.heap.size) 1 (.int .i64 h) (by simp [go_sem]); have q1_2 := hu.keep (w.heap.size) 2 (.int .i64 l) (by simp [go_sem]); have q1_3 := hu.keep (w.heap.size) 3 (.slice A n k) (by simp [go_sem]); have q1_4 := hu.keep (w.heap.size + 1) 0 (.int .i64 x0) (by simp [go_sem]); have q1_5 := hu.keep (w.heap.size + 1) 1 (.int .i64 x1) (by simp [go_sem]); have l1_1 : w.heap.size < w1.heap.size := World.block_lt_of_cell? _ _ q1_0; have l1_2 : w.heap.size + 1 < w1.heap.size := World.block_lt_of_cell? _ _ q1_4; clear hu)
        | (go_at_call 20; (with_reducible refine (K1.out _ HU1.out).mono ?_); rintro e w2 ⟨rfl, hu⟩; have HU2 := Lib.hid (HU1.out.trans hu); have q2_0 := hu.keep _ _ _ q1_0; have q2_1 := hu.keep _ _ _ q1_1; have q2_2 := hu.keep _ _ _ q1_2; have q2_3 := hu.keep _ _ _ q1_3; have q2_4 := hu.keep _ _ _ q1_4; have q2_5 := hu.keep _ _ _ q1_5; have l2_1 : w.heap.size < w2.heap.size := World.block_lt_of_cell? _ _ q2_0; have l2_2 : w.heap.size + 1 < w2.heap.size := World.block_lt_of_cell? _ _ q2_4; clear hu q1_0 q1_1 q1_2 q1_3 q1_4 q1_5)
        | (go_at_call 21; (with_reducible refine (K1b.out _ (HU2.out.trans ((Up.refl _).alloc _ _))).mono ?_); rintro e w3 ⟨rfl, hu⟩; have HU3 := Lib.hid (HU2.out.trans (((Up.refl _).alloc _ _).trans hu)); have q3_0 := (((Up.refl _).alloc _ _).trans hu).keep _ _ _ q2_0; have q3_1 := (((Up.refl _).alloc _ _).trans hu).keep _ _ _ q2_1; have q3_2 := (((Up.refl _).alloc _ _).trans hu).keep _ _ _ q2_2; have q3_3 := (((Up.refl _).alloc _ _).trans hu).keep _ _ _ q2_3; have q3_4 := (((Up.refl _).alloc _ _).trans hu).keep _ _ _ q2_4; have q3_5 := (((Up.refl _).alloc _ _).trans hu).keep _ _ _ q2_5; have q3_6 := hu.keep (w2.heap.size) 0 (.int .i64 0) (by simp [go_sem]); have q3_7 := hu.keep (w2.heap.size) 1 (.int .i64 0) (by simp [go_sem]); have q3_8 := hu.keep (w2.heap.size) 2 (.int .i64 0) (by simp [go_sem]); have q3_9 := hu.keep (w2.heap.size) 3 (.slice none 0 0) (by simp [go_sem]); have l3_1 : w.heap.size < w3.heap.size := World.block_lt_of_cell? _ _ q3_0; have l3_2 : w.heap.size + 1 < w3.heap.size := World.block_lt_of_cell? _ _ q3_4; have l3_3 : w2.heap.size < w3.heap.size := World.block_lt_of_cell? _ _ q3_6; clear hu q2_0 q2_1 q2_2 q2_3 q2_4 q2_5))
      obtain ⟨ws, hws⟩ : ∃ z, z = w3.alloc (.cells #[.int .i64 0, .int .i64 0, .int .i64 0, .slice none 0 0] 24) := ⟨_, rfl⟩
      rw [← hws]
      have HA_ws : Hid (Up w3 ws) := Lib.hid (by rw [hws]; exact ((Up.refl _).alloc _ _))
      have HU_ws := Lib.hid (HU3.out.trans HA_ws.out)
      have rws_0 := HA_ws.out.keep _ _ _ q3_0
      have rws_1 := HA_ws.out.keep _ _ _ q3_1
      have rws_2 := HA_ws.out.keep _ _ _ q3_2
      have rws_3 := HA_ws.out.keep _ _ _ q3_3
      have rws_4 := HA_ws.out.keep _ _ _ q3_4
      have rws_5 := HA_ws.out.keep _ _ _ q3_5
      have rws_6 := HA_ws.out.keep _ _ _ q3_6
      have rws_7 := HA_ws.out.keep _ _ _ q3_7
      have rws_8 := HA_ws.out.keep _ _ _ q3_8
      have rws_9 := HA_ws.out.keep _ _ _ q3_9
      have rws_10 : ws.cell? ⟨w3.heap.size, 0, none⟩ = some (.int .i64 0) := by rw [hws]; simp [go_sem]
      have rws_11 : ws.cell? ⟨w3.heap.size, 1, none⟩ = some (.int .i64 0) := by rw [hws]; simp [go_sem]
      have rws_12 : ws.cell? ⟨w3.heap.size, 2, none⟩ = some (.int .i64 0) := by rw [hws]; simp [go_sem]
      have rws_13 : ws.cell? ⟨w3.heap.size, 3, none⟩ = some (.slice none 0 0) := by rw [hws]; simp [go_sem]
      clear hws q3_0 q3_1 q3_2 q3_3 q3_4 q3_5 q3_6 q3_7 q3_8 q3_9
      have SS_ws : Hid (Up ws ws ∧ ws.cell? ⟨w.heap.size, 0, none⟩ = some (.int .i64 n) ∧ ws.cell? ⟨w.heap.size, 1, none⟩ = some (.int .i64 h) ∧ ws.cell? ⟨w.heap.size, 2, none⟩ = some (.int .i64 l) ∧ ws.cell? ⟨w.heap.size, 3, none⟩ = some (.slice A n k)) := Lib.hid ⟨Up.refl _, rws_0, rws_1, rws_2, rws_3⟩
      go_region_held3 (fun w' => Up ws w' ∧ w'.cell? ⟨w.heap.size, 0, none⟩ = some (.int .i64 n) ∧ w'.cell? ⟨w.heap.size, 1, none⟩ = some (.int .i64 h) ∧ w'.cell? ⟨w.heap.size, 2, none⟩ = some (.int .i64 l) ∧ w'.cell? ⟨w.heap.size, 3, none⟩ = some (.slice A n k))
        (first | (with_reducible exact SS_ws.out) | (with_reducible exact keep4 (Lib.hid (Up.refl _).drew) SS_ws.out) | (with_reducible exact keep4 (by assumption) (by assumption)))
        (first
          | (go_at_call 15; (with_reducible refine (K2.out _ (HU_ws.out.trans (And.left (by assumption)))).mono ?_); rintro e w4 ⟨rfl, hu⟩; have HX4 := Lib.hid hu; clear hu)
          | (go_at_call 16; (with_reducible refine (K3.out _ (HU_ws.out.trans (And.left (by assumption)))).mono ?_); rintro e w5 ⟨A', k', rfl, hk', hS', hu⟩; have HX5 := Lib.hid hu; have HS5 := Lib.hid hS'; clear hS'; clear hu))
      have HUV := Lib.hid (And.left ‹Up ws w5 ∧ _›)
      clear ‹Up ws w5 ∧ _›
      have HU5 := Lib.hid (HU_ws.out.trans HUV.out)
      have rr0 := HUV.out.keep _ _ _ rws_0
      have rr1 := HUV.out.keep _ _ _ rws_1
      have rr2 := HUV.out.keep _ _ _ rws_2
      have rr3 := HUV.out.keep _ _ _ rws_3
      have xx0 := HUV.out.keep _ _ _ rws_4
      have xx1 := HUV.out.keep _ _ _ rws_5
      have va0 := HUV.out.keep _ _ _ rws_6
      have va1 := HUV.out.keep _ _ _ rws_7
      have va2 := HUV.out.keep _ _ _ rws_8
      have va3 := HUV.out.keep _ _ _ rws_9
      have vb0 := HUV.out.keep _ _ _ rws_10
      have vb1 := HUV.out.keep _ _ _ rws_11
      have vb2 := HUV.out.keep _ _ _ rws_12
      have vb3 := HUV.out.keep _ _ _ rws_13
      clear rws_0 rws_1 rws_2 rws_3 rws_4 rws_5 rws_6 rws_7 rws_8 rws_9 rws_10 rws_11 rws_12 rws_13
      go_wp2_with (first
        | (go_at_call 11; (with_reducible refine (KZ.out w5).mono ?_); rintro e w6 ⟨rfl, hu⟩; have HU6 := Lib.hid (HU5.out.trans hu); have b0 := hu.keep _ _ _ vb0; have b1 := hu.keep _ _ _ vb1; have b2 := hu.keep _ _ _ vb2; have b3 := hu.keep _ _ _ vb3; clear hu)
        | (go_at_call 11; (with_reducible refine (KZ.out w6).mono ?_); rintro e w7 ⟨rfl, hu⟩; have HU7 := Lib.hid (HU6.out.trans hu); clear hu)
        | (go_at_call 12; (with_reducible refine (KA.out _).mono ?_); rintro e w8 ⟨rfl, hu⟩; have HU8 := Lib.hid (HU7.out.trans hu); clear hu))
      go_ret
      exact ⟨rfl, HU8.out⟩
    have hlt : M.length < n := by omega
    have K1 := Lib.hid (fun W (hu : Up w W) => pushBack_good n h k A M x0 x1 hc hc' hh hM hlt W (hS.up hu))
    have K1b := Lib.hid (fun W (hu : Up w W) => pushFront_good n h k A M x0 x1 hc hc' hh hM hlt W (hS.up hu))
    have hh2 : (h + (n - 1)) % n < n := Nat.mod_lt _ (by omega)
    have hm1 : n ≤ 1000000 := by omega
    have hL1 : (M ++ [(x0, x1)]).length = M.length + 1 := by simp
    have hL2 : ((x0, x1) :: M).length = M.length + 1 := rfl
    have K5 := Lib.hid (fun W A' k' (hA : Sl W A' (M.length + 1) (M ++ [(x0, x1)])) => of_any n h k' A' (M ++ [(x0, x1)]) (by omega) (by omega) hh (by omega) W (by rw [hL1]; exact hA))
    rw [hL1] at K5
    have K7 := Lib.hid (fun W A' k' (hA : Sl W A' (M.length + 1) ((x0, x1) :: M)) => of_any n ((h + (n - 1)) % n) k' A' ((x0, x1) :: M) (by omega) (by omega) hh2 (by omega) W (by rw [hL2]; exact hA))
    rw [hL2] at K7
    have K6 := Lib.hid (fun W g g' (hA : Bi W g (ofL n h (M ++ [(x0, x1)]))) (hB : Bi W g' (ofL n h (M ++ [(x0, x1)]))) => same_t n h ((M.length + 1 : Nat) : Int) n n n (some ⟨g, 0, none⟩) (some ⟨g', 0, none⟩) _ hm1 W (hA.sl (ofL_length _ _ _)) (hB.sl (ofL_length _ _ _)))
    have K8 := Lib.hid (fun W g g' (hA : Bi W g (ofL n ((h + (n - 1)) % n) ((x0, x1) :: M))) (hB : Bi W g' (ofL n ((h + (n - 1)) % n) ((x0, x1) :: M))) => same_t n (((h + (n - 1)) % n : Nat) : Int) ((M.length + 1 : Nat) : Int) n n n (some ⟨g, 0, none⟩) (some ⟨g', 0, none⟩) _ hm1 W (hA.sl (ofL_length _ _ _)) (hB.sl (ofL_length _ _ _)))
    have g9 : (h + n - 1) % n = (h + (n - 1)) % n := by congr 1; omega
    have G9 := Lib.hid g9
    clear hS hL1 hL2 h1 g9
    generalize hhh : (h + (n - 1)) % n = h2 at *
    have HH := Lib.hid hhh
    clear hhh
    generalize M.length = l at *
    rw [show ((l + 1 : Nat) : Int) = (l : Int) + 1 from rfl] at K1 K1b K5 K6 K7 K8
    have t3 : ((l : Int) == (n : Int)) = false := by simp; omega
    have t4 : (l == n) = false := by simp; omega
    go_enter Try.func5, Try.ntmps5
    go_wp2_with (first
      | (go_at_call 14; (with_reducible refine (KF.out _).mono ?_); rintro e w1 ⟨rfl, hu⟩; have HU1 := Lib.hid (HU0.out.trans ((((Up.refl _).alloc _ _).alloc _ _).trans hu)); have q1_0 := hu.keep (w.heap.size) 0 (.int .i64 n) (by simp [go_sem]); have q1_1 := hu.keep (w.heap.size) 1 (.int .i64 h) (by simp [go_sem]); have q1_2 := hu.keep (w.heap.size) 2 (.int .i64 l) (by simp [go_sem]); have q1_3 := hu.keep (w.heap.size) 3 (.slice A n k) (by simp [go_sem]); have q1_4 := hu.keep (w.heap.size + 1) 0 (.int .i64 x0) (by simp [go_sem]); have q1_5 := hu.keep (w.heap.size + 1) 1 (.int .i64 x1) (by simp [go_sem]); have l1_1 : w.heap.size < w1.heap.size := World.block_lt_of_cell? _ _ q1_0; have l1_2 : w.heap.size + 1 < w1.heap.size := World.block_lt_of_cell? _ _ q1_4; clear hu)
      | (go_at_call 20; (with_reducible refine (K1.out _ HU1.out).mono ?_); rintro e w2 ⟨g, rfl, hg, hb, hu⟩; have HU2 := Lib.hid (HU1.out.trans hu); have q2_0 := hu.keep _ _ _ q1_0; have q2_1 := hu.keep _ _ _ q1_1; have q2_2 := hu.keep _ _ _ q1_2; have q2_3 := hu.keep _ _ _ q1_3; have q2_4 := hu.keep _ _ _ q1_4; have q2_5 := hu.keep _ _ _ q1_5; have l2_1 : w.heap.size < w2.heap.size := World.block_lt_of_cell? _ _ q2_0; have l2_2 : w.heap.size + 1 < w2.heap.size := World.block_lt_of_cell? _ _ q2_4; have HBa := Lib.hid hb; clear hb; clear hu q1_0 q1_1 q1_2 q1_3 q1_4 q1_5)
      | (go_at_call 21; (with_reducible refine (K1b.out _ (HU2.out.trans ((Up.refl _).alloc _ _))).mono ?_); rintro e w3 ⟨g2, rfl, hg2, hb2, hu⟩; have HU3 := Lib.hid (HU2.out.trans (((Up.refl _).alloc _ _).trans hu)); have q3_0 := (((Up.refl _).alloc _ _).trans hu).keep _ _ _ q2_0; have q3_1 := (((Up.refl _).alloc _ _).trans hu).keep _ _ _ q2_1; have q3_2 := (((Up.refl _).alloc _ _).trans hu).keep _ _ _ q2_2; have q3_3 := (((Up.refl _).alloc _ _).trans hu).keep _ _ _ q2_3; have q3_4 := (((Up.refl _).alloc _ _).trans hu).keep _ _ _ q2_4; have q3_5 := (((Up.refl _).alloc _ _).trans hu).keep _ _ _ q2_5; have q3_6 := hu.keep (w2.heap.size) 0 (.int .i64 n) (by simp [go_sem]); have q3_7 := hu.keep (w2.heap.size) 1 (.int .i64 h) (by simp [go_sem]); have q3_8 := hu.keep (w2.heap.size) 2 (.int .i64 ((l : Int) + 1)) (by simp [go_sem]); have q3_9 := hu.keep (w2.heap.size) 3 (.slice (some ⟨g, 0, none⟩) n n) (by simp [go_sem]); have l3_1 : w.heap.size < w3.heap.size := World.block_lt_of_cell? _ _ q3_0; have l3_2 : w.heap.size + 1 < w3.heap.size := World.block_lt_of_cell? _ _ q3_4; have l3_3 : w2.heap.size < w3.heap.size := World.block_lt_of_cell? _ _ q3_6; have HBa3 := Lib.hid (HBa.out.up (((Up.refl _).alloc _ _).trans hu)); have HBb := Lib.hid hb2; clear hb2; clear hu q2_0 q2_1 q2_2 q2_3 q2_4 q2_5))
    obtain ⟨ws, hws⟩ : ∃ z, z = w3.alloc (.cells #[.int .i64 n, .int .i64 h2, .int .i64 ((l : Int) + 1), .slice (some ⟨g2, 0, none⟩) n n] 24) := ⟨_, rfl⟩
    rw [← hws]
    have HA_ws : Hid (Up w3 ws) := Lib.hid (by rw [hws]; exact ((Up.refl _).alloc _ _))
    have HU_ws := Lib.hid (HU3.out.trans HA_ws.out)
    have rws_0 := HA_ws.out.keep _ _ _ q3_0
    have rws_1 := HA_ws.out.keep _ _ _ q3_1
    have rws_2 := HA_ws.out.keep _ _ _ q3_2
    have rws_3 := HA_ws.out.keep _ _ _ q3_3
    have rws_4 := HA_ws.out.keep _ _ _ q3_4
    have rws_5 := HA_ws.out.keep _ _ _ q3_5
    have rws_6 := HA_ws.out.keep _ _ _ q3_6
    have rws_7 := HA_ws.out.keep _ _ _ q3_7
    have rws_8 := HA_ws.out.keep _ _ _ q3_8
    have rws_9 := HA_ws.out.keep _ _ _ q3_9
    have rws_10 : ws.cell? ⟨w3.heap.size, 0, none⟩ = some (.int .i64 n) := by rw [hws]; simp [go_sem]
    have rws_11 : ws.cell? ⟨w3.heap.size, 1, none⟩ = some (.int .i64 h2) := by rw [hws]; simp [go_sem]
    have rws_12 : ws.cell? ⟨w3.heap.size, 2, none⟩ = some (.int .i64 ((l : Int) + 1)) := by rw [hws]; simp [go_sem]
    have rws_13 : ws.cell? ⟨w3.heap.size, 3, none⟩ = some (.slice (some ⟨g2, 0, none⟩) n n) := by rw [hws]; simp [go_sem]
    clear hws q3_0 q3_1 q3_2 q3_3 q3_4 q3_5 q3_6 q3_7 q3_8 q3_9
    have SS_ws : Hid (Up ws ws ∧ ws.cell? ⟨w.heap.size, 0, none⟩ = some (.int .i64 n) ∧ ws.cell? ⟨w.heap.size, 1, none⟩ = some (.int .i64 h) ∧ ws.cell? ⟨w.heap.size, 2, none⟩ = some (.int .i64 l) ∧ ws.cell? ⟨w.heap.size, 3, none⟩ = some (.slice A n k)) := Lib.hid ⟨Up.refl _, rws_0, rws_1, rws_2, rws_3⟩
    go_region_held3 (fun w' => Up ws w' ∧ w'.cell? ⟨w.heap.size, 0, none⟩ = some (.int .i64 n) ∧ w'.cell? ⟨w.heap.size, 1, none⟩ = some (.int .i64 h) ∧ w'.cell? ⟨w.heap.size, 2, none⟩ = some (.int .i64 l) ∧ w'.cell? ⟨w.heap.size, 3, none⟩ = some (.slice A n k))
      (first | (with_reducible exact SS_ws.out) | (with_reducible exact keep4 (Lib.hid (Up.refl _).drew) SS_ws.out) | (with_reducible exact keep4 (by assumption) (by assumption)))
      (first
        | (go_at_call 15; (with_reducible refine (K2.out _ (HU_ws.out.trans (And.left (by assumption)))).mono ?_); rintro e w4 ⟨rfl, hu⟩; have HX4 := Lib.hid hu; clear hu)
        | (go_at_call 16; (with_reducible refine (K3.out _ (HU_ws.out.trans (And.left (by assumption)))).mono ?_); rintro e w5 ⟨A', k', rfl, hk', hS', hu⟩; have HX5 := Lib.hid hu; have HS5 := Lib.hid hS'; clear hS'; clear hu))
    have HUV := Lib.hid (And.left ‹Up ws w5 ∧ _›)
    clear ‹Up ws w5 ∧ _›
    have HU5 := Lib.hid (HU_ws.out.trans HUV.out)
    have rr0 := HUV.out.keep _ _ _ rws_0
    have rr1 := HUV.out.keep _ _ _ rws_1
    have rr2 := HUV.out.keep _ _ _ rws_2
    have rr3 := HUV.out.keep _ _ _ rws_3
    have xx0 := HUV.out.keep _ _ _ rws_4
    have xx1 := HUV.out.keep _ _ _ rws_5
    have va0 := HUV.out.keep _ _ _ rws_6
    have va1 := HUV.out.keep _ _ _ rws_7
    have va2 := HUV.out.keep _ _ _ rws_8
    have va3 := HUV.out.keep _ _ _ rws_9
    have vb0 := HUV.out.keep _ _ _ rws_10
    have vb1 := HUV.out.keep _ _ _ rws_11
    have vb2 := HUV.out.keep _ _ _ rws_12
    have vb3 := HUV.out.keep _ _ _ rws_13
    clear rws_0 rws_1 rws_2 rws_3 rws_4 rws_5 rws_6 rws_7 rws_8 rws_9 rws_10 rws_11 rws_12 rws_13
    have HBa5 := Lib.hid ((HBa3.out.up HA_ws.out).up HUV.out)
    have HBb5 := Lib.hid ((HBb.out.up HA_ws.out).up HUV.out)
    have hs5 : w.heap.size + 1 < w5.heap.size := World.block_lt_of_cell? _ _ xx0
    go_upto_region 10 with fail
    go_cut [11] (fun t wx => Vb w5 wx n h (l + 1) (ofL n h (M ++ [(x0, x1)])) t)
    case first =>
      have SS : Hid (Up w5 w5 ∧ w5.cell? ⟨w.heap.size, 0, none⟩ = some (.int .i64 n) ∧ w5.cell? ⟨w.heap.size, 1, none⟩ = some (.int .i64 h) ∧ w5.cell? ⟨w.heap.size + 1, 0, none⟩ = some (.int .i64 x0) ∧ w5.cell? ⟨w.heap.size + 1, 1, none⟩ = some (.int .i64 x1)) := Lib.hid ⟨Up.refl _, rr0, rr1, xx0, xx1⟩
      go_region_held3 (fun w' => Up w5 w' ∧ w'.cell? ⟨w.heap.size, 0, none⟩ = some (.int .i64 n) ∧ w'.cell? ⟨w.heap.size, 1, none⟩ = some (.int .i64 h) ∧ w'.cell? ⟨w.heap.size + 1, 0, none⟩ = some (.int .i64 x0) ∧ w'.cell? ⟨w.heap.size + 1, 1, none⟩ = some (.int .i64 x1))
        (repeat (first | (with_reducible refine set4 ?_ (by omega) (by omega) (by omega) (by omega) (by omega)) | (with_reducible exact SS.out) | (with_reducible exact T8.out) | (with_reducible exact T7.out) | (with_reducible exact T6.out) | (with_reducible refine keep4 (Lib.hid ((Up.refl _).alloc _ _)) ?_) | (with_reducible refine keep4 (Lib.hid (Up.refl _).drew) ?_)))
        (first
          | (refine step_append0 rfl (.tmp 69) (.tmp 70) rfl w5 _ l k' A' M rfl rfl ?_ ?_ ?_ (by omega) ?_; (focus ((repeat (first | (with_reducible exact own_empty' (by first | rfl | (simp; done) | (simp; omega) | fail) (by first | exact Nat.le_refl _ | (simp; done) | (simp; omega) | fail)) | (with_reducible refine Own.of_up ?_ ((Up.refl _).alloc _ _)) | (with_reducible refine Own.of_up ?_ (Up.refl _).drew))); done)); (focus ((repeat (first | (with_reducible exact Up.refl _) | (with_reducible refine Up.alloc ?_ _ _) | (with_reducible refine Up.drew ?_))); done)); (focus (refine HS5.out.up ?_; (repeat (first | (with_reducible exact Up.refl _) | (with_reducible refine Up.alloc ?_ _ _) | (with_reducible refine Up.drew ?_))); done)); intro A1 k1 w6 ho1 hu1; have HO6 := Lib.hid ho1; have HU6 : Hid (Up w5 w6) := Lib.hid (by refine Up.trans ?_ hu1; (repeat (first | (with_reducible exact Up.refl _) | (with_reducible refine Up.alloc ?_ _ _) | (with_reducible refine Up.drew ?_)))); (try (have FV6 : Hid (Blk w6 (w5.heap.size) 24 #[.int .i64 0, .int .i64 0, .int .i64 0, .slice none 0 0]) := Lib.hid (Blk.up (by first | ((repeat (first | (with_reducible exact Blk.newAt (by first | rfl | (simp; done) | (simp; omega) | fail)) | (with_reducible refine Blk.up ?_ ((Up.refl _).alloc _ _)) | (with_reducible refine Blk.up ?_ (Up.refl _).drew))); done) | fail) hu1))); (try (have FV6 : Hid (Blk w6 (w5.heap.size + 1) 24 #[.int .i64 0, .int .i64 0, .int .i64 0, .slice none 0 0]) := Lib.hid (Blk.up (by first | ((repeat (first | (with_reducible exact Blk.newAt (by first | rfl | (simp; done) | (simp; omega) | fail)) | (with_reducible refine Blk.up ?_ ((Up.refl _).alloc _ _)) | (with_reducible refine Blk.up ?_ (Up.refl _).drew))); done) | fail) hu1))); (try (have FV6 : Hid (Blk w6 (w5.heap.size + 1 + 1) 24 #[.int .i64 0, .int .i64 0, .int .i64 0, .slice none 0 0]) := Lib.hid (Blk.up (by first | ((repeat (first | (with_reducible exact Blk.newAt (by first | rfl | (simp; done) | (simp; omega) | fail)) | (with_reducible refine Blk.up ?_ ((Up.refl _).alloc _ _)) | (with_reducible refine Blk.up ?_ (Up.refl _).drew))); done) | fail) hu1))); (try (have HX6 : Hid (Sl w6 (some ⟨w5.heap.size, 0, none⟩) 1 [(x0, x1)]) := Lib.hid (Sl.up (by first | ((repeat (first | (with_reducible exact one_new' _ x0 x1 (by first | rfl | (simp; done) | (simp; omega) | fail)) | (with_reducible refine Sl.up ?_ ((Up.refl _).alloc _ _)) | (with_reducible refine Sl.up ?_ (Up.refl _).drew))); done) | fail) hu1))); (try (have HX6 : Hid (Sl w6 (some ⟨w5.heap.size + 1, 0, none⟩) 1 [(x0, x1)]) := Lib.hid (Sl.up (by first | ((repeat (first | (with_reducible exact one_new' _ x0 x1 (by first | rfl | (simp; done) | (simp; omega) | fail)) | (with_reducible refine Sl.up ?_ ((Up.refl _).alloc _ _)) | (with_reducible refine Sl.up ?_ (Up.refl _).drew))); done) | fail) hu1))); (try (have HX6 : Hid (Sl w6 (some ⟨w5.heap.size + 1 + 1, 0, none⟩) 1 [(x0, x1)]) := Lib.hid (Sl.up (by first | ((repeat (first | (with_reducible exact one_new' _ x0 x1 (by first | rfl | (simp; done) | (simp; omega) | fail)) | (with_reducible refine Sl.up ?_ ((Up.refl _).alloc _ _)) | (with_reducible refine Sl.up ?_ (Up.refl _).drew))); done) | fail) hu1))); have T6 := Lib.hid (keep4 HU6 SS.out); have hs6 := HU6.out.size; clear ho1 hu1)
          | (refine step_append2 rfl (.tmp 71) (.tmp 73) rfl w5 l 1 k1 1 A1 _ M [(x0, x1)] rfl rfl ?_ ?_ ?_ (by omega) (l + 1) rfl _ rfl ?_; (focus ((repeat (first | (with_reducible exact HO6.out) | (with_reducible refine Own.of_up ?_ ((Up.refl _).alloc _ _)) | (with_reducible refine Own.of_up ?_ (Up.refl _).drew))); done)); (focus ((repeat (first | (with_reducible exact Up.refl _) | (with_reducible exact HU6.out) | (with_reducible refine Up.alloc ?_ _ _) | (with_reducible refine Up.drew ?_))); done)); (focus ((repeat (first | (with_reducible exact HX6.out) | (with_reducible exact one_new' _ x0 x1 (by first | rfl | (simp; done) | (simp; omega) | fail)) | (with_reducible refine Sl.up ?_ ((Up.refl _).alloc _ _)) | (with_reducible refine Sl.up ?_ (Up.refl _).drew))); done)); intro A2 k2 w7 hs2 hu2 hf2; have HS7 := Lib.hid hs2; have HU7 := Lib.hid hu2; (try (have FV7 : Hid (Blk w7 (w5.heap.size) 24 #[.int .i64 0, .int .i64 0, .int .i64 0, .slice none 0 0]) := Lib.hid (hf2 _ _ (by first | ((repeat (first | (with_reducible exact FV6.out) | (with_reducible exact Blk.newAt (by first | rfl | (simp; done) | (simp; omega) | fail)) | (with_reducible refine Blk.up ?_ ((Up.refl _).alloc _ _)) | (with_reducible refine Blk.up ?_ (Up.refl _).drew))); done) | fail)))); (try (have FV7 : Hid (Blk w7 (w5.heap.size + 1) 24 #[.int .i64 0, .int .i64 0, .int .i64 0, .slice none 0 0]) := Lib.hid (hf2 _ _ (by first | ((repeat (first | (with_reducible exact FV6.out) | (with_reducible exact Blk.newAt (by first | rfl | (simp; done) | (simp; omega) | fail)) | (with_reducible refine Blk.up ?_ ((Up.refl _).alloc _ _)) | (with_reducible refine Blk.up ?_ (Up.refl _).drew))); done) | fail)))); (try (have FV7 : Hid (Blk w7 (w5.heap.size + 1 + 1) 24 #[.int .i64 0, .int .i64 0, .int .i64 0, .slice none 0 0]) := Lib.hid (hf2 _ _ (by first | ((repeat (first | (with_reducible exact FV6.out) | (with_reducible exact Blk.newAt (by first | rfl | (simp; done) | (simp; omega) | fail)) | (with_reducible refine Blk.up ?_ ((Up.refl _).alloc _ _)) | (with_reducible refine Blk.up ?_ (Up.refl _).drew))); done) | fail)))); (try (have FV7 : Hid (Blk w7 (w6.heap.size) 24 #[.int .i64 0, .int .i64 0, .int .i64 0, .slice none 0 0]) := Lib.hid (hf2 _ _ (by first | ((repeat (first | (with_reducible exact FV6.out) | (with_reducible exact Blk.newAt (by first | rfl | (simp; done) | (simp; omega) | fail)) | (with_reducible refine Blk.up ?_ ((Up.refl _).alloc _ _)) | (with_reducible refine Blk.up ?_ (Up.refl _).drew))); done) | fail)))); (try (have FV7 : Hid (Blk w7 (w6.heap.size + 1) 24 #[.int .i64 0, .int .i64 0, .int .i64 0, .slice none 0 0]) := Lib.hid (hf2 _ _ (by first | ((repeat (first | (with_reducible exact FV6.out) | (with_reducible exact Blk.newAt (by first | rfl | (simp; done) | (simp; omega) | fail)) | (with_reducible refine Blk.up ?_ ((Up.refl _).alloc _ _)) | (with_reducible refine Blk.up ?_ (Up.refl _).drew))); done) | fail)))); have T7 := Lib.hid (keep4 HU7 SS.out); have hs7 := HU7.out.size; clear hs2 hu2 hf2)
          | (go_at_call 22; (with_reducible refine (K5.out w7 _ _ HS7.out).mono ?_); rintro e w8 ⟨g8, rfl, hg8, hb8, hu⟩; have HU8 := Lib.hid (HU7.out.trans hu); have HB8 := Lib.hid hb8; have T8 := Lib.hid (keep4 (Lib.hid hu) T7.out); (try (have FV8 := Lib.hid (FV7.out.up hu); have hv8 := Blk.lt FV7.out; have z0 := Blk.cell FV8.out 0; have z1 := Blk.cell FV8.out 1; have z2 := Blk.cell FV8.out 2; have z3 := Blk.cell FV8.out 3; simp at z0 z1 z2 z3; have y0 := Blk.frozen FV8.out 0; have y1 := Blk.frozen FV8.out 1; have y2 := Blk.frozen FV8.out 2; have y3 := Blk.frozen FV8.out 3)); clear hu hb8)
          | (go_at_call 22; (with_reducible refine (K5.out (w7.alloc (.cells #[.int .i64 0, .int .i64 0, .int .i64 0, .slice none 0 0] 24)) _ _ (HS7.out.up ((Up.refl _).alloc _ _))).mono ?_); rintro e w8 ⟨g8, rfl, hg8, hb8, hu⟩; have HU8 := Lib.hid ((HU7.out.alloc _ _).trans hu); have HB8 := Lib.hid hb8; have T8 := Lib.hid (keep4 (Lib.hid (((Up.refl _).alloc _ _).trans hu)) T7.out); have FV8 : Hid (Blk w8 w7.heap.size 24 #[.int .i64 0, .int .i64 0, .int .i64 0, .slice none 0 0]) := Lib.hid ((Blk.newAt rfl).up hu); have hg8' := hg8; (try simp at hg8'); have z0 := Blk.cell FV8.out 0; have z1 := Blk.cell FV8.out 1; have z2 := Blk.cell FV8.out 2; have z3 := Blk.cell FV8.out 3; simp at z0 z1 z2 z3; have y0 := Blk.frozen FV8.out 0; have y1 := Blk.frozen FV8.out 1; have y2 := Blk.frozen FV8.out 2; have y3 := Blk.frozen FV8.out 3; clear hu hb8))
      all_goals
        go_wp2_with fail
        go_meet
        first | exact Vb.new HU8.out (by omega) HB8.out (ofL_length _ _ _) | exact Vb.store z0 z1 z2 z3 HU8.out (by omega) (by omega) HB8.out (by omega) (ofL_length _ _ _)
    obtain ⟨wd, hwd⟩ : ∃ x, x = wc := ⟨_, rfl⟩
    subst hwd
    obtain ⟨pB, gB, rfl, hpB, hgB, hRB, hUB⟩ := hcut
    have HRB := Lib.hid hRB
    have HUB := Lib.hid hUB
    have RR0 := hUB.keep _ _ _ rr0
    have RR1 := hUB.keep _ _ _ rr1
    have XX0 := hUB.keep _ _ _ xx0
    have XX1 := hUB.keep _ _ _ xx1
    have VA0 := hUB.keep _ _ _ va0
    have VA1 := hUB.keep _ _ _ va1
    have VA2 := hUB.keep _ _ _ va2
    have VA3 := hUB.keep _ _ _ va3
    have VB0 := hUB.keep _ _ _ vb0
    have VB1 := hUB.keep _ _ _ vb1
    have VB2 := hUB.keep _ _ _ vb2
    have VB3 := hUB.keep _ _ _ vb3
    have HBac := Lib.hid (HBa5.out.up hUB)
    have HBbc := Lib.hid (HBb5.out.up hUB)
    have HSc := Lib.hid (HS5.out.up hUB)
    have hsc : w.heap.size + 1 < wd.heap.size := World.block_lt_of_cell? _ _ XX0
    clear hRB hUB rr0 rr1 xx0 xx1 va0 va1 va2 va3 vb0 vb1 vb2 vb3
    have m1 : IntKind.i64.wrap ((h : Int) + n) = (h : Int) + n := IntWalk.i64_in _ (by omega)
    have m2 : IntKind.i64.wrap ((h : Int) + n - 1) = (h : Int) + n - 1 := IntWalk.i64_in _ (by clear m1; omega)
    have m3 : ((h : Int) + n - 1).tmod n = (h2 : Int) := by
      clear m1 m2
      rw [Int.tmod_eq_emod_of_nonneg (by omega), ← G9.out, show (h : Int) + n - 1 = ((h + n - 1 : Nat) : Int) by omega]; first | rfl | norm_cast | simp
    have m4 : IntKind.i64.wrap (h2 : Int) = h2 := IntWalk.i64_in _ (by clear m1 m2 m3; omega)
    have m5 : ¬ n = 0 := by clear m1 m2 m3 m4; omega
    go_upto_region 11 with fail
    go_cut [12] (fun t wx => Vb wd wx n h2 (l + 1) (ofL n h2 ((x0, x1) :: M)) t)
    case first =>
      have SS : Hid (Up wd wd ∧ wd.cell? ⟨w.heap.size, 0, none⟩ = some (.int .i64 n) ∧ wd.cell? ⟨w.heap.size, 1, none⟩ = some (.int .i64 h) ∧ wd.cell? ⟨w.heap.size + 1, 0, none⟩ = some (.int .i64 x0) ∧ wd.cell? ⟨w.heap.size + 1, 1, none⟩ = some (.int .i64 x1)) := Lib.hid ⟨Up.refl _, RR0, RR1, XX0, XX1⟩
      go_region_held3 (fun w' => Up wd w' ∧ w'.cell? ⟨w.heap.size, 0, none⟩ = some (.int .i64 n) ∧ w'.cell? ⟨w.heap.size, 1, none⟩ = some (.int .i64 h) ∧ w'.cell? ⟨w.heap.size + 1, 0, none⟩ = some (.int .i64 x0) ∧ w'.cell? ⟨w.heap.size + 1, 1, none⟩ = some (.int .i64 x1))
        (repeat (first | (with_reducible refine set4 ?_ (by omega) (by omega) (by omega) (by omega) (by omega)) | (with_reducible exact SS.out) | (with_reducible exact T8.out) | (with_reducible exact T7.out) | (with_reducible refine keep4 (Lib.hid ((Up.refl _).alloc _ _)) ?_) | (with_reducible refine keep4 (Lib.hid (Up.refl _).drew) ?_)))
        (first
          | (refine step_append2 rfl (.tmp 88) (.tmp 89) rfl wd 1 l 1 k' _ A' [(x0, x1)] M rfl rfl ?_ ?_ ?_ (by omega) (l + 1) (by omega) _ rfl ?_; (focus ((repeat (first | (with_reducible exact own_one x0 x1 (by first | rfl | (simp; done) | (simp; omega) | fail) (by first | exact Nat.le_refl _ | (simp; done) | (simp; omega) | fail)) | (with_reducible refine Own.of_up ?_ ((Up.refl _).alloc _ _)) | (with_reducible refine Own.of_up ?_ (Up.refl _).drew))); done)); (focus ((repeat (first | (with_reducible exact Up.refl _) | (with_reducible refine Up.alloc ?_ _ _) | (with_reducible refine Up.drew ?_))); done)); (focus ((refine HSc.out.up ?_; (repeat (first | (with_reducible exact Up.refl _) | (with_reducible refine Up.alloc ?_ _ _) | (with_reducible refine Up.drew ?_)))); done)); intro A2 k2 w7 hs2 hu2 hf2; have HS7 := Lib.hid hs2; have HU7 := Lib.hid hu2; (try (have FV7 : Hid (Blk w7 (wd.heap.size) 24 #[.int .i64 0, .int .i64 0, .int .i64 0, .slice none 0 0]) := Lib.hid (hf2 _ _ (by first | ((repeat (first | (with_reducible exact Blk.newAt (by first | rfl | (simp; done) | (simp; omega) | fail)) | (with_reducible refine Blk.up ?_ ((Up.refl _).alloc _ _)) | (with_reducible refine Blk.up ?_ (Up.refl _).drew))); done) | fail)))); (try (have FV7 : Hid (Blk w7 (wd.heap.size + 1) 24 #[.int .i64 0, .int .i64 0, .int .i64 0, .slice none 0 0]) := Lib.hid (hf2 _ _ (by first | ((repeat (first | (with_reducible exact Blk.newAt (by first | rfl | (simp; done) | (simp; omega) | fail)) | (with_reducible refine Blk.up ?_ ((Up.refl _).alloc _ _)) | (with_reducible refine Blk.up ?_ (Up.refl _).drew))); done) | fail)))); (try (have FV7 : Hid (Blk w7 (wd.heap.size + 1 + 1) 24 #[.int .i64 0, .int .i64 0, .int .i64 0, .slice none 0 0]) := Lib.hid (hf2 _ _ (by first | ((repeat (first | (with_reducible exact Blk.newAt (by first | rfl | (simp; done) | (simp; omega) | fail)) | (with_reducible refine Blk.up ?_ ((Up.refl _).alloc _ _)) | (with_reducible refine Blk.up ?_ (Up.refl _).drew))); done) | fail)))); have T7 := Lib.hid (keep4 HU7 SS.out); have hs7 := HU7.out.size; clear hs2 hu2 hf2)
          | (go_at_call 22; (with_reducible refine (K7.out w7 _ _ HS7.out).mono ?_); rintro e w8 ⟨g8, rfl, hg8, hb8, hu⟩; have HU8 := Lib.hid (HU7.out.trans hu); have HB8 := Lib.hid hb8; have T8 := Lib.hid (keep4 (Lib.hid hu) T7.out); (try (have FV8 := Lib.hid (FV7.out.up hu); have hv8 := Blk.lt FV7.out; have z0 := Blk.cell FV8.out 0; have z1 := Blk.cell FV8.out 1; have z2 := Blk.cell FV8.out 2; have z3 := Blk.cell FV8.out 3; simp at z0 z1 z2 z3; have y0 := Blk.frozen FV8.out 0; have y1 := Blk.frozen FV8.out 1; have y2 := Blk.frozen FV8.out 2; have y3 := Blk.frozen FV8.out 3)); clear hu hb8)
          | (go_at_call 22; (with_reducible refine (K7.out (w7.alloc (.cells #[.int .i64 0, .int .i64 0, .int .i64 0, .slice none 0 0] 24)) _ _ (HS7.out.up ((Up.refl _).alloc _ _))).mono ?_); rintro e w8 ⟨g8, rfl, hg8, hb8, hu⟩; have HU8 := Lib.hid ((HU7.out.alloc _ _).trans hu); have HB8 := Lib.hid hb8; have T8 := Lib.hid (keep4 (Lib.hid (((Up.refl _).alloc _ _).trans hu)) T7.out); have FV8 : Hid (Blk w8 w7.heap.size 24 #[.int .i64 0, .int .i64 0, .int .i64 0, .slice none 0 0]) := Lib.hid ((Blk.newAt rfl).up hu); have hg8' := hg8; (try simp at hg8'); have z0 := Blk.cell FV8.out 0; have z1 := Blk.cell FV8.out 1; have z2 := Blk.cell FV8.out 2; have z3 := Blk.cell FV8.out 3; simp at z0 z1 z2 z3; have y0 := Blk.frozen FV8.out 0; have y1 := Blk.frozen FV8.out 1; have y2 := Blk.frozen FV8.out 2; have y3 := Blk.frozen FV8.out 3; clear hu hb8))
      all_goals
        go_wp2_with fail
        go_meet
        first | exact Vb.new HU8.out (by omega) HB8.out (ofL_length _ _ _) | exact Vb.store z0 z1 z2 z3 HU8.out (by omega) (by omega) HB8.out (by omega) (ofL_length _ _ _)
    clear m1 m2 m3 m4
    obtain ⟨pF, gF, rfl, hpF, hgF, hRF, hUF⟩ := hcut
    have HRB2 := Lib.hid (HRB.out.up hUF)
    have HUF := Lib.hid hUF
    have HRF := Lib.hid hRF
    have va0 := hUF.keep _ _ _ VA0
    have va1 := hUF.keep _ _ _ VA1
    have va2 := hUF.keep _ _ _ VA2
    have va3 := hUF.keep _ _ _ VA3
    have vb0 := hUF.keep _ _ _ VB0
    have vb1 := hUF.keep _ _ _ VB1
    have vb2 := hUF.keep _ _ _ VB2
    have vb3 := hUF.keep _ _ _ VB3
    have HA6 := Lib.hid (HBac.out.up hUF)
    have HB6 := Lib.hid (HBbc.out.up hUF)
    have p0 := HRB2.out.c0
    have p1 := HRB2.out.c1
    have p2 : wc.cell? ⟨pB, 2, none⟩ = some (.int .i64 ((l : Int) + 1)) := HRB2.out.c2
    have p3 := HRB2.out.c3
    have f0 := HRF.out.c0
    have f1 := HRF.out.c1
    have f2 : wc.cell? ⟨pF, 2, none⟩ = some (.int .i64 ((l : Int) + 1)) := HRF.out.c2
    have f3 := HRF.out.c3
    have HU6 := Lib.hid (HU5.out.trans (HUB.out.trans hUF))
    clear hRF hUF XX0 XX1 RR0 RR1 VA0 VA1 VA2 VA3 VB0 VB1 VB2 VB3
    go_wp2_with (first
      | (go_at_call 11; (with_reducible refine (K6.out wc _ _ HA6.out HRB2.out.bi).mono ?_); rintro e w7 ⟨rfl, hu⟩; have HU7 := Lib.hid (HU6.out.trans hu); have b0 := hu.keep _ _ _ vb0; have b1 := hu.keep _ _ _ vb1; have b2 := hu.keep _ _ _ vb2; have b3 := hu.keep _ _ _ vb3; have q0 := hu.keep _ _ _ f0; have q1 := hu.keep _ _ _ f1; have q2 := hu.keep _ _ _ f2; have q3 := hu.keep _ _ _ f3; have HB7 := Lib.hid (HB6.out.up hu); have HRF7 := Lib.hid (HRF.out.up hu); clear hu)
      | (go_at_call 11; (with_reducible refine (K8.out w7 _ _ HB7.out HRF7.out.bi).mono ?_); rintro e w8 ⟨rfl, hu⟩; have HU8 := Lib.hid (HU7.out.trans hu); clear hu)
      | (go_at_call 12; (with_reducible refine (KA.out _).mono ?_); rintro e w9 ⟨rfl, hu⟩; have HU9 := Lib.hid (HU8.out.trans hu); clear hu))
    go_ret
    exact ⟨rfl, HU9.out⟩

set_option maxRecDepth 100000 in
theorem ringPushes_lifted (os : Os) (started : os.Started) (H : Type) (enc : TypeId × Value → H) :
    ReturnsInHanded {} Try.checked os 5 .any (Rows.ringPushesSpec.pre6 enc Try.prog Try.f5 Rows.ringPushesRow.domain false) (Rows.ringPushesSpec.post enc Try.prog Try.f5 false true false false) := by
  refine returnsInHanded_of_change (C := Try.checked) ringPushes_own started (by kernel_rfl) Try.func5
    (ChangeSpec.witness6 (enc := enc) (C := Try.checked) false ⟨#[], #[.agg #[.int .i64 0, .int .i64 0, .int .i64 0, .slice none 0 0], .agg #[.int .i64 0, .int .i64 0]], []⟩ 8 (by kernel_rfl) (by kernel_rfl) (by kernel_rfl) (by kernel_rfl)) ?_
  intro W base args ds gs before hval0 hW hcnd _
  have hval : ∀ (j : Nat) t v, Try.f5.params[j]? = some t → args[j]? = some v → Value.okWide Try.prog W .any base t v := hval0
  have hW' := hW
  obtain ⟨p, q, hA0, hV, rfl, hfz, hnd⟩ := hW'
  have hA : DataW.TrodAll enc Try.prog W 0 (fun _ => true) true Try.f5.params.toList args.toList ds p := hA0
  rw [Try.params5] at hA hval
  obtain ⟨v0, vs0, d0, ds0, p0, q0, hargs, rfl, rfl, h0, r0⟩ := trodAll_cons hA
  obtain ⟨v1, vs1, d1, ds1, p1, q1, rfl, rfl, rfl, h1, r1⟩ := trodAll_cons r0
  obtain ⟨rfl, rfl, rfl⟩ := trodAll_nil r1
  obtain rfl : args = #[v0, v1] := by cases args; simp_all
  obtain ⟨rfl, rfl⟩ := trodVars_none hV
  have hlt := fun x hx => hW.lt x hx
  have k0 := h0
  obtain ⟨c0, e0, l0, n0, m0, A0, L0, rfl, hk0, hS0⟩ := open_ring (hval 0 24 v0 rfl rfl) h0
  have k1 := h1
  obtain ⟨x1, y1, rfl⟩ := open_item (hval 1 35 v1 rfl rfl) h1
  refine (ringPushes_walk c0 e0 l0 n0 m0 A0 L0 hk0 x1 y1 W hS0).mono fun e W' ⟨he, hg⟩ => ?_
  subst he
  exact ⟨_, rfl, post_of_same (pv := []) hW (fun _ _ _ => (trodAll_cons_mk (shut_bool Try.underlying4 _) trodAll_mk0)) (fun sp hsp => (trodAll_cons_mk (stay (by kernel_rfl) (of_decide_eq_true (by kernel_rfl)) k0 hg hlt (fun x hx => by first | (simp at hx; done) | simp [hx]) hsp) (trodAll_cons_mk (stay (by kernel_rfl) (of_decide_eq_true (by kernel_rfl)) k1 hg hlt (fun x hx => by first | (simp at hx; done) | simp [hx]) hsp) trodAll_mk0))) (fun _ _ => rfl) rfl
    (hg.grown.frame _) hg.grown.2.1 (ok_one (by kernel_rfl) rfl (okWide_bool_mk Try.underlying4 _))⟩

theorem ringPushes_over : Rows.ringPushesRow.holds Try.pinned (OpenSpec.ofChange Rows.ringPushesSpec) :=
  OpenClaim.holds_of_wide 5 Try.f5 rfl rfl rfl rfl rfl rfl rfl ⟨rfl, rfl, rfl, rfl, rfl⟩ rfl rfl rfl rfl rfl (by kernel_rfl) Try.func5 (by kernel_rfl)
    (of_decide_eq_true (by kernel_rfl)) (by unfold Func.isWrapper; first | (rw [if_pos (by decide +kernel)]; kernel_rfl) | (rw [if_neg (by decide +kernel)]; exact ⟨rfl, rfl⟩))
    (fun os started H enc _ => ringPushes_lifted os started H enc)

theorem ringPushes_holds : Rows.RingPushesSaid :=
  ringPushes_over
#print axioms ringPushes_holds
end Go.Proofs.Ytjedcpfipebncaa
