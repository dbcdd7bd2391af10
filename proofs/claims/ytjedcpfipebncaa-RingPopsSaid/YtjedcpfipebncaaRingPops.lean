/- Proved: for every buffer r the law RingPops returns true: PopFront and PopBack of package ring take the first and the last element, or return the error of the reference. Conditions: none. -/
import Derived.Test.YtjedcpfipebncaaRows
import Derived.WalkKit
import Derived.ProofKit
import Derived.OpenShut
import Derived.Lib.SmallJoins
import Derived.Test.YtjedcpfipebncaaGFrame
import Derived.Test.YtjedcpfipebncaaGAwake
import Derived.Test.YtjedcpfipebncaaGSame
import Derived.Test.YtjedcpfipebncaaGRItems
import Derived.Test.YtjedcpfipebncaaGPop
import Derived.Test.YtjedcpfipebncaaGPopB
import Derived.Test.YtjedcpfipebncaaGOf
namespace Go.Proofs.Ytjedcpfipebncaa
open Go.ChangeShapes Go.WideShapes Go.ChangeAt Go.RowKit Go.Joins
set_option linter.unusedVariables false

theorem ringPops_own : ownKnob Try.prog.godebug = none := by kernel_rfl

set_option maxHeartbeats 8000000 in
set_option maxRecDepth 100000 in
theorem ringPops_walk (c h l : Int) (n k : Nat) (A : Option Addr) (L : List It) (hk : n ≤ k) (w : World) (hS : Sl w A n L) :
    Calls Try.prog 6 #[.agg #[.int .i64 c, .int .i64 h, .int .i64 l, .slice A n k]] w fun e w' => e = .returned (.bool true) ∧ Up w w' := by
  have KA := Lib.hid awake_up
  have HU0 := Lib.hid (Up.refl w)
  have KF := Lib.hid (fun W => few_any c h l n k A W)
  by_cases hf : (n : Int) ≤ 200
  case neg =>
    rw [decide_eq_false hf] at KF
    clear hf hS
    go_enter Try.func6, Try.ntmps6
    go_wp2_with (first
      | (go_at_call 14; (with_reducible refine (KF.out _).mono ?_); rintro e w1 ⟨rfl, hu⟩; have HU1 := Lib.hid (HU0.out.trans (((Up.refl _).alloc _ _).trans hu)); clear hu)
      | (go_at_call 12; (with_reducible refine (KA.out _).mono ?_); rintro e w2 ⟨rfl, hu⟩; have HU2 := Lib.hid (HU1.out.trans hu); clear hu))
    go_ret
    exact ⟨rfl, HU2.out⟩
  rw [decide_eq_true hf] at KF
  have hn2 : n ≤ 200 := by omega
  clear hf
  have KZ := Lib.hid (fun W => same_t 0 0 0 0 0 0 none none [] (by omega) W Sl.none_ Sl.none_)
  cases hv : vB c h l L with
  | false =>
    have K1 := Lib.hid (fun W (hu : Up w W) => popFront_bad c h l n k A L hv W (hS.up hu))
    have K1b := Lib.hid (fun W (hu : Up w W) => popBack_bad c h l n k A L hv W (hS.up hu))
    have K2 := Lib.hid (fun W (hu : Up w W) => rval_bad c h l n k A L hv W (hS.up hu))
    have K3 := Lib.hid (fun W (hu : Up w W) => ritems_bad c h l n k A L hv W (hS.up hu))
    have qe : ∀ w, (Op.equalIn 10000 35 (.agg #[.int .i64 0, .int .i64 0]) (.agg #[.int .i64 0, .int .i64 0])).run Try.prog w = .ok true w := fun w => eqItem 0 0 0 0 w
    clear hv hS hn2 hk
    go_enter Try.func6, Try.ntmps6
    go_wp2_with (first
      | (go_at_call 14; (with_reducible refine (KF.out _).mono ?_); rintro e w1 ⟨rfl, hu⟩; have HU1 := Lib.hid (HU0.out.trans (((Up.refl _).alloc _ _).trans hu)); have q1_0 := hu.keep (w.heap.size) 0 (.int .i64 c) (by simp [go_sem]); have q1_1 := hu.keep (w.heap.size) 1 (.int .i64 h) (by simp [go_sem]); have q1_2 := hu.keep (w.heap.size) 2 (.int .i64 l) (by simp [go_sem]); have q1_3 := hu.keep (w.heap.size) 3 (.slice A n k) (by simp [go_sem]); have l1_1 : w.heap.size < w1.heap.size := World.block_lt_of_cell? _ _ q1_0; clear hu)
      | (go_at_call 23; (with_reducible refine (K1.out _ HU1.out).mono ?_); rintro e w2 ⟨rfl, hu⟩; have HU2 := Lib.hid (HU1.out.trans hu); have q2_0 := hu.keep _ _ _ q1_0; have q2_1 := hu.keep _ _ _ q1_1; have q2_2 := hu.keep _ _ _ q1_2; have q2_3 := hu.keep _ _ _ q1_3; have l2_1 : w.heap.size < w2.heap.size := World.block_lt_of_cell? _ _ q2_0; clear hu q1_0 q1_1 q1_2 q1_3)
      | (go_at_call 24; (with_reducible refine (K1b.out _ (HU2.out.trans (((Up.refl _).alloc _ _).alloc _ _))).mono ?_); rintro e w3 ⟨rfl, hu⟩; have HU3 := Lib.hid (HU2.out.trans ((((Up.refl _).alloc _ _).alloc _ _).trans hu)); have q3_0 := ((((Up.refl _).alloc _ _).alloc _ _).trans hu).keep _ _ _ q2_0; have q3_1 := ((((Up.refl _).alloc _ _).alloc _ _).trans hu).keep _ _ _ q2_1; have q3_2 := ((((Up.refl _).alloc _ _).alloc _ _).trans hu).keep _ _ _ q2_2; have q3_3 := ((((Up.refl _).alloc _ _).alloc _ _).trans hu).keep _ _ _ q2_3; have q3_4 := hu.keep (w2.heap.size) 0 (.int .i64 0) (by simp [go_sem]); have q3_5 := hu.keep (w2.heap.size) 1 (.int .i64 0) (by simp [go_sem]); have q3_6 := hu.keep (w2.heap.size) 2 (.int .i64 0) (by simp [go_sem]); have q3_7 := hu.keep (w2.heap.size) 3 (.slice none 0 0) (by simp [go_sem]); have q3_8 := hu.keep (w2.heap.size + 1) 0 (.int .i64 0) (by simp [go_sem]); have q3_9 := hu.keep (w2.heap.size + 1) 1 (.int .i64 0) (by simp [go_sem]); have l3_1 : w.heap.size < w3.heap.size := World.block_lt_of_cell? _ _ q3_0; have l3_2 : w2.heap.size < w3.heap.size := World.block_lt_of_cell? _ _ q3_4; have l3_3 : w2.heap.size + 1 < w3.heap.size := World.block_lt_of_cell? _ _ q3_8; clear hu q2_0 q2_1 q2_2 q2_3))
    obtain ⟨ws, hws⟩ : ∃ z, z = (w3.alloc (.cells #[.int .i64 0, .int .i64 0, .int .i64 0, .slice none 0 0] 24)).alloc (.cells #[.int .i64 0, .int .i64 0] 35) := ⟨_, rfl⟩
    rw [← hws]
    have HA_ws : Hid (Up w3 ws) := Lib.hid (by rw [hws]; exact (((Up.refl _).alloc _ _).alloc _ _))
    have HU_ws := Lib.hid (HU3.out.trans HA_ws.out)
    have rws_0 := HA_ws.out.keep _ _ _ q3_0
    have rws_1 := HA_ws.out.keep _ _ _ q3_1
    have rws_2 := HA_ws.out.keep _ _ _ q3_2
    have rws_3 := HA_ws.out.keep _ _ _ q3_3
    have rws_4 := HA_ws.out.keep _ _ _ q3_4
    have rws_5 := HA_ws.out.keep _ _ _ q3_5
    have rws_6 := HA_ws.out.keep _ _ _ q3_6
    have rws_7 := HA_ws.out.keep _ _ _ q3_7
    have rws_8 := HA_ws.out.keep _ _ _ q3_8
    have rws_9 := HA_ws.out.keep _ _ _ q3_9
    have rws_10 : ws.cell? ⟨w3.heap.size, 0, none⟩ = some (.int .i64 0) := by rw [hws]; simp [go_sem]
    have rws_11 : ws.cell? ⟨w3.heap.size, 1, none⟩ = some (.int .i64 0) := by rw [hws]; simp [go_sem]
    have rws_12 : ws.cell? ⟨w3.heap.size, 2, none⟩ = some (.int .i64 0) := by rw [hws]; simp [go_sem]
    have rws_13 : ws.cell? ⟨w3.heap.size, 3, none⟩ = some (.slice none 0 0) := by rw [hws]; simp [go_sem]
    have rws_14 : ws.cell? ⟨w3.heap.size + 1, 0, none⟩ = some (.int .i64 0) := by rw [hws]; simp [go_sem]
    have rws_15 : ws.cell? ⟨w3.heap.size + 1, 1, none⟩ = some (.int .i64 0) := by rw [hws]; simp [go_sem]
    clear hws q3_0 q3_1 q3_2 q3_3 q3_4 q3_5 q3_6 q3_7 q3_8 q3_9
    have SS_ws : Hid (Up ws ws ∧ ws.cell? ⟨w.heap.size, 0, none⟩ = some (.int .i64 c) ∧ ws.cell? ⟨w.heap.size, 1, none⟩ = some (.int .i64 h) ∧ ws.cell? ⟨w.heap.size, 2, none⟩ = some (.int .i64 l) ∧ ws.cell? ⟨w.heap.size, 3, none⟩ = some (.slice A n k)) := Lib.hid ⟨Up.refl _, rws_0, rws_1, rws_2, rws_3⟩
    go_region_held3 (fun w' => Up ws w' ∧ w'.cell? ⟨w.heap.size, 0, none⟩ = some (.int .i64 c) ∧ w'.cell? ⟨w.heap.size, 1, none⟩ = some (.int .i64 h) ∧ w'.cell? ⟨w.heap.size, 2, none⟩ = some (.int .i64 l) ∧ w'.cell? ⟨w.heap.size, 3, none⟩ = some (.slice A n k))
      (first | (with_reducible exact SS_ws.out) | (with_reducible exact keep4 (Lib.hid (Up.refl _).drew) SS_ws.out) | (with_reducible exact keep4 (by assumption) (by assumption)))
      (first
        | (go_at_call 15; (with_reducible refine (K2.out _ (HU_ws.out.trans (And.left (by assumption)))).mono ?_); rintro e w4 ⟨rfl, hu⟩; have HX4 := Lib.hid hu; clear hu)
        | (go_at_call 16; (with_reducible refine (K3.out _ (HU_ws.out.trans (And.left (by assumption)))).mono ?_); rintro e w5 ⟨rfl, hu⟩; have HX5 := Lib.hid hu; clear hu))
    have HUV := Lib.hid (And.left ‹Up ws w5 ∧ _›)
    clear ‹Up ws w5 ∧ _›
    have HU5 := Lib.hid (HU_ws.out.trans HUV.out)
    have rr0 := HUV.out.keep _ _ _ rws_0
    have rr1 := HUV.out.keep _ _ _ rws_1
    have rr2 := HUV.out.keep _ _ _ rws_2
    have rr3 := HUV.out.keep _ _ _ rws_3
    have va0 := HUV.out.keep _ _ _ rws_4
    have va1 := HUV.out.keep _ _ _ rws_5
    have va2 := HUV.out.keep _ _ _ rws_6
    have va3 := HUV.out.keep _ _ _ rws_7
    have vx0 := HUV.out.keep _ _ _ rws_8
    have vx1 := HUV.out.keep _ _ _ rws_9
    have vb0 := HUV.out.keep _ _ _ rws_10
    have vb1 := HUV.out.keep _ _ _ rws_11
    have vb2 := HUV.out.keep _ _ _ rws_12
    have vb3 := HUV.out.keep _ _ _ rws_13
    have vy0 := HUV.out.keep _ _ _ rws_14
    have vy1 := HUV.out.keep _ _ _ rws_15
    clear rws_0 rws_1 rws_2 rws_3 rws_4 rws_5 rws_6 rws_7 rws_8 rws_9 rws_10 rws_11 rws_12 rws_13 rws_14 rws_15
    go_wp2_with (first
      | (go_at_call 11; (with_reducible refine (KZ.out w5).mono ?_); rintro e w6 ⟨rfl, hu⟩; have HU6 := Lib.hid (HU5.out.trans hu); have b0 := hu.keep _ _ _ vb0; have b1 := hu.keep _ _ _ vb1; have b2 := hu.keep _ _ _ vb2; have b3 := hu.keep _ _ _ vb3; clear hu)
      | (go_at_call 11; (with_reducible refine (KZ.out w6).mono ?_); rintro e w7 ⟨rfl, hu⟩; have HU7 := Lib.hid (HU6.out.trans hu); clear hu)
      | (go_at_call 12; (with_reducible refine (KA.out _).mono ?_); rintro e w8 ⟨rfl, hu⟩; have HU8 := Lib.hid (HU7.out.trans hu); clear hu))
    go_ret
    exact ⟨rfl, HU8.out⟩
  | true =>
    obtain ⟨c, h, M, rfl, rfl, rfl, rfl, hc, hc', hh, hM⟩ := vB_true hv
    obtain rfl : n = c := by rw [← hS.1, ofL_length]
    clear hv
    have K2 := Lib.hid (fun W (hu : Up w W) => rval_good n h k A M hc hc' hh hM W (hS.up hu))
    have K3 := Lib.hid (fun W (hu : Up w W) => ritems_good n h k A M hc hc' hh hM W (hS.up hu))
    by_cases h1 : M.length = 0
    · have K1 := Lib.hid (fun W (hu : Up w W) => popFront_empty n h k A M hc hc' hh hM h1 W (hS.up hu))
      have K1b := Lib.hid (fun W (hu : Up w W) => popBack_empty n h k A M hc hc' hh hM h1 W (hS.up hu))
      have qe : ∀ w, (Op.equalIn 10000 35 (.agg #[.int .i64 0, .int .i64 0]) (.agg #[.int .i64 0, .int .i64 0])).run Try.prog w = .ok true w := fun w => eqItem 0 0 0 0 w
      clear hS
      generalize M.length = l at *
      have t3 : ((l : Int) == 0) = true := by simp; omega
      have t4 : (l == 0) = true := by simp; omega
      clear h1
      go_enter Try.func6, Try.ntmps6
      go_wp2_with (first
        | (go_at_call 14; (with_reducible refine (KF.out _).mono ?_); rintro e w1 ⟨rfl, hu⟩; have HU1 := Lib.hid (HU0.out.trans (((Up.refl _).alloc _ _).trans hu)); have q1_0 := hu.keep (w.heap.size) 0 (.int .i64 n) (by simp [go_sem]); have q1_1 := hu.keep (w.heap.size) 1 (.int .i64 h) (by simp [go_sem]); have q1_2 := hu.keep (w.heap.size) 2 (.int .i64 l) (by simp [go_sem]); have q1_3 := hu.keep (w.heap.size) 3 (.slice A n k) (by simp [go_sem]); have l1_1 : w.heap.size < w1.heap.size := World.block_lt_of_cell? _ _ q1_0; clear hu)
        | (go_at_call 23; (with_reducible refine (K1.out _ HU1.out).mono ?_); rintro e w2 ⟨rfl, hu⟩; have HU2 := Lib.hid (HU1.out.trans hu); have q2_0 := hu.keep _ _ _ q1_0; have q2_1 := hu.keep _ _ _ q1_1; have q2_2 := hu.keep _ _ _ q1_2; have q2_3 := hu.keep _ _ _ q1_3; have l2_1 : w.heap.size < w2.heap.size := World.block_lt_of_cell? _ _ q2_0; clear hu q1_0 q1_1 q1_2 q1_3)
        | (go_at_call 24; (with_reducible refine (K1b.out _ (HU2.out.trans (((Up.refl _).alloc _ _).alloc _ _))).mono ?_); rintro e w3 ⟨rfl, hu⟩; have HU3 := Lib.hid (HU2.out.trans ((((Up.refl _).alloc _ _).alloc _ _).trans hu)); have q3_0 := ((((Up.refl _).alloc _ _).alloc _ _).trans hu).keep _ _ _ q2_0; have q3_1 := ((((Up.refl _).alloc _ _).alloc _ _).trans hu).keep _ _ _ q2_1; have q3_2 := ((((Up.refl _).alloc _ _).alloc _ _).trans hu).keep _ _ _ q2_2; have q3_3 := ((((Up.refl _).alloc _ _).alloc _ _).trans hu).keep _ _ _ q2_3; have q3_4 := hu.keep (w2.heap.size) 0 (.int .i64 0) (by simp [go_sem]); have q3_5 := hu.keep (w2.heap.size) 1 (.int .i64 0) (by simp [go_sem]); have q3_6 := hu.keep (w2.heap.size) 2 (.int .i64 0) (by simp [go_sem]); have q3_7 := hu.keep (w2.heap.size) 3 (.slice none 0 0) (by simp [go_sem]); have q3_8 := hu.keep (w2.heap.size + 1) 0 (.int .i64 0) (by simp [go_sem]); have q3_9 := hu.keep (w2.heap.size + 1) 1 (.int .i64 0) (by simp [go_sem]); have l3_1 : w.heap.size < w3.heap.size := World.block_lt_of_cell? _ _ q3_0; have l3_2 : w2.heap.size < w3.heap.size := World.block_lt_of_cell? _ _ q3_4; have l3_3 : w2.heap.size + 1 < w3.heap.size := World.block_lt_of_cell? _ _ q3_8; clear hu q2_0 q2_1 q2_2 q2_3))
      obtain ⟨ws, hws⟩ : ∃ z, z = (w3.alloc (.cells #[.int .i64 0, .int .i64 0, .int .i64 0, .slice none 0 0] 24)).alloc (.cells #[.int .i64 0, .int .i64 0] 35) := ⟨_, rfl⟩
      rw [← hws]
      have HA_ws : Hid (Up w3 ws) := Lib.hid (by rw [hws]; exact (((Up.refl _).alloc _ _).alloc _ _))
      have HU_ws := Lib.hid (HU3.out.trans HA_ws.out)
      have rws_0 := HA_ws.out.keep _ _ _ q3_0
      have rws_1 := HA_ws.out.keep _ _ _ q3_1
      have rws_2 := HA_ws.out.keep _ _ _ q3_2
      have rws_3 := HA_ws.out.keep _ _ _ q3_3
      have rws_4 := HA_ws.out.keep _ _ _ q3_4
      have rws_5 := HA_ws.out.keep _ _ _ q3_5
      have rws_6 := HA_ws.out.keep _ _ _ q3_6
      have rws_7 := HA_ws.out.keep _ _ _ q3_7
      have rws_8 := HA_ws.out.keep _ _ _ q3_8
      have rws_9 := HA_ws.out.keep _ _ _ q3_9
      have rws_10 : ws.cell? ⟨w3.heap.size, 0, none⟩ = some (.int .i64 0) := by rw [hws]; simp [go_sem]
      have rws_11 : ws.cell? ⟨w3.heap.size, 1, none⟩ = some (.int .i64 0) := by rw [hws]; simp [go_sem]
      have rws_12 : ws.cell? ⟨w3.heap.size, 2, none⟩ = some (.int .i64 0) := by rw [hws]; simp [go_sem]
      have rws_13 : ws.cell? ⟨w3.heap.size, 3, none⟩ = some (.slice none 0 0) := by rw [hws]; simp [go_sem]
      have rws_14 : ws.cell? ⟨w3.heap.size + 1, 0, none⟩ = some (.int .i64 0) := by rw [hws]; simp [go_sem]
      have rws_15 : ws.cell? ⟨w3.heap.size + 1, 1, none⟩ = some (.int .i64 0) := by rw [hws]; simp [go_sem]
      clear hws q3_0 q3_1 q3_2 q3_3 q3_4 q3_5 q3_6 q3_7 q3_8 q3_9
      have SS_ws : Hid (Up ws ws ∧ ws.cell? ⟨w.heap.size, 0, none⟩ = some (.int .i64 n) ∧ ws.cell? ⟨w.heap.size, 1, none⟩ = some (.int .i64 h) ∧ ws.cell? ⟨w.heap.size, 2, none⟩ = some (.int .i64 l) ∧ ws.cell? ⟨w.heap.size, 3, none⟩ = some (.slice A n k)) := Lib.hid ⟨Up.refl _, rws_0, rws_1, rws_2, rws_3⟩
      go_region_held3 (fun w' => Up ws w' ∧ w'.cell? ⟨w.heap.size, 0, none⟩ = some (.int .i64 n) ∧ w'.cell? ⟨w.heap.size, 1, none⟩ = some (.int .i64 h) ∧ w'.cell? ⟨w.heap.size, 2, none⟩ = some (.int .i64 l) ∧ w'.cell? ⟨w.heap.size, 3, none⟩ = some (.slice A n k))
        (first | (with_reducible exact SS_ws.out) | (with_reducible exact keep4 (Lib.hid (Up.refl _).drew) SS_ws.out) | (with_reducible exact keep4 (by assumption) (by assumption)))
        (first
          | (go_at_call 15; (with_reducible refine (K2.out _ (HU_ws.out.trans (And.left (by assumption)))).mono ?_); rintro e w4 ⟨rfl, hu⟩; have HX4 := Lib.hid hu; clear hu)
          | (go_at_call 16; (with_reducible refine (K3.out _ (HU_ws.out.trans (And.left (by assumption)))).mono ?_); rintro e w5 ⟨A', k', rfl, hk', hS', hu⟩; have HX5 := Lib.hid hu; have HS5 := Lib.hid hS'; clear hS'; clear hu))
      have HUV := Lib.hid (And.left ‹Up ws w5 ∧ _›)
      clear ‹Up ws w5 ∧ _›
      have HU5 := Lib.hid (HU_ws.out.trans HUV.out)
      have rr0 := HUV.out.keep _ _ _ rws_0
      have rr1 := HUV.out.keep _ _ _ rws_1
      have rr2 := HUV.out.keep _ _ _ rws_2
      have rr3 := HUV.out.keep _ _ _ rws_3
      have va0 := HUV.out.keep _ _ _ rws_4
      have va1 := HUV.out.keep _ _ _ rws_5
      have va2 := HUV.out.keep _ _ _ rws_6
      have va3 := HUV.out.keep _ _ _ rws_7
      have vx0 := HUV.out.keep _ _ _ rws_8
      have vx1 := HUV.out.keep _ _ _ rws_9
      have vb0 := HUV.out.keep _ _ _ rws_10
      have vb1 := HUV.out.keep _ _ _ rws_11
      have vb2 := HUV.out.keep _ _ _ rws_12
      have vb3 := HUV.out.keep _ _ _ rws_13
      have vy0 := HUV.out.keep _ _ _ rws_14
      have vy1 := HUV.out.keep _ _ _ rws_15
      clear rws_0 rws_1 rws_2 rws_3 rws_4 rws_5 rws_6 rws_7 rws_8 rws_9 rws_10 rws_11 rws_12 rws_13 rws_14 rws_15
      go_wp2_with (first
        | (go_at_call 11; (with_reducible refine (KZ.out w5).mono ?_); rintro e w6 ⟨rfl, hu⟩; have HU6 := Lib.hid (HU5.out.trans hu); have b0 := hu.keep _ _ _ vb0; have b1 := hu.keep _ _ _ vb1; have b2 := hu.keep _ _ _ vb2; have b3 := hu.keep _ _ _ vb3; clear hu)
        | (go_at_call 11; (with_reducible refine (KZ.out w6).mono ?_); rintro e w7 ⟨rfl, hu⟩; have HU7 := Lib.hid (HU6.out.trans hu); clear hu)
        | (go_at_call 12; (with_reducible refine (KA.out _).mono ?_); rintro e w8 ⟨rfl, hu⟩; have HU8 := Lib.hid (HU7.out.trans hu); clear hu))
      go_ret
      exact ⟨rfl, HU8.out⟩
    obtain ⟨l, hl⟩ : ∃ l, M.length = l + 1 := ⟨M.length - 1, by omega⟩
    have K1 := Lib.hid (fun W (hu : Up w W) => popFront_good n h k A M hc hc' hh hM (by omega) W (hS.up hu))
    have K1b := Lib.hid (fun W (hu : Up w W) => popBack_good n h k A M hc hc' hh hM (by omega) W (hS.up hu))
    have hhm : (h + 1) % n < n := Nat.mod_lt _ (by omega)
    have hm1 : n ≤ 1000000 := by omega
    have hMt : M.tail.length = l := by rw [List.length_tail]; omega
    have hMk : (M.take l).length = l := by rw [List.length_take]; omega
    have K5 := Lib.hid (fun W A' k' (hA : Sl W A' l M.tail) => of_any n ((h + 1) % n) k' A' M.tail (by omega) (by omega) hhm (by omega) W (by rw [hMt]; exact hA))
    rw [hMt] at K5
    have K7 := Lib.hid (fun W A' k' (hA : Sl W A' l (M.take l)) => of_any n h k' A' (M.take l) (by omega) (by omega) hh (by omega) W (by rw [hMk]; exact hA))
    rw [hMk] at K7
    have K6 := Lib.hid (fun W g g' (hA : Bi W g (ofL n ((h + 1) % n) M.tail)) (hB : Bi W g' (ofL n ((h + 1) % n) M.tail)) => same_t n (((h + 1) % n : Nat) : Int) l n n n (some ⟨g, 0, none⟩) (some ⟨g', 0, none⟩) _ hm1 W (hA.sl (ofL_length _ _ _)) (hB.sl (ofL_length _ _ _)))
    have K8 := Lib.hid (fun W g g' (hA : Bi W g (ofL n h (M.take l))) (hB : Bi W g' (ofL n h (M.take l))) => same_t n h l n n n (some ⟨g, 0, none⟩) (some ⟨g', 0, none⟩) _ hm1 W (hA.sl (ofL_length _ _ _)) (hB.sl (ofL_length _ _ _)))
    have KQ0 := Lib.hid (fun W A (hA : Sl W A (l + 1) M) => hA.at_ (k := 0) (by omega))
    have KQ1 := Lib.hid (fun W A (hA : Sl W A (l + 1) M) => hA.at_ (k := l) (by omega))
    have KT : Hid (∀ W A k, l + 1 ≤ k → Sl W A (l + 1) M → Sl W (if k = 1 then A else A.map (·.add (1 * 2))) l M.tail) := Lib.hid (fun W A k hk hA => by
      have := hA.cut (k := 1) (cap := k) (by omega) hk
      rw [List.drop_one] at this
      exact this)
    rw [hl] at KF K1 K1b K2 K3 hM ⊢
    rw [show l + 1 - 1 = l by omega] at K1 K1b
    clear hS hl hMt hMk h1
    generalize (M.getD 0 (0, 0)).1 = p0 at *
    generalize (M.getD 0 (0, 0)).2 = p1 at *
    generalize (M.getD l (0, 0)).1 = s0 at *
    generalize (M.getD l (0, 0)).2 = s1 at *
    generalize hmm : (h + 1) % n = p at *
    have HP := Lib.hid hmm
    clear hmm
    rw [show ((l + 1 : Nat) : Int) = (l : Int) + 1 from rfl] at KF K1 K1b K2 K3 ⊢
    have qe : ∀ (a b : Int) w, (Op.equalIn 10000 35 (.agg #[.int .i64 a, .int .i64 b]) (.agg #[.int .i64 a, .int .i64 b])).run Try.prog w = .ok true w := fun a b w => by rw [eqItem]; simp
    have t3 : ((l : Int) + 1 == 0) = false := by simp; omega
    have t4 : (l + 1 == 0) = false := by simp
    go_enter Try.func6, Try.ntmps6
    go_wp2_with (first
      | (go_at_call 14; (with_reducible refine (KF.out _).mono ?_); rintro e w1 ⟨rfl, hu⟩; have HU1 := Lib.hid (HU0.out.trans (((Up.refl _).alloc _ _).trans hu)); have q1_0 := hu.keep (w.heap.size) 0 (.int .i64 n) (by simp [go_sem]); have q1_1 := hu.keep (w.heap.size) 1 (.int .i64 h) (by simp [go_sem]); have q1_2 := hu.keep (w.heap.size) 2 (.int .i64 ((l : Int) + 1)) (by simp [go_sem]); have q1_3 := hu.keep (w.heap.size) 3 (.slice A n k) (by simp [go_sem]); have l1_1 : w.heap.size < w1.heap.size := World.block_lt_of_cell? _ _ q1_0; clear hu)
      | (go_at_call 23; (with_reducible refine (K1.out _ HU1.out).mono ?_); rintro e w2 ⟨g, rfl, hg, hb, hu⟩; have HU2 := Lib.hid (HU1.out.trans hu); have q2_0 := hu.keep _ _ _ q1_0; have q2_1 := hu.keep _ _ _ q1_1; have q2_2 := hu.keep _ _ _ q1_2; have q2_3 := hu.keep _ _ _ q1_3; have l2_1 : w.heap.size < w2.heap.size := World.block_lt_of_cell? _ _ q2_0; have HBa := Lib.hid hb; clear hb; clear hu q1_0 q1_1 q1_2 q1_3)
      | (go_at_call 24; (with_reducible refine (K1b.out _ (HU2.out.trans (((Up.refl _).alloc _ _).alloc _ _))).mono ?_); rintro e w3 ⟨g2, rfl, hg2, hb2, hu⟩; have HU3 := Lib.hid (HU2.out.trans ((((Up.refl _).alloc _ _).alloc _ _).trans hu)); have q3_0 := ((((Up.refl _).alloc _ _).alloc _ _).trans hu).keep _ _ _ q2_0; have q3_1 := ((((Up.refl _).alloc _ _).alloc _ _).trans hu).keep _ _ _ q2_1; have q3_2 := ((((Up.refl _).alloc _ _).alloc _ _).trans hu).keep _ _ _ q2_2; have q3_3 := ((((Up.refl _).alloc _ _).alloc _ _).trans hu).keep _ _ _ q2_3; have q3_4 := hu.keep (w2.heap.size) 0 (.int .i64 n) (by simp [go_sem]); have q3_5 := hu.keep (w2.heap.size) 1 (.int .i64 p) (by simp [go_sem]); have q3_6 := hu.keep (w2.heap.size) 2 (.int .i64 l) (by simp [go_sem]); have q3_7 := hu.keep (w2.heap.size) 3 (.slice (some ⟨g, 0, none⟩) n n) (by simp [go_sem]); have q3_8 := hu.keep (w2.heap.size + 1) 0 (.int .i64 p0) (by simp [go_sem]); have q3_9 := hu.keep (w2.heap.size + 1) 1 (.int .i64 p1) (by simp [go_sem]); have l3_1 : w.heap.size < w3.heap.size := World.block_lt_of_cell? _ _ q3_0; have l3_2 : w2.heap.size < w3.heap.size := World.block_lt_of_cell? _ _ q3_4; have l3_3 : w2.heap.size + 1 < w3.heap.size := World.block_lt_of_cell? _ _ q3_8; have HBa3 := Lib.hid (HBa.out.up ((((Up.refl _).alloc _ _).alloc _ _).trans hu)); have HBb := Lib.hid hb2; clear hb2; clear hu q2_0 q2_1 q2_2 q2_3))
    obtain ⟨ws, hws⟩ : ∃ z, z = (w3.alloc (.cells #[.int .i64 n, .int .i64 h, .int .i64 l, .slice (some ⟨g2, 0, none⟩) n n] 24)).alloc (.cells #[.int .i64 s0, .int .i64 s1] 35) := ⟨_, rfl⟩
    rw [← hws]
    have HA_ws : Hid (Up w3 ws) := Lib.hid (by rw [hws]; exact (((Up.refl _).alloc _ _).alloc _ _))
    have HU_ws := Lib.hid (HU3.out.trans HA_ws.out)
    have rws_0 := HA_ws.out.keep _ _ _ q3_0
    have rws_1 := HA_ws.out.keep _ _ _ q3_1
    have rws_2 := HA_ws.out.keep _ _ _ q3_2
    have rws_3 := HA_ws.out.keep _ _ _ q3_3
    have rws_4 := HA_ws.out.keep _ _ _ q3_4
    have rws_5 := HA_ws.out.keep _ _ _ q3_5
    have rws_6 := HA_ws.out.keep _ _ _ q3_6
    have rws_7 := HA_ws.out.keep _ _ _ q3_7
    have rws_8 := HA_ws.out.keep _ _ _ q3_8
    have rws_9 := HA_ws.out.keep _ _ _ q3_9
    have rws_10 : ws.cell? ⟨w3.heap.size, 0, none⟩ = some (.int .i64 n) := by rw [hws]; simp [go_sem]
    have rws_11 : ws.cell? ⟨w3.heap.size, 1, none⟩ = some (.int .i64 h) := by rw [hws]; simp [go_sem]
    have rws_12 : ws.cell? ⟨w3.heap.size, 2, none⟩ = some (.int .i64 l) := by rw [hws]; simp [go_sem]
    have rws_13 : ws.cell? ⟨w3.heap.size, 3, none⟩ = some (.slice (some ⟨g2, 0, none⟩) n n) := by rw [hws]; simp [go_sem]
    have rws_14 : ws.cell? ⟨w3.heap.size + 1, 0, none⟩ = some (.int .i64 s0) := by rw [hws]; simp [go_sem]
    have rws_15 : ws.cell? ⟨w3.heap.size + 1, 1, none⟩ = some (.int .i64 s1) := by rw [hws]; simp [go_sem]
    clear hws q3_0 q3_1 q3_2 q3_3 q3_4 q3_5 q3_6 q3_7 q3_8 q3_9
    have SS_ws : Hid (Up ws ws ∧ ws.cell? ⟨w.heap.size, 0, none⟩ = some (.int .i64 n) ∧ ws.cell? ⟨w.heap.size, 1, none⟩ = some (.int .i64 h) ∧ ws.cell? ⟨w.heap.size, 2, none⟩ = some (.int .i64 ((l : Int) + 1)) ∧ ws.cell? ⟨w.heap.size, 3, none⟩ = some (.slice A n k)) := Lib.hid ⟨Up.refl _, rws_0, rws_1, rws_2, rws_3⟩
    go_region_held3 (fun w' => Up ws w' ∧ w'.cell? ⟨w.heap.size, 0, none⟩ = some (.int .i64 n) ∧ w'.cell? ⟨w.heap.size, 1, none⟩ = some (.int .i64 h) ∧ w'.cell? ⟨w.heap.size, 2, none⟩ = some (.int .i64 ((l : Int) + 1)) ∧ w'.cell? ⟨w.heap.size, 3, none⟩ = some (.slice A n k))
      (first | (with_reducible exact SS_ws.out) | (with_reducible exact keep4 (Lib.hid (Up.refl _).drew) SS_ws.out) | (with_reducible exact keep4 (by assumption) (by assumption)))
      (first
        | (go_at_call 15; (with_reducible refine (K2.out _ (HU_ws.out.trans (And.left (by assumption)))).mono ?_); rintro e w4 ⟨rfl, hu⟩; have HX4 := Lib.hid hu; clear hu)
        | (go_at_call 16; (with_reducible refine (K3.out _ (HU_ws.out.trans (And.left (by assumption)))).mono ?_); rintro e w5 ⟨A', k', rfl, hk', hS', hu⟩; have HX5 := Lib.hid hu; have HS5 := Lib.hid hS'; clear hS'; clear hu))
    have HUV := Lib.hid (And.left ‹Up ws w5 ∧ _›)
    clear ‹Up ws w5 ∧ _›
    have HU5 := Lib.hid (HU_ws.out.trans HUV.out)
    have rr0 := HUV.out.keep _ _ _ rws_0
    have rr1 := HUV.out.keep _ _ _ rws_1
    have rr2 := HUV.out.keep _ _ _ rws_2
    have rr3 := HUV.out.keep _ _ _ rws_3
    have va0 := HUV.out.keep _ _ _ rws_4
    have va1 := HUV.out.keep _ _ _ rws_5
    have va2 := HUV.out.keep _ _ _ rws_6
    have va3 := HUV.out.keep _ _ _ rws_7
    have vx0 := HUV.out.keep _ _ _ rws_8
    have vx1 := HUV.out.keep _ _ _ rws_9
    have vb0 := HUV.out.keep _ _ _ rws_10
    have vb1 := HUV.out.keep _ _ _ rws_11
    have vb2 := HUV.out.keep _ _ _ rws_12
    have vb3 := HUV.out.keep _ _ _ rws_13
    have vy0 := HUV.out.keep _ _ _ rws_14
    have vy1 := HUV.out.keep _ _ _ rws_15
    clear rws_0 rws_1 rws_2 rws_3 rws_4 rws_5 rws_6 rws_7 rws_8 rws_9 rws_10 rws_11 rws_12 rws_13 rws_14 rws_15
    go_wp2_with fail
    obtain ⟨b, o, rfl, d0, d1⟩ := KQ0.out w5 A' HS5.out
    obtain ⟨b', o', eb, d2, d3⟩ := KQ1.out w5 _ HS5.out
    injection eb with eb
    injection eb with eb1 eb2
    subst eb1 eb2
    rw [Nat.zero_mul, Nat.add_zero] at d0 d1
    have HTT := Lib.hid (KT.out w5 _ k' hk' HS5.out)
    have HK : Hid (Sl w5 (some ⟨b, o, none⟩) l (M.take l)) := Lib.hid (HS5.out.first (by omega))
    have HBa5 := Lib.hid ((HBa3.out.up HA_ws.out).up HUV.out)
    have HBb5 := Lib.hid ((HBb.out.up HA_ws.out).up HUV.out)
    have z1 : ¬ k' = 0 := by omega
    have z2 : (l : Int) ≤ k' := by omega
    have z3 : (0 : Int) ≤ l := by omega
    have z4 : ¬ n = 0 := by omega
    have z5 : (1 : Int) ≤ (l : Int) + 1 := by omega
    have z6 : (l : Int) < (l : Int) + 1 := by omega
    have z7 : (0 : Int) < (l : Int) + 1 := by omega
    have g1 : IntKind.i64.wrap (l : Int) = l := IntWalk.i64_in _ (by omega)
    have g2' : IntKind.i64.wrap ((l : Int) + 1 - 1) = l := by rw [Int.add_sub_cancel]; exact g1
    have g3 : IntKind.i64.wrap ((h : Int) + 1) = (h : Int) + 1 := IntWalk.i64_in _ (by clear g1 g2'; omega)
    have g4 : ((h : Int) + 1).tmod n = (p : Int) := by rw [Int.tmod_eq_emod_of_nonneg (by clear g1 g2' g3; omega), ← HP.out]; rfl
    have g5 : IntKind.i64.wrap (p : Int) = p := IntWalk.i64_in _ (by clear g1 g2' g3 g4; omega)
    by_cases hk1 : k' = 1
    · subst hk1
      rw [if_pos rfl] at HTT
      have z8 : (l : Int) ≤ 1 := by clear g1 g2' g3 g4 g5; omega
      have z9 : l ≤ 1 := by clear g1 g2' g3 g4 g5; omega
      clear hk'
      have SS : Hid (Up w5 w5 ∧ w5.cell? ⟨w2.heap.size + 1, 0, none⟩ = some (.int .i64 p0) ∧ w5.cell? ⟨w2.heap.size + 1, 1, none⟩ = some (.int .i64 p1) ∧ w5.cell? ⟨b, o, none⟩ = some (.int .i64 p0) ∧ w5.cell? ⟨b, o + 1, none⟩ = some (.int .i64 p1) ∧ w5.cell? ⟨w3.heap.size + 1, 0, none⟩ = some (.int .i64 s0) ∧ w5.cell? ⟨w3.heap.size + 1, 1, none⟩ = some (.int .i64 s1) ∧ w5.cell? ⟨b, o + l * 2, none⟩ = some (.int .i64 s0) ∧ w5.cell? ⟨b, o + l * 2 + 1, none⟩ = some (.int .i64 s1) ∧ w5.cell? ⟨w2.heap.size, 0, none⟩ = some (.int .i64 n) ∧ w5.cell? ⟨w2.heap.size, 1, none⟩ = some (.int .i64 p) ∧ w5.cell? ⟨w2.heap.size, 2, none⟩ = some (.int .i64 l) ∧ w5.cell? ⟨w2.heap.size, 3, none⟩ = some (.slice (some ⟨g, 0, none⟩) n n) ∧ w5.cell? ⟨w.heap.size, 0, none⟩ = some (.int .i64 n) ∧ w5.cell? ⟨w.heap.size, 1, none⟩ = some (.int .i64 h) ∧ w5.cell? ⟨w3.heap.size, 0, none⟩ = some (.int .i64 n) ∧ w5.cell? ⟨w3.heap.size, 1, none⟩ = some (.int .i64 h) ∧ w5.cell? ⟨w3.heap.size, 2, none⟩ = some (.int .i64 l) ∧ w5.cell? ⟨w3.heap.size, 3, none⟩ = some (.slice (some ⟨g2, 0, none⟩) n n)) := Lib.hid ⟨Up.refl _, vx0, vx1, d0, d1, vy0, vy1, d2, d3, va0, va1, va2, va3, rr0, rr1, vb0, vb1, vb2, vb3⟩
      clear vx0 vx1 d0 d1 vy0 vy1 d2 d3 va0 va1 va2 va3 rr0 rr1 vb0 vb1 vb2 vb3 rr2 rr3
      go_region_held3 (fun w' => Up w5 w' ∧ w'.cell? ⟨w2.heap.size + 1, 0, none⟩ = some (.int .i64 p0) ∧ w'.cell? ⟨w2.heap.size + 1, 1, none⟩ = some (.int .i64 p1) ∧ w'.cell? ⟨b, o, none⟩ = some (.int .i64 p0) ∧ w'.cell? ⟨b, o + 1, none⟩ = some (.int .i64 p1) ∧ w'.cell? ⟨w3.heap.size + 1, 0, none⟩ = some (.int .i64 s0) ∧ w'.cell? ⟨w3.heap.size + 1, 1, none⟩ = some (.int .i64 s1) ∧ w'.cell? ⟨b, o + l * 2, none⟩ = some (.int .i64 s0) ∧ w'.cell? ⟨b, o + l * 2 + 1, none⟩ = some (.int .i64 s1) ∧ w'.cell? ⟨w2.heap.size, 0, none⟩ = some (.int .i64 n) ∧ w'.cell? ⟨w2.heap.size, 1, none⟩ = some (.int .i64 p) ∧ w'.cell? ⟨w2.heap.size, 2, none⟩ = some (.int .i64 l) ∧ w'.cell? ⟨w2.heap.size, 3, none⟩ = some (.slice (some ⟨g, 0, none⟩) n n) ∧ w'.cell? ⟨w.heap.size, 0, none⟩ = some (.int .i64 n) ∧ w'.cell? ⟨w.heap.size, 1, none⟩ = some (.int .i64 h) ∧ w'.cell? ⟨w3.heap.size, 0, none⟩ = some (.int .i64 n) ∧ w'.cell? ⟨w3.heap.size, 1, none⟩ = some (.int .i64 h) ∧ w'.cell? ⟨w3.heap.size, 2, none⟩ = some (.int .i64 l) ∧ w'.cell? ⟨w3.heap.size, 3, none⟩ = some (.slice (some ⟨g2, 0, none⟩) n n))
        (first | (with_reducible exact SS.out) | (with_reducible exact keep18 (Lib.hid (Up.refl _).drew) SS.out) | (with_reducible exact keep18 (by assumption) (by assumption)))
        (first
          | (go_at_call 22; (with_reducible refine (K5.out _ _ _ (HTT.out.up (And.left (by assumption)))).mono ?_); rintro e w6 ⟨g6, rfl, hg6, hb6, hu⟩; have HX6 := Lib.hid hu; have HB6 := Lib.hid hb6; clear hb6; clear hu)
          | (go_at_call 11; (with_reducible refine (K6.out _ _ _ (HBa5.out.up (And.left (by assumption))) HB6.out).mono ?_); rintro e w7 ⟨rfl, hu⟩; have HX7 := Lib.hid hu; clear hu)
          | (go_at_call 22; (with_reducible refine (K7.out _ _ _ (HK.out.up (And.left (by assumption)))).mono ?_); rintro e w8 ⟨g8, rfl, hg8, hb8, hu⟩; have HX8 := Lib.hid hu; have HB8 := Lib.hid hb8; clear hb8; clear hu)
          | (go_at_call 11; (with_reducible refine (K8.out _ _ _ (HBb5.out.up (And.left (by assumption))) HB8.out).mono ?_); rintro e w9 ⟨rfl, hu⟩; have HX9 := Lib.hid hu; clear hu)
          | (go_at_call 12; (with_reducible refine (KA.out _).mono ?_); rintro e w10 ⟨rfl, hu⟩; have HX10 := Lib.hid hu; clear hu))
      clear g1 g2' g3 g4 g5
      go_wp2_with fail
      go_ret
      exact ⟨rfl, HU5.out.trans (And.left ‹Up w5 _ ∧ _›)⟩
    · rw [if_neg hk1] at HTT
      have HTT2 : Hid (Sl w5 (some ⟨b, o + 2, none⟩) l M.tail) := Lib.hid (by have := HTT.out; simpa [add_at] using this)
      clear HTT
      have SS : Hid (Up w5 w5 ∧ w5.cell? ⟨w2.heap.size + 1, 0, none⟩ = some (.int .i64 p0) ∧ w5.cell? ⟨w2.heap.size + 1, 1, none⟩ = some (.int .i64 p1) ∧ w5.cell? ⟨b, o, none⟩ = some (.int .i64 p0) ∧ w5.cell? ⟨b, o + 1, none⟩ = some (.int .i64 p1) ∧ w5.cell? ⟨w3.heap.size + 1, 0, none⟩ = some (.int .i64 s0) ∧ w5.cell? ⟨w3.heap.size + 1, 1, none⟩ = some (.int .i64 s1) ∧ w5.cell? ⟨b, o + l * 2, none⟩ = some (.int .i64 s0) ∧ w5.cell? ⟨b, o + l * 2 + 1, none⟩ = some (.int .i64 s1) ∧ w5.cell? ⟨w2.heap.size, 0, none⟩ = some (.int .i64 n) ∧ w5.cell? ⟨w2.heap.size, 1, none⟩ = some (.int .i64 p) ∧ w5.cell? ⟨w2.heap.size, 2, none⟩ = some (.int .i64 l) ∧ w5.cell? ⟨w2.heap.size, 3, none⟩ = some (.slice (some ⟨g, 0, none⟩) n n) ∧ w5.cell? ⟨w.heap.size, 0, none⟩ = some (.int .i64 n) ∧ w5.cell? ⟨w.heap.size, 1, none⟩ = some (.int .i64 h) ∧ w5.cell? ⟨w3.heap.size, 0, none⟩ = some (.int .i64 n) ∧ w5.cell? ⟨w3.heap.size, 1, none⟩ = some (.int .i64 h) ∧ w5.cell? ⟨w3.heap.size, 2, none⟩ = some (.int .i64 l) ∧ w5.cell? ⟨w3.heap.size, 3, none⟩ = some (.slice (some ⟨g2, 0, none⟩) n n)) := Lib.hid ⟨Up.refl _, vx0, vx1, d0, d1, vy0, vy1, d2, d3, va0, va1, va2, va3, rr0, rr1, vb0, vb1, vb2, vb3⟩
      clear vx0 vx1 d0 d1 vy0 vy1 d2 d3 va0 va1 va2 va3 rr0 rr1 vb0 vb1 vb2 vb3 rr2 rr3
      go_region_held3 (fun w' => Up w5 w' ∧ w'.cell? ⟨w2.heap.size + 1, 0, none⟩ = some (.int .i64 p0) ∧ w'.cell? ⟨w2.heap.size + 1, 1, none⟩ = some (.int .i64 p1) ∧ w'.cell? ⟨b, o, none⟩ = some (.int .i64 p0) ∧ w'.cell? ⟨b, o + 1, none⟩ = some (.int .i64 p1) ∧ w'.cell? ⟨w3.heap.size + 1, 0, none⟩ = some (.int .i64 s0) ∧ w'.cell? ⟨w3.heap.size + 1, 1, none⟩ = some (.int .i64 s1) ∧ w'.cell? ⟨b, o + l * 2, none⟩ = some (.int .i64 s0) ∧ w'.cell? ⟨b, o + l * 2 + 1, none⟩ = some (.int .i64 s1) ∧ w'.cell? ⟨w2.heap.size, 0, none⟩ = some (.int .i64 n) ∧ w'.cell? ⟨w2.heap.size, 1, none⟩ = some (.int .i64 p) ∧ w'.cell? ⟨w2.heap.size, 2, none⟩ = some (.int .i64 l) ∧ w'.cell? ⟨w2.heap.size, 3, none⟩ = some (.slice (some ⟨g, 0, none⟩) n n) ∧ w'.cell? ⟨w.heap.size, 0, none⟩ = some (.int .i64 n) ∧ w'.cell? ⟨w.heap.size, 1, none⟩ = some (.int .i64 h) ∧ w'.cell? ⟨w3.heap.size, 0, none⟩ = some (.int .i64 n) ∧ w'.cell? ⟨w3.heap.size, 1, none⟩ = some (.int .i64 h) ∧ w'.cell? ⟨w3.heap.size, 2, none⟩ = some (.int .i64 l) ∧ w'.cell? ⟨w3.heap.size, 3, none⟩ = some (.slice (some ⟨g2, 0, none⟩) n n))
        (first | (with_reducible exact SS.out) | (with_reducible exact keep18 (Lib.hid (Up.refl _).drew) SS.out) | (with_reducible exact keep18 (by assumption) (by assumption)))
        (first
          | (go_at_call 22; (with_reducible refine (K5.out _ _ _ (HTT2.out.up (And.left (by assumption)))).mono ?_); rintro e w6 ⟨g6, rfl, hg6, hb6, hu⟩; have HX6 := Lib.hid hu; have HB6 := Lib.hid hb6; clear hb6; clear hu)
          | (go_at_call 11; (with_reducible refine (K6.out _ _ _ (HBa5.out.up (And.left (by assumption))) HB6.out).mono ?_); rintro e w7 ⟨rfl, hu⟩; have HX7 := Lib.hid hu; clear hu)
          | (go_at_call 22; (with_reducible refine (K7.out _ _ _ (HK.out.up (And.left (by assumption)))).mono ?_); rintro e w8 ⟨g8, rfl, hg8, hb8, hu⟩; have HX8 := Lib.hid hu; have HB8 := Lib.hid hb8; clear hb8; clear hu)
          | (go_at_call 11; (with_reducible refine (K8.out _ _ _ (HBb5.out.up (And.left (by assumption))) HB8.out).mono ?_); rintro e w9 ⟨rfl, hu⟩; have HX9 := Lib.hid hu; clear hu)
          | (go_at_call 12; (with_reducible refine (KA.out _).mono ?_); rintro e w10 ⟨rfl, hu⟩; have HX10 := Lib.hid hu; clear hu))
      clear g1 g2' g3 g4 g5
      go_wp2_with fail
      go_ret
      exact ⟨rfl, HU5.out.trans (And.left ‹Up w5 _ ∧ _›)⟩

set_option maxRecDepth 100000 in
theorem ringPops_lifted (os : Os) (started : os.Started) (H : Type) (enc : TypeId × Value → H) :
    ReturnsInHanded {} Try.checked os 6 .any (Rows.ringPopsSpec.pre6 enc Try.prog Try.f6 Rows.ringPopsRow.domain false) (Rows.ringPopsSpec.post enc Try.prog Try.f6 false true false false) := by
  refine returnsInHanded_of_change (C := Try.checked) ringPops_own started (by kernel_rfl) Try.func6
    (ChangeSpec.witness6 (enc := enc) (C := Try.checked) false ⟨#[], #[.agg #[.int .i64 0, .int .i64 0, .int .i64 0, .slice none 0 0]], []⟩ 8 (by kernel_rfl) (by kernel_rfl) (by kernel_rfl) (by kernel_rfl)) ?_
  intro W base args ds gs before hval0 hW hcnd _
  have hval : ∀ (j : Nat) t v, Try.f6.params[j]? = some t → args[j]? = some v → Value.okWide Try.prog W .any base t v := hval0
  have hW' := hW
  obtain ⟨p, q, hA0, hV, rfl, hfz, hnd⟩ := hW'
  have hA : DataW.TrodAll enc Try.prog W 0 (fun _ => true) true Try.f6.params.toList args.toList ds p := hA0
  rw [Try.params6] at hA hval
  obtain ⟨v0, vs0, d0, ds0, p0, q0, hargs, rfl, rfl, h0, r0⟩ := trodAll_cons hA
  obtain ⟨rfl, rfl, rfl⟩ := trodAll_nil r0
  obtain rfl : args = #[v0] := by cases args; simp_all
  obtain ⟨rfl, rfl⟩ := trodVars_none hV
  have hlt := fun x hx => hW.lt x hx
  have k0 := h0
  obtain ⟨c0, e0, l0, n0, m0, A0, L0, rfl, hk0, hS0⟩ := open_ring (hval 0 24 v0 rfl rfl) h0
  refine (ringPops_walk c0 e0 l0 n0 m0 A0 L0 hk0 W hS0).mono fun e W' ⟨he, hg⟩ => ?_
  subst he
  exact ⟨_, rfl, post_of_same (pv := []) hW (fun _ _ _ => (trodAll_cons_mk (shut_bool Try.underlying4 _) trodAll_mk0)) (fun sp hsp => (trodAll_cons_mk (stay (by kernel_rfl) (of_decide_eq_true (by kernel_rfl)) k0 hg hlt (fun x hx => by first | (simp at hx; done) | simp [hx]) hsp) trodAll_mk0)) (fun _ _ => rfl) rfl
    (hg.grown.frame _) hg.grown.2.1 (ok_one (by kernel_rfl) rfl (okWide_bool_mk Try.underlying4 _))⟩

theorem ringPops_over : Rows.ringPopsRow.holds Try.pinned (OpenSpec.ofChange Rows.ringPopsSpec) :=
  OpenClaim.holds_of_wide 6 Try.f6 rfl rfl rfl rfl rfl rfl rfl ⟨rfl, rfl, rfl, rfl, rfl⟩ rfl rfl rfl rfl rfl (by kernel_rfl) Try.func6 (by kernel_rfl)
    (of_decide_eq_true (by kernel_rfl)) (by unfold Func.isWrapper; first | (rw [if_pos (by decide +kernel)]; kernel_rfl) | (rw [if_neg (by decide +kernel)]; exact ⟨rfl, rfl⟩))
    (fun os started H enc _ => ringPops_lifted os started H enc)

theorem ringPops_holds : Rows.RingPopsSaid :=
  ringPops_over
#print axioms ringPops_holds
end Go.Proofs.Ytjedcpfipebncaa
