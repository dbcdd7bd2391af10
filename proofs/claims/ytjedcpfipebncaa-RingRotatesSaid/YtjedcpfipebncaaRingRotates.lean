/- Proved: for every buffer r and every n the law RingRotates returns true: ring.Rotate moves n elements from the front to the back, or returns the error of the reference. Conditions: none. -/
import Derived.Test.YtjedcpfipebncaaRows
import Derived.WalkKit
import Derived.ProofKit
import Derived.OpenShut
import Derived.Lib.SmallJoins
import Derived.Test.YtjedcpfipebncaaGFrame
import Derived.Test.YtjedcpfipebncaaGAwake
import Derived.Test.YtjedcpfipebncaaGSame
import Derived.Test.YtjedcpfipebncaaGRItems
import Derived.Test.YtjedcpfipebncaaGRot
import Derived.Test.YtjedcpfipebncaaGOf
namespace Go.Proofs.Ytjedcpfipebncaa
open Go.ChangeShapes Go.WideShapes Go.ChangeAt Go.RowKit Go.Joins
set_option linter.unusedVariables false

theorem ringRotates_own : ownKnob Try.prog.godebug = none := by kernel_rfl

set_option maxHeartbeats 4000000 in
set_option maxRecDepth 100000 in
theorem ringRotates_walk (c h l : Int) (n k : Nat) (A : Option Addr) (L : List It) (hk : n ≤ k) (m : Int) (hm : (Lit.int .i64 m).wf = true) (w : World) (hS : Sl w A n L) :
    Calls Try.prog 7 #[.agg #[.int .i64 c, .int .i64 h, .int .i64 l, .slice A n k], .int .i64 m] w fun e w' => e = .returned (.bool true) ∧ Up w w' := by
  have KA := Lib.hid awake_up
  have HU0 := Lib.hid (Up.refl w)
  clear hm
  have KF := Lib.hid (fun W => few_any c h l n k A W)
  by_cases hf : (n : Int) ≤ 200
  case neg =>
    rw [decide_eq_false hf] at KF
    clear hf hS
    go_enter Try.func7, Try.ntmps7
    go_wp2_with (first
      | (go_at_call 14; (with_reducible refine (KF.out _).mono ?_); rintro e w1 ⟨rfl, hu⟩; have HU1 := Lib.hid (HU0.out.trans (((Up.refl _).alloc _ _).trans hu)); clear hu)
      | (go_at_call 12; (with_reducible refine (KA.out _).mono ?_); rintro e w2 ⟨rfl, hu⟩; have HU2 := Lib.hid (HU1.out.trans hu); clear hu))
    go_ret
    exact ⟨rfl, HU2.out⟩
  rw [decide_eq_true hf] at KF
  have hn2 : n ≤ 200 := by omega
  clear hf
  have KZ := Lib.hid (fun W => same_t 0 0 0 0 0 0 none none [] (by omega) W Sl.none_ Sl.none_)
  cases hv : vB c h l L with
  | false =>
    have K1 := Lib.hid (fun W (hu : Up w W) => rotate_bad c h l n k A L m hv W (hS.up hu))
    have K2 := Lib.hid (fun W (hu : Up w W) => rval_bad c h l n k A L hv W (hS.up hu))
    have K3 := Lib.hid (fun W (hu : Up w W) => ritems_bad c h l n k A L hv W (hS.up hu))
    clear hv hS hn2 hk
    go_enter Try.func7, Try.ntmps7
    go_wp2_with (first
      | (go_at_call 14; (with_reducible refine (KF.out _).mono ?_); rintro e w1 ⟨rfl, hu⟩; have HU1 := Lib.hid (HU0.out.trans (((Up.refl _).alloc _ _).trans hu)); have q1_0 := hu.keep (w.heap.size) 0 (.int .i64 c) (by simp [go_sem]); have q1_1 := hu.keep (w.heap.size) 1 (.int .i64 h) (by simp [go_sem]); have q1_2 := hu.keep (w.heap.size) 2 (.int .i64 l) (by simp [go_sem]); have q1_3 := hu.keep (w.heap.size) 3 (.slice A n k) (by simp [go_sem]); have l1_1 : w.heap.size < w1.heap.size := World.block_lt_of_cell? _ _ q1_0; clear hu)
      | (go_at_call 25; (with_reducible refine (K1.out _ HU1.out).mono ?_); rintro e w2 ⟨rfl, hu⟩; have HU2 := Lib.hid (HU1.out.trans hu); have q2_0 := hu.keep _ _ _ q1_0; have q2_1 := hu.keep _ _ _ q1_1; have q2_2 := hu.keep _ _ _ q1_2; have q2_3 := hu.keep _ _ _ q1_3; have l2_1 : w.heap.size < w2.heap.size := World.block_lt_of_cell? _ _ q2_0; clear hu q1_0 q1_1 q1_2 q1_3))
    obtain ⟨ws, hws⟩ : ∃ z, z = w2.alloc (.cells #[.int .i64 0, .int .i64 0, .int .i64 0, .slice none 0 0] 24) := ⟨_, rfl⟩
    rw [← hws]
    have HA_ws : Hid (Up w2 ws) := Lib.hid (by rw [hws]; exact ((Up.refl _).alloc _ _))
    have HU_ws := Lib.hid (HU2.out.trans HA_ws.out)
    have rws_0 := HA_ws.out.keep _ _ _ q2_0
    have rws_1 := HA_ws.out.keep _ _ _ q2_1
    have rws_2 := HA_ws.out.keep _ _ _ q2_2
    have rws_3 := HA_ws.out.keep _ _ _ q2_3
    have rws_4 : ws.cell? ⟨w2.heap.size, 0, none⟩ = some (.int .i64 0) := by rw [hws]; simp [go_sem]
    have rws_5 : ws.cell? ⟨w2.heap.size, 1, none⟩ = some (.int .i64 0) := by rw [hws]; simp [go_sem]
    have rws_6 : ws.cell? ⟨w2.heap.size, 2, none⟩ = some (.int .i64 0) := by rw [hws]; simp [go_sem]
    have rws_7 : ws.cell? ⟨w2.heap.size, 3, none⟩ = some (.slice none 0 0) := by rw [hws]; simp [go_sem]
    clear hws q2_0 q2_1 q2_2 q2_3
    have SS_ws : Hid (Up ws ws ∧ ws.cell? ⟨w.heap.size, 0, none⟩ = some (.int .i64 c) ∧ ws.cell? ⟨w.heap.size, 1, none⟩ = some (.int .i64 h) ∧ ws.cell? ⟨w.heap.size, 2, none⟩ = some (.int .i64 l) ∧ ws.cell? ⟨w.heap.size, 3, none⟩ = some (.slice A n k)) := Lib.hid ⟨Up.refl _, rws_0, rws_1, rws_2, rws_3⟩
    go_region_held3 (fun w' => Up ws w' ∧ w'.cell? ⟨w.heap.size, 0, none⟩ = some (.int .i64 c) ∧ w'.cell? ⟨w.heap.size, 1, none⟩ = some (.int .i64 h) ∧ w'.cell? ⟨w.heap.size, 2, none⟩ = some (.int .i64 l) ∧ w'.cell? ⟨w.heap.size, 3, none⟩ = some (.slice A n k))
      (first | (with_reducible exact SS_ws.out) | (with_reducible exact keep4 (Lib.hid (Up.refl _).drew) SS_ws.out) | (with_reducible exact keep4 (by assumption) (by assumption)))
      (first
        | (go_at_call 15; (with_reducible refine (K2.out _ (HU_ws.out.trans (And.left (by assumption)))).mono ?_); rintro e w3 ⟨rfl, hu⟩; have HX3 := Lib.hid hu; clear hu)
        | (go_at_call 16; (with_reducible refine (K3.out _ (HU_ws.out.trans (And.left (by assumption)))).mono ?_); rintro e w4 ⟨rfl, hu⟩; have HX4 := Lib.hid hu; clear hu))
    have HUV := Lib.hid (And.left ‹Up ws w4 ∧ _›)
    clear ‹Up ws w4 ∧ _›
    have HU4 := Lib.hid (HU_ws.out.trans HUV.out)
    have v0 := HUV.out.keep _ _ _ rws_4
    have v1 := HUV.out.keep _ _ _ rws_5
    have v2 := HUV.out.keep _ _ _ rws_6
    have v3 := HUV.out.keep _ _ _ rws_7
    have rr0 := HUV.out.keep _ _ _ rws_0
    have rr1 := HUV.out.keep _ _ _ rws_1
    have rr2 := HUV.out.keep _ _ _ rws_2
    have rr3 := HUV.out.keep _ _ _ rws_3
    clear rws_0 rws_1 rws_2 rws_3 rws_4 rws_5 rws_6 rws_7
    go_wp2_with (first
      | (go_at_call 11; (with_reducible refine (KZ.out _).mono ?_); rintro e w5 ⟨rfl, hu⟩; have HU5 := Lib.hid (HU4.out.trans hu); clear hu)
      | (go_at_call 12; (with_reducible refine (KA.out _).mono ?_); rintro e w6 ⟨rfl, hu⟩; have HU6 := Lib.hid (HU5.out.trans hu); clear hu))
    go_ret
    exact ⟨rfl, HU6.out⟩
  | true =>
    obtain ⟨c, h, M, rfl, rfl, rfl, rfl, hc, hc', hh, hM⟩ := vB_true hv
    obtain rfl : n = c := by rw [← hS.1, ofL_length]
    clear hv
    have K2 := Lib.hid (fun W (hu : Up w W) => rval_good n h k A M hc hc' hh hM W (hS.up hu))
    have K3 := Lib.hid (fun W (hu : Up w W) => ritems_good n h k A M hc hc' hh hM W (hS.up hu))
    by_cases h1 : m < 0
    · have K1 := Lib.hid (fun W (hu : Up w W) => rotate_neg n h k A M m hc hc' hh hM h1 W (hS.up hu))
      have t1 : decide (m < 0) = true := decide_eq_true h1
      clear hS h1
      generalize M.length = l at *
      go_enter Try.func7, Try.ntmps7
      go_wp2_with (first
        | (go_at_call 14; (with_reducible refine (KF.out _).mono ?_); rintro e w1 ⟨rfl, hu⟩; have HU1 := Lib.hid (HU0.out.trans (((Up.refl _).alloc _ _).trans hu)); have q1_0 := hu.keep (w.heap.size) 0 (.int .i64 n) (by simp [go_sem]); have q1_1 := hu.keep (w.heap.size) 1 (.int .i64 h) (by simp [go_sem]); have q1_2 := hu.keep (w.heap.size) 2 (.int .i64 l) (by simp [go_sem]); have q1_3 := hu.keep (w.heap.size) 3 (.slice A n k) (by simp [go_sem]); have l1_1 : w.heap.size < w1.heap.size := World.block_lt_of_cell? _ _ q1_0; clear hu)
        | (go_at_call 25; (with_reducible refine (K1.out _ HU1.out).mono ?_); rintro e w2 ⟨rfl, hu⟩; have HU2 := Lib.hid (HU1.out.trans hu); have q2_0 := hu.keep _ _ _ q1_0; have q2_1 := hu.keep _ _ _ q1_1; have q2_2 := hu.keep _ _ _ q1_2; have q2_3 := hu.keep _ _ _ q1_3; have l2_1 : w.heap.size < w2.heap.size := World.block_lt_of_cell? _ _ q2_0; clear hu q1_0 q1_1 q1_2 q1_3))
      obtain ⟨ws, hws⟩ : ∃ z, z = w2.alloc (.cells #[.int .i64 0, .int .i64 0, .int .i64 0, .slice none 0 0] 24) := ⟨_, rfl⟩
      rw [← hws]
      have HA_ws : Hid (Up w2 ws) := Lib.hid (by rw [hws]; exact ((Up.refl _).alloc _ _))
      have HU_ws := Lib.hid (HU2.out.trans HA_ws.out)
      have rws_0 := HA_ws.out.keep _ _ _ q2_0
      have rws_1 := HA_ws.out.keep _ _ _ q2_1
      have rws_2 := HA_ws.out.keep _ _ _ q2_2
      have rws_3 := HA_ws.out.keep _ _ _ q2_3
      have rws_4 : ws.cell? ⟨w2.heap.size, 0, none⟩ = some (.int .i64 0) := by rw [hws]; simp [go_sem]
      have rws_5 : ws.cell? ⟨w2.heap.size, 1, none⟩ = some (.int .i64 0) := by rw [hws]; simp [go_sem]
      have rws_6 : ws.cell? ⟨w2.heap.size, 2, none⟩ = some (.int .i64 0) := by rw [hws]; simp [go_sem]
      have rws_7 : ws.cell? ⟨w2.heap.size, 3, none⟩ = some (.slice none 0 0) := by rw [hws]; simp [go_sem]
      clear hws q2_0 q2_1 q2_2 q2_3
      have SS_ws : Hid (Up ws ws ∧ ws.cell? ⟨w.heap.size, 0, none⟩ = some (.int .i64 n) ∧ ws.cell? ⟨w.heap.size, 1, none⟩ = some (.int .i64 h) ∧ ws.cell? ⟨w.heap.size, 2, none⟩ = some (.int .i64 l) ∧ ws.cell? ⟨w.heap.size, 3, none⟩ = some (.slice A n k)) := Lib.hid ⟨Up.refl _, rws_0, rws_1, rws_2, rws_3⟩
      go_region_held3 (fun w' => Up ws w' ∧ w'.cell? ⟨w.heap.size, 0, none⟩ = some (.int .i64 n) ∧ w'.cell? ⟨w.heap.size, 1, none⟩ = some (.int .i64 h) ∧ w'.cell? ⟨w.heap.size, 2, none⟩ = some (.int .i64 l) ∧ w'.cell? ⟨w.heap.size, 3, none⟩ = some (.slice A n k))
        (first | (with_reducible exact SS_ws.out) | (with_reducible exact keep4 (Lib.hid (Up.refl _).drew) SS_ws.out) | (with_reducible exact keep4 (by assumption) (by assumption)))
        (first
          | (go_at_call 15; (with_reducible refine (K2.out _ (HU_ws.out.trans (And.left (by assumption)))).mono ?_); rintro e w3 ⟨rfl, hu⟩; have HX3 := Lib.hid hu; clear hu)
          | (go_at_call 16; (with_reducible refine (K3.out _ (HU_ws.out.trans (And.left (by assumption)))).mono ?_); rintro e w4 ⟨A', k', rfl, hk', hS', hu⟩; have HX4 := Lib.hid hu; have HS4 := Lib.hid hS'; clear hS'; clear hu))
      have HUV := Lib.hid (And.left ‹Up ws w4 ∧ _›)
      clear ‹Up ws w4 ∧ _›
      have HU4 := Lib.hid (HU_ws.out.trans HUV.out)
      have v0 := HUV.out.keep _ _ _ rws_4
      have v1 := HUV.out.keep _ _ _ rws_5
      have v2 := HUV.out.keep _ _ _ rws_6
      have v3 := HUV.out.keep _ _ _ rws_7
      have rr0 := HUV.out.keep _ _ _ rws_0
      have rr1 := HUV.out.keep _ _ _ rws_1
      have rr2 := HUV.out.keep _ _ _ rws_2
      have rr3 := HUV.out.keep _ _ _ rws_3
      clear rws_0 rws_1 rws_2 rws_3 rws_4 rws_5 rws_6 rws_7
      go_wp2_with (first
        | (go_at_call 11; (with_reducible refine (KZ.out _).mono ?_); rintro e w5 ⟨rfl, hu⟩; have HU5 := Lib.hid (HU4.out.trans hu); clear hu)
        | (go_at_call 12; (with_reducible refine (KA.out _).mono ?_); rintro e w6 ⟨rfl, hu⟩; have HU6 := Lib.hid (HU5.out.trans hu); clear hu))
      go_ret
      exact ⟨rfl, HU6.out⟩
    by_cases h2 : 65536 < m
    · have K1 := Lib.hid (fun W (hu : Up w W) => rotate_big n h k A M m hc hc' hh hM h2 W (hS.up hu))
      have t1 : decide (m < 0) = false := decide_eq_false h1
      have t2 : decide (65536 < m) = true := decide_eq_true h2
      clear hS h1 h2
      generalize M.length = l at *
      go_enter Try.func7, Try.ntmps7
      go_wp2_with (first
        | (go_at_call 14; (with_reducible refine (KF.out _).mono ?_); rintro e w1 ⟨rfl, hu⟩; have HU1 := Lib.hid (HU0.out.trans (((Up.refl _).alloc _ _).trans hu)); have q1_0 := hu.keep (w.heap.size) 0 (.int .i64 n) (by simp [go_sem]); have q1_1 := hu.keep (w.heap.size) 1 (.int .i64 h) (by simp [go_sem]); have q1_2 := hu.keep (w.heap.size) 2 (.int .i64 l) (by simp [go_sem]); have q1_3 := hu.keep (w.heap.size) 3 (.slice A n k) (by simp [go_sem]); have l1_1 : w.heap.size < w1.heap.size := World.block_lt_of_cell? _ _ q1_0; clear hu)
        | (go_at_call 25; (with_reducible refine (K1.out _ HU1.out).mono ?_); rintro e w2 ⟨rfl, hu⟩; have HU2 := Lib.hid (HU1.out.trans hu); have q2_0 := hu.keep _ _ _ q1_0; have q2_1 := hu.keep _ _ _ q1_1; have q2_2 := hu.keep _ _ _ q1_2; have q2_3 := hu.keep _ _ _ q1_3; have l2_1 : w.heap.size < w2.heap.size := World.block_lt_of_cell? _ _ q2_0; clear hu q1_0 q1_1 q1_2 q1_3))
      obtain ⟨ws, hws⟩ : ∃ z, z = w2.alloc (.cells #[.int .i64 0, .int .i64 0, .int .i64 0, .slice none 0 0] 24) := ⟨_, rfl⟩
      rw [← hws]
      have HA_ws : Hid (Up w2 ws) := Lib.hid (by rw [hws]; exact ((Up.refl _).alloc _ _))
      have HU_ws := Lib.hid (HU2.out.trans HA_ws.out)
      have rws_0 := HA_ws.out.keep _ _ _ q2_0
      have rws_1 := HA_ws.out.keep _ _ _ q2_1
      have rws_2 := HA_ws.out.keep _ _ _ q2_2
      have rws_3 := HA_ws.out.keep _ _ _ q2_3
      have rws_4 : ws.cell? ⟨w2.heap.size, 0, none⟩ = some (.int .i64 0) := by rw [hws]; simp [go_sem]
      have rws_5 : ws.cell? ⟨w2.heap.size, 1, none⟩ = some (.int .i64 0) := by rw [hws]; simp [go_sem]
      have rws_6 : ws.cell? ⟨w2.heap.size, 2, none⟩ = some (.int .i64 0) := by rw [hws]; simp [go_sem]
      have rws_7 : ws.cell? ⟨w2.heap.size, 3, none⟩ = some (.slice none 0 0) := by rw [hws]; simp [go_sem]
      clear hws q2_0 q2_1 q2_2 q2_3
      have SS_ws : Hid (Up ws ws ∧ ws.cell? ⟨w.heap.size, 0, none⟩ = some (.int .i64 n) ∧ ws.cell? ⟨w.heap.size, 1, none⟩ = some (.int .i64 h) ∧ ws.cell? ⟨w.heap.size, 2, none⟩ = some (.int .i64 l) ∧ ws.cell? ⟨w.heap.size, 3, none⟩ = some (.slice A n k)) := Lib.hid ⟨Up.refl _, rws_0, rws_1, rws_2, rws_3⟩
      go_region_held3 (fun w' => Up ws w' ∧ w'.cell? ⟨w.heap.size, 0, none⟩ = some (.int .i64 n) ∧ w'.cell? ⟨w.heap.size, 1, none⟩ = some (.int .i64 h) ∧ w'.cell? ⟨w.heap.size, 2, none⟩ = some (.int .i64 l) ∧ w'.cell? ⟨w.heap.size, 3, none⟩ = some (.slice A n k))
        (first | (with_reducible exact SS_ws.out) | (with_reducible exact keep4 (Lib.hid (Up.refl _).drew) SS_ws.out) | (with_reducible exact keep4 (by assumption) (by assumption)))
        (first
          | (go_at_call 15; (with_reducible refine (K2.out _ (HU_ws.out.trans (And.left (by assumption)))).mono ?_); rintro e w3 ⟨rfl, hu⟩; have HX3 := Lib.hid hu; clear hu)
          | (go_at_call 16; (with_reducible refine (K3.out _ (HU_ws.out.trans (And.left (by assumption)))).mono ?_); rintro e w4 ⟨A', k', rfl, hk', hS', hu⟩; have HX4 := Lib.hid hu; have HS4 := Lib.hid hS'; clear hS'; clear hu))
      have HUV := Lib.hid (And.left ‹Up ws w4 ∧ _›)
      clear ‹Up ws w4 ∧ _›
      have HU4 := Lib.hid (HU_ws.out.trans HUV.out)
      have v0 := HUV.out.keep _ _ _ rws_4
      have v1 := HUV.out.keep _ _ _ rws_5
      have v2 := HUV.out.keep _ _ _ rws_6
      have v3 := HUV.out.keep _ _ _ rws_7
      have rr0 := HUV.out.keep _ _ _ rws_0
      have rr1 := HUV.out.keep _ _ _ rws_1
      have rr2 := HUV.out.keep _ _ _ rws_2
      have rr3 := HUV.out.keep _ _ _ rws_3
      clear rws_0 rws_1 rws_2 rws_3 rws_4 rws_5 rws_6 rws_7
      go_wp2_with (first
        | (go_at_call 11; (with_reducible refine (KZ.out _).mono ?_); rintro e w5 ⟨rfl, hu⟩; have HU5 := Lib.hid (HU4.out.trans hu); clear hu)
        | (go_at_call 12; (with_reducible refine (KA.out _).mono ?_); rintro e w6 ⟨rfl, hu⟩; have HU6 := Lib.hid (HU5.out.trans hu); clear hu))
      go_ret
      exact ⟨rfl, HU6.out⟩
    obtain ⟨m', rfl⟩ := Int.eq_ofNat_of_zero_le (show 0 ≤ m by omega)
    have t1 : decide ((m' : Int) < 0) = false := decide_eq_false h1
    have t2 : decide (65536 < (m' : Int)) = false := decide_eq_false h2
    by_cases h3 : M.length = 0
    · have K1 := Lib.hid (fun W (hu : Up w W) => rotate_empty n h k m' A M hc hc' hh hM (by omega) h3 W (hS.up hu))
      have K6 := Lib.hid (fun W g (hu : Up w W) (hA : Bi W g (ofL n h M)) => same_t n h M.length n n k (some ⟨g, 0, none⟩) A (ofL n h M) (by omega) W (hA.sl (ofL_length _ _ _)) (hS.up hu))
      clear hS h1 h2
      generalize M.length = l at *
      have t3 : ((l : Int) == 0) = true := by simp; omega
      have t4 : (l == 0) = true := by simp; omega
      clear h3
      go_enter Try.func7, Try.ntmps7
      go_wp2_with (first
        | (go_at_call 14; (with_reducible refine (KF.out _).mono ?_); rintro e w1 ⟨rfl, hu⟩; have HU1 := Lib.hid (HU0.out.trans (((Up.refl _).alloc _ _).trans hu)); have q1_0 := hu.keep (w.heap.size) 0 (.int .i64 n) (by simp [go_sem]); have q1_1 := hu.keep (w.heap.size) 1 (.int .i64 h) (by simp [go_sem]); have q1_2 := hu.keep (w.heap.size) 2 (.int .i64 l) (by simp [go_sem]); have q1_3 := hu.keep (w.heap.size) 3 (.slice A n k) (by simp [go_sem]); have l1_1 : w.heap.size < w1.heap.size := World.block_lt_of_cell? _ _ q1_0; clear hu)
        | (go_at_call 25; (with_reducible refine (K1.out _ HU1.out).mono ?_); rintro e w2 ⟨g, rfl, hg, hb, hu⟩; have HU2 := Lib.hid (HU1.out.trans hu); have q2_0 := hu.keep _ _ _ q1_0; have q2_1 := hu.keep _ _ _ q1_1; have q2_2 := hu.keep _ _ _ q1_2; have q2_3 := hu.keep _ _ _ q1_3; have l2_1 : w.heap.size < w2.heap.size := World.block_lt_of_cell? _ _ q2_0; have HB2 := Lib.hid hb; clear hb; clear hu q1_0 q1_1 q1_2 q1_3))
      obtain ⟨ws, hws⟩ : ∃ z, z = w2.alloc (.cells #[.int .i64 n, .int .i64 h, .int .i64 l, .slice (some ⟨g, 0, none⟩) n n] 24) := ⟨_, rfl⟩
      rw [← hws]
      have HA_ws : Hid (Up w2 ws) := Lib.hid (by rw [hws]; exact ((Up.refl _).alloc _ _))
      have HU_ws := Lib.hid (HU2.out.trans HA_ws.out)
      have rws_0 := HA_ws.out.keep _ _ _ q2_0
      have rws_1 := HA_ws.out.keep _ _ _ q2_1
      have rws_2 := HA_ws.out.keep _ _ _ q2_2
      have rws_3 := HA_ws.out.keep _ _ _ q2_3
      have rws_4 : ws.cell? ⟨w2.heap.size, 0, none⟩ = some (.int .i64 n) := by rw [hws]; simp [go_sem]
      have rws_5 : ws.cell? ⟨w2.heap.size, 1, none⟩ = some (.int .i64 h) := by rw [hws]; simp [go_sem]
      have rws_6 : ws.cell? ⟨w2.heap.size, 2, none⟩ = some (.int .i64 l) := by rw [hws]; simp [go_sem]
      have rws_7 : ws.cell? ⟨w2.heap.size, 3, none⟩ = some (.slice (some ⟨g, 0, none⟩) n n) := by rw [hws]; simp [go_sem]
      clear hws q2_0 q2_1 q2_2 q2_3
      have SS_ws : Hid (Up ws ws ∧ ws.cell? ⟨w.heap.size, 0, none⟩ = some (.int .i64 n) ∧ ws.cell? ⟨w.heap.size, 1, none⟩ = some (.int .i64 h) ∧ ws.cell? ⟨w.heap.size, 2, none⟩ = some (.int .i64 l) ∧ ws.cell? ⟨w.heap.size, 3, none⟩ = some (.slice A n k)) := Lib.hid ⟨Up.refl _, rws_0, rws_1, rws_2, rws_3⟩
      go_region_held3 (fun w' => Up ws w' ∧ w'.cell? ⟨w.heap.size, 0, none⟩ = some (.int .i64 n) ∧ w'.cell? ⟨w.heap.size, 1, none⟩ = some (.int .i64 h) ∧ w'.cell? ⟨w.heap.size, 2, none⟩ = some (.int .i64 l) ∧ w'.cell? ⟨w.heap.size, 3, none⟩ = some (.slice A n k))
        (first | (with_reducible exact SS_ws.out) | (with_reducible exact keep4 (Lib.hid (Up.refl _).drew) SS_ws.out) | (with_reducible exact keep4 (by assumption) (by assumption)))
        (first
          | (go_at_call 15; (with_reducible refine (K2.out _ (HU_ws.out.trans (And.left (by assumption)))).mono ?_); rintro e w3 ⟨rfl, hu⟩; have HX3 := Lib.hid hu; clear hu)
          | (go_at_call 16; (with_reducible refine (K3.out _ (HU_ws.out.trans (And.left (by assumption)))).mono ?_); rintro e w4 ⟨A', k', rfl, hk', hS', hu⟩; have HX4 := Lib.hid hu; have HS4 := Lib.hid hS'; clear hS'; clear hu))
      have HUV := Lib.hid (And.left ‹Up ws w4 ∧ _›)
      clear ‹Up ws w4 ∧ _›
      have HU4 := Lib.hid (HU_ws.out.trans HUV.out)
      have v0 := HUV.out.keep _ _ _ rws_4
      have v1 := HUV.out.keep _ _ _ rws_5
      have v2 := HUV.out.keep _ _ _ rws_6
      have v3 := HUV.out.keep _ _ _ rws_7
      have rr0 := HUV.out.keep _ _ _ rws_0
      have rr1 := HUV.out.keep _ _ _ rws_1
      have rr2 := HUV.out.keep _ _ _ rws_2
      have rr3 := HUV.out.keep _ _ _ rws_3
      clear rws_0 rws_1 rws_2 rws_3 rws_4 rws_5 rws_6 rws_7
      have HB4 := Lib.hid ((HB2.out.up HA_ws.out).up HUV.out)
      go_wp2_with (first
        | (go_at_call 11; (with_reducible refine (K6.out _ _ HU4.out HB4.out).mono ?_); rintro e w5 ⟨rfl, hu⟩; have HU5 := Lib.hid (HU4.out.trans hu); clear hu)
        | (go_at_call 12; (with_reducible refine (KA.out _).mono ?_); rintro e w6 ⟨rfl, hu⟩; have HU6 := Lib.hid (HU5.out.trans hu); clear hu))
      go_ret
      exact ⟨rfl, HU6.out⟩
    have K1 := Lib.hid (fun W (hu : Up w W) => rotate_good n h k m' A M hc hc' hh hM (by omega) (by omega) W (hS.up hu))
    have hj : m' % M.length < M.length := Nat.mod_lt _ (by omega)
    have hhm : (h + m') % n < n := Nat.mod_lt _ (by omega)
    have K5 := Lib.hid (fun W A' k' (hA : Sl W A' M.length (rotL M m')) => of_any n ((h + m') % n) k' A' (rotL M m') (by omega) (by omega) hhm (by rw [rotL_length]; omega) W (by rw [rotL_length]; exact hA))
    rw [rotL_length] at K5
    have hm1 : n ≤ 1000000 := by omega
    have K6 := Lib.hid (fun W g g' (hA : Bi W g (ofL n ((h + m') % n) (rotL M m'))) (hB : Bi W g' (ofL n ((h + m') % n) (rotL M m'))) => same_t n (((h + m') % n : Nat) : Int) M.length n n n (some ⟨g, 0, none⟩) (some ⟨g', 0, none⟩) (ofL n ((h + m') % n) (rotL M m')) hm1 W (hA.sl (ofL_length _ _ _)) (hB.sl (ofL_length _ _ _)))
    have KR : Hid (rotL M m' = M.drop (m' % M.length) ++ M.take (m' % M.length)) := Lib.hid rfl
    have e1 : (m' : Int).tmod M.length = ((m' % M.length : Nat) : Int) := rfl
    have hm2 : m' ≤ 65536 := by omega
    clear hS h1 h2
    generalize hjj : m' % M.length = j at *
    have HJ := Lib.hid hjj
    clear hjj
    generalize M.length = l at *
    generalize hmm : (h + m') % n = p at *
    have HP := Lib.hid hmm
    clear hmm
    have t3 : ((l : Int) == 0) = false := by simp; omega
    have t4 : (l == 0) = false := by simp; omega
    have z1 : ¬ l = 0 := by omega
    go_enter Try.func7, Try.ntmps7
    go_wp2_with (first
      | (go_at_call 14; (with_reducible refine (KF.out _).mono ?_); rintro e w1 ⟨rfl, hu⟩; have HU1 := Lib.hid (HU0.out.trans (((Up.refl _).alloc _ _).trans hu)); have q1_0 := hu.keep (w.heap.size) 0 (.int .i64 n) (by simp [go_sem]); have q1_1 := hu.keep (w.heap.size) 1 (.int .i64 h) (by simp [go_sem]); have q1_2 := hu.keep (w.heap.size) 2 (.int .i64 l) (by simp [go_sem]); have q1_3 := hu.keep (w.heap.size) 3 (.slice A n k) (by simp [go_sem]); have l1_1 : w.heap.size < w1.heap.size := World.block_lt_of_cell? _ _ q1_0; clear hu)
      | (go_at_call 25; (with_reducible refine (K1.out _ HU1.out).mono ?_); rintro e w2 ⟨g, rfl, hg, hb, hu⟩; have HU2 := Lib.hid (HU1.out.trans hu); have q2_0 := hu.keep _ _ _ q1_0; have q2_1 := hu.keep _ _ _ q1_1; have q2_2 := hu.keep _ _ _ q1_2; have q2_3 := hu.keep _ _ _ q1_3; have l2_1 : w.heap.size < w2.heap.size := World.block_lt_of_cell? _ _ q2_0; have HB2 := Lib.hid hb; clear hb; clear hu q1_0 q1_1 q1_2 q1_3))
    obtain ⟨ws, hws⟩ : ∃ z, z = w2.alloc (.cells #[.int .i64 n, .int .i64 p, .int .i64 l, .slice (some ⟨g, 0, none⟩) n n] 24) := ⟨_, rfl⟩
    rw [← hws]
    have HA_ws : Hid (Up w2 ws) := Lib.hid (by rw [hws]; exact ((Up.refl _).alloc _ _))
    have HU_ws := Lib.hid (HU2.out.trans HA_ws.out)
    have rws_0 := HA_ws.out.keep _ _ _ q2_0
    have rws_1 := HA_ws.out.keep _ _ _ q2_1
    have rws_2 := HA_ws.out.keep _ _ _ q2_2
    have rws_3 := HA_ws.out.keep _ _ _ q2_3
    have rws_4 : ws.cell? ⟨w2.heap.size, 0, none⟩ = some (.int .i64 n) := by rw [hws]; simp [go_sem]
    have rws_5 : ws.cell? ⟨w2.heap.size, 1, none⟩ = some (.int .i64 p) := by rw [hws]; simp [go_sem]
    have rws_6 : ws.cell? ⟨w2.heap.size, 2, none⟩ = some (.int .i64 l) := by rw [hws]; simp [go_sem]
    have rws_7 : ws.cell? ⟨w2.heap.size, 3, none⟩ = some (.slice (some ⟨g, 0, none⟩) n n) := by rw [hws]; simp [go_sem]
    clear hws q2_0 q2_1 q2_2 q2_3
    have SS_ws : Hid (Up ws ws ∧ ws.cell? ⟨w.heap.size, 0, none⟩ = some (.int .i64 n) ∧ ws.cell? ⟨w.heap.size, 1, none⟩ = some (.int .i64 h) ∧ ws.cell? ⟨w.heap.size, 2, none⟩ = some (.int .i64 l) ∧ ws.cell? ⟨w.heap.size, 3, none⟩ = some (.slice A n k)) := Lib.hid ⟨Up.refl _, rws_0, rws_1, rws_2, rws_3⟩
    go_region_held3 (fun w' => Up ws w' ∧ w'.cell? ⟨w.heap.size, 0, none⟩ = some (.int .i64 n) ∧ w'.cell? ⟨w.heap.size, 1, none⟩ = some (.int .i64 h) ∧ w'.cell? ⟨w.heap.size, 2, none⟩ = some (.int .i64 l) ∧ w'.cell? ⟨w.heap.size, 3, none⟩ = some (.slice A n k))
      (first | (with_reducible exact SS_ws.out) | (with_reducible exact keep4 (Lib.hid (Up.refl _).drew) SS_ws.out) | (with_reducible exact keep4 (by assumption) (by assumption)))
      (first
        | (go_at_call 15; (with_reducible refine (K2.out _ (HU_ws.out.trans (And.left (by assumption)))).mono ?_); rintro e w3 ⟨rfl, hu⟩; have HX3 := Lib.hid hu; clear hu)
        | (go_at_call 16; (with_reducible refine (K3.out _ (HU_ws.out.trans (And.left (by assumption)))).mono ?_); rintro e w4 ⟨A', k', rfl, hk', hS', hu⟩; have HX4 := Lib.hid hu; have HS4 := Lib.hid hS'; clear hS'; clear hu))
    have HUV := Lib.hid (And.left ‹Up ws w4 ∧ _›)
    clear ‹Up ws w4 ∧ _›
    have HU4 := Lib.hid (HU_ws.out.trans HUV.out)
    have v0 := HUV.out.keep _ _ _ rws_4
    have v1 := HUV.out.keep _ _ _ rws_5
    have v2 := HUV.out.keep _ _ _ rws_6
    have v3 := HUV.out.keep _ _ _ rws_7
    have rr0 := HUV.out.keep _ _ _ rws_0
    have rr1 := HUV.out.keep _ _ _ rws_1
    have rr2 := HUV.out.keep _ _ _ rws_2
    have rr3 := HUV.out.keep _ _ _ rws_3
    clear rws_0 rws_1 rws_2 rws_3 rws_4 rws_5 rws_6 rws_7
    have HB4 := Lib.hid ((HB2.out.up HA_ws.out).up HUV.out)
    obtain ⟨b, o, rfl, _, _⟩ := HS4.out.at_ (show 0 < l by omega)
    have z2 : ¬ k' = j := by omega
    have z3 : ¬ k' = 0 := by omega
    have z4 : (0 : Int) ≤ j := by omega
    have z5 : (j : Int) ≤ l := by omega
    have z6 : (j : Int) ≤ k' := by omega
    have HC1 : Hid (Sl w4 (some ⟨b, o + j * 2, none⟩) (l - j) (M.drop j)) := Lib.hid (by have := HS4.out.cut (k := j) (cap := k') (by omega) hk'; rw [if_neg z2] at this; simpa [add_at] using this)
    have HC2 : Hid (Sl w4 (some ⟨b, o, none⟩) j (M.take j)) := Lib.hid (HS4.out.first (by omega))
    obtain ⟨x1, w5, hr1, hO1, hU1⟩ := append_run 22 w4 (w4.alloc (.cells #[] 35)).drew (.slice (some ⟨w4.heap.size, 0, none⟩) 0 0) 0 [] (own_empty (Nat.le_refl _)) ((Up.refl _).alloc _ _).drew (some ⟨b, o + j * 2, none⟩) (l - j) (k' - j) (M.drop j) (HC1.out.up ((Up.refl _).alloc _ _).drew) (by omega)
    obtain ⟨x2, w6, hr2, hO2, hU2⟩ := append_run 22 w4 w5 x1 (0 + (l - j)) ([] ++ M.drop j) hO1 hU1 (some ⟨b, o, none⟩) j k' (M.take j) (HC2.out.up hU1) (by omega)
    rw [List.nil_append, ← KR.out, show 0 + (l - j) + j = l by omega] at hO2
    obtain ⟨A3, k3, rfl, hk3, hs3⟩ := hO2.sl
    have HS6 := Lib.hid hs3
    have HU6 := Lib.hid hU2
    have HR1 := Lib.hid hr1
    have HR2 := Lib.hid hr2
    clear hr1 hr2 hO1 hO2 hU1 hU2 hs3
    have V0 := HU6.out.keep _ _ _ v0
    have V1 := HU6.out.keep _ _ _ v1
    have V2 := HU6.out.keep _ _ _ v2
    have V3 := HU6.out.keep _ _ _ v3
    have R0 := HU6.out.keep _ _ _ rr0
    have R1 := HU6.out.keep _ _ _ rr1
    have HB6 := Lib.hid (HB4.out.up HU6.out)
    clear v0 v1 v2 v3 rr0 rr1 rr2 rr3
    go_wp2_with fail
    go_region_law (first
      | (refine step_append_run rfl (.tmp 65) (.tmp 68) _ rfl _ _ rfl rfl _ _ HR1.out ?_)
      | (refine step_append_run rfl (.tmp 69) (.tmp 72) _ rfl _ _ rfl rfl _ _ HR2.out ?_))
    all_goals
      have d1 : IntKind.i64.wrap ((h : Int) + m') = (h : Int) + m' := IntWalk.i64_in _ (by omega)
      have d2 : ((h : Int) + m').tmod n = (p : Int) := by rw [Int.tmod_eq_emod_of_nonneg (by clear d1; omega), ← HP.out]; rfl
      have d3 : IntKind.i64.wrap (p : Int) = p := IntWalk.i64_in _ (by clear d1 d2; omega)
      have d4 : ¬ n = 0 := by clear d1 d2; omega
      go_wp2_with fail
      simp only [List.getElem_toArray, List.getElem_cons_succ, List.getElem_cons_zero, Act.put, List.setIfInBounds_toArray, List.set_cons_zero, List.set_cons_succ]
      have SS_w6 : Hid (Up w6 w6 ∧ w6.cell? ⟨w2.heap.size, 0, none⟩ = some (.int .i64 n) ∧ w6.cell? ⟨w2.heap.size, 1, none⟩ = some (.int .i64 p) ∧ w6.cell? ⟨w2.heap.size, 2, none⟩ = some (.int .i64 l) ∧ w6.cell? ⟨w2.heap.size, 3, none⟩ = some (.slice (some ⟨g, 0, none⟩) n n) ∧ w6.cell? ⟨w.heap.size, 0, none⟩ = some (.int .i64 n) ∧ w6.cell? ⟨w.heap.size, 1, none⟩ = some (.int .i64 h)) := Lib.hid ⟨Up.refl _, V0, V1, V2, V3, R0, R1⟩
      go_region_held3 (fun w' => Up w6 w' ∧ w'.cell? ⟨w2.heap.size, 0, none⟩ = some (.int .i64 n) ∧ w'.cell? ⟨w2.heap.size, 1, none⟩ = some (.int .i64 p) ∧ w'.cell? ⟨w2.heap.size, 2, none⟩ = some (.int .i64 l) ∧ w'.cell? ⟨w2.heap.size, 3, none⟩ = some (.slice (some ⟨g, 0, none⟩) n n) ∧ w'.cell? ⟨w.heap.size, 0, none⟩ = some (.int .i64 n) ∧ w'.cell? ⟨w.heap.size, 1, none⟩ = some (.int .i64 h))
        (first | (with_reducible exact SS_w6.out) | (with_reducible exact keep6 (Lib.hid (Up.refl _).drew) SS_w6.out) | (with_reducible exact keep6 (by assumption) (by assumption)))
        (first
          | (go_at_call 22; (with_reducible refine (K5.out _ _ _ (HS6.out.up (And.left (by assumption)))).mono ?_); rintro e w7 ⟨g7, rfl, hg7, hb7, hu⟩; have HX7 := Lib.hid hu; have HB7 := Lib.hid hb7; clear hb7; clear hu)
          | (go_at_call 11; (with_reducible refine (K6.out _ _ _ (HB6.out.up (And.left (by assumption))) HB7.out).mono ?_); rintro e w8 ⟨rfl, hu⟩; have HX8 := Lib.hid hu; clear hu)
          | (go_at_call 12; (with_reducible refine (KA.out _).mono ?_); rintro e w9 ⟨rfl, hu⟩; have HX9 := Lib.hid hu; clear hu))
      clear d1 d2 d3
      go_wp2_with fail
      go_ret
      exact ⟨rfl, HU4.out.trans (HU6.out.trans (And.left ‹Up w6 _ ∧ _›))⟩

set_option maxRecDepth 100000 in
theorem ringRotates_lifted (os : Os) (started : os.Started) (H : Type) (enc : TypeId × Value → H) :
    ReturnsInHanded {} Try.checked os 7 .any (Rows.ringRotatesSpec.pre6 enc Try.prog Try.f7 Rows.ringRotatesRow.domain false) (Rows.ringRotatesSpec.post enc Try.prog Try.f7 false true false false) := by
  refine returnsInHanded_of_change (C := Try.checked) ringRotates_own started (by kernel_rfl) Try.func7
    (ChangeSpec.witness6 (enc := enc) (C := Try.checked) false ⟨#[], #[.agg #[.int .i64 0, .int .i64 0, .int .i64 0, .slice none 0 0], .int .i64 0], []⟩ 8 (by kernel_rfl) (by kernel_rfl) (by kernel_rfl) (by kernel_rfl)) ?_
  intro W base args ds gs before hval0 hW hcnd _
  have hval : ∀ (j : Nat) t v, Try.f7.params[j]? = some t → args[j]? = some v → Value.okWide Try.prog W .any base t v := hval0
  have hW' := hW
  obtain ⟨p, q, hA0, hV, rfl, hfz, hnd⟩ := hW'
  have hA : DataW.TrodAll enc Try.prog W 0 (fun _ => true) true Try.f7.params.toList args.toList ds p := hA0
  rw [Try.params7] at hA hval
  obtain ⟨v0, vs0, d0, ds0, p0, q0, hargs, rfl, rfl, h0, r0⟩ := trodAll_cons hA
  obtain ⟨v1, vs1, d1, ds1, p1, q1, rfl, rfl, rfl, h1, r1⟩ := trodAll_cons r0
  obtain ⟨rfl, rfl, rfl⟩ := trodAll_nil r1
  obtain rfl : args = #[v0, v1] := by cases args; simp_all
  obtain ⟨rfl, rfl⟩ := trodVars_none hV
  have hlt := fun x hx => hW.lt x hx
  have k0 := h0
  obtain ⟨c0, e0, l0, n0, m0, A0, L0, rfl, hk0, hS0⟩ := open_ring (hval 0 24 v0 rfl rfl) h0
  have k1 := h1
  obtain ⟨a1, rfl, rfl, rfl, w1⟩ := open_int Try.underlying3 (hval 1 3 v1 rfl rfl) h1
  refine (ringRotates_walk c0 e0 l0 n0 m0 A0 L0 hk0 a1 w1 W hS0).mono fun e W' ⟨he, hg⟩ => ?_
  subst he
  exact ⟨_, rfl, post_of_same (pv := []) hW (fun _ _ _ => (trodAll_cons_mk (shut_bool Try.underlying4 _) trodAll_mk0)) (fun sp hsp => (trodAll_cons_mk (stay (by kernel_rfl) (of_decide_eq_true (by kernel_rfl)) k0 hg hlt (fun x hx => by first | (simp at hx; done) | simp [hx]) hsp) (trodAll_cons_mk (stay (by kernel_rfl) (of_decide_eq_true (by kernel_rfl)) k1 hg hlt (fun x hx => by first | (simp at hx; done) | simp [hx]) hsp) trodAll_mk0))) (fun _ _ => rfl) rfl
    (hg.grown.frame _) hg.grown.2.1 (ok_one (by kernel_rfl) rfl (okWide_bool_mk Try.underlying4 _))⟩

theorem ringRotates_over : Rows.ringRotatesRow.holds Try.pinned (OpenSpec.ofChange Rows.ringRotatesSpec) :=
  OpenClaim.holds_of_wide 7 Try.f7 rfl rfl rfl rfl rfl rfl rfl ⟨rfl, rfl, rfl, rfl, rfl⟩ rfl rfl rfl rfl rfl (by kernel_rfl) Try.func7 (by kernel_rfl)
    (of_decide_eq_true (by kernel_rfl)) (by unfold Func.isWrapper; first | (rw [if_pos (by decide +kernel)]; kernel_rfl) | (rw [if_neg (by decide +kernel)]; exact ⟨rfl, rfl⟩))
    (fun os started H enc _ => ringRotates_lifted os started H enc)

theorem ringRotates_holds : Rows.RingRotatesSaid :=
  ringRotates_over
#print axioms ringRotates_holds
end Go.Proofs.Ytjedcpfipebncaa
