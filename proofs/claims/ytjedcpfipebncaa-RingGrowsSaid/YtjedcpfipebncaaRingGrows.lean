/- Proved: for every buffer r and every capacity the law RingGrows returns true: ring.Grow returns the buffer with the same elements, or the error of the reference. Conditions: none. -/
import Derived.Test.YtjedcpfipebncaaRows
import Derived.WalkKit
import Derived.ProofKit
import Derived.OpenShut
import Derived.Lib.SmallJoins
import Derived.Test.YtjedcpfipebncaaGFrame
import Derived.Test.YtjedcpfipebncaaGAwake
import Derived.Test.YtjedcpfipebncaaGSame
import Derived.Test.YtjedcpfipebncaaGRItems
import Derived.Test.YtjedcpfipebncaaGGrow
import Derived.Test.YtjedcpfipebncaaGOf
namespace Go.Proofs.Ytjedcpfipebncaa
open Go.ChangeShapes Go.WideShapes Go.ChangeAt Go.RowKit Go.Joins
set_option linter.unusedVariables false

theorem ringGrows_own : ownKnob Try.prog.godebug = none := by kernel_rfl

set_option maxHeartbeats 4000000 in
set_option maxRecDepth 100000 in
theorem ringGrows_walk (c h l : Int) (n k : Nat) (A : Option Addr) (L : List It) (hk : n ≤ k) (m : Int) (hm : (Lit.int .i64 m).wf = true) (w : World) (hS : Sl w A n L) :
    Calls Try.prog 8 #[.agg #[.int .i64 c, .int .i64 h, .int .i64 l, .slice A n k], .int .i64 m] w fun e w' => e = .returned (.bool true) ∧ Up w w' := by
  have KA := Lib.hid awake_up
  have HU0 := Lib.hid (Up.refl w)
  clear hm
  have KF := Lib.hid (fun W => few_any c h l n k A W)
  by_cases hf : (n : Int) ≤ 200
  case neg =>
    rw [decide_eq_false hf] at KF
    clear hf hS
    go_enter Try.func8, Try.ntmps8
    go_wp2_with (first
      | (go_at_call 14; (with_reducible refine (KF.out _).mono ?_); rintro e w1 ⟨rfl, hu⟩; have HU1 := Lib.hid (HU0.out.trans (((Up.refl _).alloc _ _).trans hu)); clear hu)
      | (go_at_call 12; (with_reducible refine (KA.out _).mono ?_); rintro e w2 ⟨rfl, hu⟩; have HU2 := Lib.hid (HU1.out.trans hu); clear hu))
    go_ret
    exact ⟨rfl, HU2.out⟩
  rw [decide_eq_true hf] at KF
  have hn2 : n ≤ 200 := by omega
  clear hf
  by_cases hg1 : 300 < m ∧ m < 65536
  · have t1 : decide (300 < m) = true := decide_eq_true hg1.1
    have t2 : decide (m < 65536) = true := decide_eq_true hg1.2
    clear hg1 hS
    go_enter Try.func8, Try.ntmps8
    go_wp2_with (first
      | (go_at_call 14; (with_reducible refine (KF.out _).mono ?_); rintro e w1 ⟨rfl, hu⟩; have HU1 := Lib.hid (HU0.out.trans (((Up.refl _).alloc _ _).trans hu)); clear hu)
      | (go_at_call 12; (with_reducible refine (KA.out _).mono ?_); rintro e w2 ⟨rfl, hu⟩; have HU2 := Lib.hid (HU1.out.trans hu); clear hu))
    go_ret
    exact ⟨rfl, HU2.out⟩
  have T : (decide (300 < m) = false) ∨ (decide (300 < m) = true ∧ decide (m < 65536) = false) := by
    by_cases h3 : 300 < m
    · exact Or.inr ⟨decide_eq_true h3, decide_eq_false (by omega)⟩
    · exact Or.inl (decide_eq_false h3)
  clear hg1
  have KZ := Lib.hid (fun W => same_t 0 0 0 0 0 0 none none [] (by omega) W Sl.none_ Sl.none_)
  cases hv : vB c h l L with
  | false =>
    have K1 := Lib.hid (fun W (hu : Up w W) => grow_bad c h l n k A L m hv W (hS.up hu))
    have K2 := Lib.hid (fun W (hu : Up w W) => rval_bad c h l n k A L hv W (hS.up hu))
    have K3 := Lib.hid (fun W (hu : Up w W) => ritems_bad c h l n k A L hv W (hS.up hu))
    clear hv hS hn2 hk
    rcases T with t1 | ⟨t1, t2⟩
    all_goals
      go_enter Try.func8, Try.ntmps8
      go_wp2_with (first
        | (go_at_call 14; (with_reducible refine (KF.out _).mono ?_); rintro e w1 ⟨rfl, hu⟩; have HU1 := Lib.hid (HU0.out.trans (((Up.refl _).alloc _ _).trans hu)); have q1_0 := hu.keep (w.heap.size) 0 (.int .i64 c) (by simp [go_sem]); have q1_1 := hu.keep (w.heap.size) 1 (.int .i64 h) (by simp [go_sem]); have q1_2 := hu.keep (w.heap.size) 2 (.int .i64 l) (by simp [go_sem]); have q1_3 := hu.keep (w.heap.size) 3 (.slice A n k) (by simp [go_sem]); have l1_1 : w.heap.size < w1.heap.size := World.block_lt_of_cell? _ _ q1_0; clear hu)
        | (go_at_call 26; (with_reducible refine (K1.out _ HU1.out).mono ?_); rintro e w2 ⟨rfl, hu⟩; have HU2 := Lib.hid (HU1.out.trans hu); have q2_0 := hu.keep _ _ _ q1_0; have q2_1 := hu.keep _ _ _ q1_1; have q2_2 := hu.keep _ _ _ q1_2; have q2_3 := hu.keep _ _ _ q1_3; have l2_1 : w.heap.size < w2.heap.size := World.block_lt_of_cell? _ _ q2_0; clear hu q1_0 q1_1 q1_2 q1_3))
      obtain ⟨ws, hws⟩ : ∃ z, z = w2.alloc (.cells #[.int .i64 0, .int .i64 0, .int .i64 0, .slice none 0 0] 24) := ⟨_, rfl⟩
      rw [← hws]
      have HA_ws : Hid (Up w2 ws) := Lib.hid (by rw [hws]; exact ((Up.refl _).alloc _ _))
      have HU_ws := Lib.hid (HU2.out.trans HA_ws.out)
      have rws_0 := HA_ws.out.keep _ _ _ q2_0
      have rws_1 := HA_ws.out.keep _ _ _ q2_1
      have rws_2 := HA_ws.out.keep _ _ _ q2_2
      have rws_3 := HA_ws.out.keep _ _ _ q2_3
      have rws_4 : ws.cell? ⟨w2.heap.size, 0, none⟩ = some (.int .i64 0) := by rw [hws]; simp [go_sem]
      have rws_5 : ws.cell? ⟨w2.heap.size, 1, none⟩ = some (.int .i64 0) := by rw [hws]; simp [go_sem]
      have rws_6 : ws.cell? ⟨w2.heap.size, 2, none⟩ = some (.int .i64 0) := by rw [hws]; simp [go_sem]
      have rws_7 : ws.cell? ⟨w2.heap.size, 3, none⟩ = some (.slice none 0 0) := by rw [hws]; simp [go_sem]
      clear hws q2_0 q2_1 q2_2 q2_3
      have SS_ws : Hid (Up ws ws ∧ ws.cell? ⟨w.heap.size, 0, none⟩ = some (.int .i64 c) ∧ ws.cell? ⟨w.heap.size, 1, none⟩ = some (.int .i64 h) ∧ ws.cell? ⟨w.heap.size, 2, none⟩ = some (.int .i64 l) ∧ ws.cell? ⟨w.heap.size, 3, none⟩ = some (.slice A n k)) := Lib.hid ⟨Up.refl _, rws_0, rws_1, rws_2, rws_3⟩
      go_region_held3 (fun w' => Up ws w' ∧ w'.cell? ⟨w.heap.size, 0, none⟩ = some (.int .i64 c) ∧ w'.cell? ⟨w.heap.size, 1, none⟩ = some (.int .i64 h) ∧ w'.cell? ⟨w.heap.size, 2, none⟩ = some (.int .i64 l) ∧ w'.cell? ⟨w.heap.size, 3, none⟩ = some (.slice A n k))
        (first | (with_reducible exact SS_ws.out) | (with_reducible exact keep4 (Lib.hid (Up.refl _).drew) SS_ws.out) | (with_reducible exact keep4 (by assumption) (by assumption)))
        (first
          | (go_at_call 15; (with_reducible refine (K2.out _ (HU_ws.out.trans (And.left (by assumption)))).mono ?_); rintro e w3 ⟨rfl, hu⟩; have HX3 := Lib.hid hu; clear hu)
          | (go_at_call 16; (with_reducible refine (K3.out _ (HU_ws.out.trans (And.left (by assumption)))).mono ?_); rintro e w4 ⟨rfl, hu⟩; have HX4 := Lib.hid hu; clear hu))
      have HUV := Lib.hid (And.left ‹Up ws w4 ∧ _›)
      clear ‹Up ws w4 ∧ _›
      have HU4 := Lib.hid (HU_ws.out.trans HUV.out)
      have v0 := HUV.out.keep _ _ _ rws_4
      have v1 := HUV.out.keep _ _ _ rws_5
      have v2 := HUV.out.keep _ _ _ rws_6
      have v3 := HUV.out.keep _ _ _ rws_7
      clear rws_0 rws_1 rws_2 rws_3 rws_4 rws_5 rws_6 rws_7
      go_wp2_with (first
        | (go_at_call 11; (with_reducible refine (KZ.out _).mono ?_); rintro e w5 ⟨rfl, hu⟩; have HU5 := Lib.hid (HU4.out.trans hu); clear hu)
        | (go_at_call 12; (with_reducible refine (KA.out _).mono ?_); rintro e w6 ⟨rfl, hu⟩; have HU6 := Lib.hid (HU5.out.trans hu); clear hu))
      go_ret
      exact ⟨rfl, HU6.out⟩
  | true =>
    obtain ⟨c, h, M, rfl, rfl, rfl, rfl, hc, hc', hh, hM⟩ := vB_true hv
    obtain rfl : n = c := by rw [← hS.1, ofL_length]
    clear hv
    have K2 := Lib.hid (fun W (hu : Up w W) => rval_good n h k A M hc hc' hh hM W (hS.up hu))
    have K3 := Lib.hid (fun W (hu : Up w W) => ritems_good n h k A M hc hc' hh hM W (hS.up hu))
    by_cases h1 : m < M.length
    · have K1 := Lib.hid (fun W (hu : Up w W) => grow_less n h k A M m hc hc' hh hM h1 W (hS.up hu))
      have t3 : decide (m < (M.length : Int)) = true := decide_eq_true h1
      clear hS h1
      generalize M.length = l at *
      rcases T with t1 | ⟨t1, t2⟩
      all_goals
        go_enter Try.func8, Try.ntmps8
        go_wp2_with (first
          | (go_at_call 14; (with_reducible refine (KF.out _).mono ?_); rintro e w1 ⟨rfl, hu⟩; have HU1 := Lib.hid (HU0.out.trans (((Up.refl _).alloc _ _).trans hu)); have q1_0 := hu.keep (w.heap.size) 0 (.int .i64 n) (by simp [go_sem]); have q1_1 := hu.keep (w.heap.size) 1 (.int .i64 h) (by simp [go_sem]); have q1_2 := hu.keep (w.heap.size) 2 (.int .i64 l) (by simp [go_sem]); have q1_3 := hu.keep (w.heap.size) 3 (.slice A n k) (by simp [go_sem]); have l1_1 : w.heap.size < w1.heap.size := World.block_lt_of_cell? _ _ q1_0; clear hu)
          | (go_at_call 26; (with_reducible refine (K1.out _ HU1.out).mono ?_); rintro e w2 ⟨rfl, hu⟩; have HU2 := Lib.hid (HU1.out.trans hu); have q2_0 := hu.keep _ _ _ q1_0; have q2_1 := hu.keep _ _ _ q1_1; have q2_2 := hu.keep _ _ _ q1_2; have q2_3 := hu.keep _ _ _ q1_3; have l2_1 : w.heap.size < w2.heap.size := World.block_lt_of_cell? _ _ q2_0; clear hu q1_0 q1_1 q1_2 q1_3))
        obtain ⟨ws, hws⟩ : ∃ z, z = w2.alloc (.cells #[.int .i64 0, .int .i64 0, .int .i64 0, .slice none 0 0] 24) := ⟨_, rfl⟩
        rw [← hws]
        have HA_ws : Hid (Up w2 ws) := Lib.hid (by rw [hws]; exact ((Up.refl _).alloc _ _))
        have HU_ws := Lib.hid (HU2.out.trans HA_ws.out)
        have rws_0 := HA_ws.out.keep _ _ _ q2_0
        have rws_1 := HA_ws.out.keep _ _ _ q2_1
        have rws_2 := HA_ws.out.keep _ _ _ q2_2
        have rws_3 := HA_ws.out.keep _ _ _ q2_3
        have rws_4 : ws.cell? ⟨w2.heap.size, 0, none⟩ = some (.int .i64 0) := by rw [hws]; simp [go_sem]
        have rws_5 : ws.cell? ⟨w2.heap.size, 1, none⟩ = some (.int .i64 0) := by rw [hws]; simp [go_sem]
        have rws_6 : ws.cell? ⟨w2.heap.size, 2, none⟩ = some (.int .i64 0) := by rw [hws]; simp [go_sem]
        have rws_7 : ws.cell? ⟨w2.heap.size, 3, none⟩ = some (.slice none 0 0) := by rw [hws]; simp [go_sem]
        clear hws q2_0 q2_1 q2_2 q2_3
        have SS_ws : Hid (Up ws ws ∧ ws.cell? ⟨w.heap.size, 0, none⟩ = some (.int .i64 n) ∧ ws.cell? ⟨w.heap.size, 1, none⟩ = some (.int .i64 h) ∧ ws.cell? ⟨w.heap.size, 2, none⟩ = some (.int .i64 l) ∧ ws.cell? ⟨w.heap.size, 3, none⟩ = some (.slice A n k)) := Lib.hid ⟨Up.refl _, rws_0, rws_1, rws_2, rws_3⟩
        go_region_held3 (fun w' => Up ws w' ∧ w'.cell? ⟨w.heap.size, 0, none⟩ = some (.int .i64 n) ∧ w'.cell? ⟨w.heap.size, 1, none⟩ = some (.int .i64 h) ∧ w'.cell? ⟨w.heap.size, 2, none⟩ = some (.int .i64 l) ∧ w'.cell? ⟨w.heap.size, 3, none⟩ = some (.slice A n k))
          (first | (with_reducible exact SS_ws.out) | (with_reducible exact keep4 (Lib.hid (Up.refl _).drew) SS_ws.out) | (with_reducible exact keep4 (by assumption) (by assumption)))
          (first
            | (go_at_call 15; (with_reducible refine (K2.out _ (HU_ws.out.trans (And.left (by assumption)))).mono ?_); rintro e w3 ⟨rfl, hu⟩; have HX3 := Lib.hid hu; clear hu)
            | (go_at_call 16; (with_reducible refine (K3.out _ (HU_ws.out.trans (And.left (by assumption)))).mono ?_); rintro e w4 ⟨A', k', rfl, hk', hS', hu⟩; have HX4 := Lib.hid hu; have HS4 := Lib.hid hS'; clear hS'; clear hu))
        have HUV := Lib.hid (And.left ‹Up ws w4 ∧ _›)
        clear ‹Up ws w4 ∧ _›
        have HU4 := Lib.hid (HU_ws.out.trans HUV.out)
        have v0 := HUV.out.keep _ _ _ rws_4
        have v1 := HUV.out.keep _ _ _ rws_5
        have v2 := HUV.out.keep _ _ _ rws_6
        have v3 := HUV.out.keep _ _ _ rws_7
        clear rws_0 rws_1 rws_2 rws_3 rws_4 rws_5 rws_6 rws_7
        go_wp2_with (first
          | (go_at_call 11; (with_reducible refine (KZ.out _).mono ?_); rintro e w5 ⟨rfl, hu⟩; have HU5 := Lib.hid (HU4.out.trans hu); clear hu)
          | (go_at_call 12; (with_reducible refine (KA.out _).mono ?_); rintro e w6 ⟨rfl, hu⟩; have HU6 := Lib.hid (HU5.out.trans hu); clear hu))
        go_ret
        exact ⟨rfl, HU6.out⟩
    by_cases h2 : 1 ≤ m ∧ m ≤ 65536
    case neg =>
      have K1 := Lib.hid (fun W (hu : Up w W) => grow_cap n h k A M m hc hc' hh hM h1 h2 W (hS.up hu))
      have t3 : decide (m < (M.length : Int)) = false := decide_eq_false h1
      have T2 : (decide (m < 1) = true) ∨ (decide (m < 1) = false ∧ decide (65536 < m) = true) := by
        by_cases h3 : m < 1
        · exact Or.inl (decide_eq_true h3)
        · exact Or.inr ⟨decide_eq_false h3, decide_eq_true (by omega)⟩
      clear hS h1 h2
      generalize M.length = l at *
      rcases T with t1 | ⟨t1, t2⟩ <;> rcases T2 with t4 | ⟨t4, t5⟩
      all_goals
        go_enter Try.func8, Try.ntmps8
        go_wp2_with (first
          | (go_at_call 14; (with_reducible refine (KF.out _).mono ?_); rintro e w1 ⟨rfl, hu⟩; have HU1 := Lib.hid (HU0.out.trans (((Up.refl _).alloc _ _).trans hu)); have q1_0 := hu.keep (w.heap.size) 0 (.int .i64 n) (by simp [go_sem]); have q1_1 := hu.keep (w.heap.size) 1 (.int .i64 h) (by simp [go_sem]); have q1_2 := hu.keep (w.heap.size) 2 (.int .i64 l) (by simp [go_sem]); have q1_3 := hu.keep (w.heap.size) 3 (.slice A n k) (by simp [go_sem]); have l1_1 : w.heap.size < w1.heap.size := World.block_lt_of_cell? _ _ q1_0; clear hu)
          | (go_at_call 26; (with_reducible refine (K1.out _ HU1.out).mono ?_); rintro e w2 ⟨rfl, hu⟩; have HU2 := Lib.hid (HU1.out.trans hu); have q2_0 := hu.keep _ _ _ q1_0; have q2_1 := hu.keep _ _ _ q1_1; have q2_2 := hu.keep _ _ _ q1_2; have q2_3 := hu.keep _ _ _ q1_3; have l2_1 : w.heap.size < w2.heap.size := World.block_lt_of_cell? _ _ q2_0; clear hu q1_0 q1_1 q1_2 q1_3))
        obtain ⟨ws, hws⟩ : ∃ z, z = w2.alloc (.cells #[.int .i64 0, .int .i64 0, .int .i64 0, .slice none 0 0] 24) := ⟨_, rfl⟩
        rw [← hws]
        have HA_ws : Hid (Up w2 ws) := Lib.hid (by rw [hws]; exact ((Up.refl _).alloc _ _))
        have HU_ws := Lib.hid (HU2.out.trans HA_ws.out)
        have rws_0 := HA_ws.out.keep _ _ _ q2_0
        have rws_1 := HA_ws.out.keep _ _ _ q2_1
        have rws_2 := HA_ws.out.keep _ _ _ q2_2
        have rws_3 := HA_ws.out.keep _ _ _ q2_3
        have rws_4 : ws.cell? ⟨w2.heap.size, 0, none⟩ = some (.int .i64 0) := by rw [hws]; simp [go_sem]
        have rws_5 : ws.cell? ⟨w2.heap.size, 1, none⟩ = some (.int .i64 0) := by rw [hws]; simp [go_sem]
        have rws_6 : ws.cell? ⟨w2.heap.size, 2, none⟩ = some (.int .i64 0) := by rw [hws]; simp [go_sem]
        have rws_7 : ws.cell? ⟨w2.heap.size, 3, none⟩ = some (.slice none 0 0) := by rw [hws]; simp [go_sem]
        clear hws q2_0 q2_1 q2_2 q2_3
        have SS_ws : Hid (Up ws ws ∧ ws.cell? ⟨w.heap.size, 0, none⟩ = some (.int .i64 n) ∧ ws.cell? ⟨w.heap.size, 1, none⟩ = some (.int .i64 h) ∧ ws.cell? ⟨w.heap.size, 2, none⟩ = some (.int .i64 l) ∧ ws.cell? ⟨w.heap.size, 3, none⟩ = some (.slice A n k)) := Lib.hid ⟨Up.refl _, rws_0, rws_1, rws_2, rws_3⟩
        go_region_held3 (fun w' => Up ws w' ∧ w'.cell? ⟨w.heap.size, 0, none⟩ = some (.int .i64 n) ∧ w'.cell? ⟨w.heap.size, 1, none⟩ = some (.int .i64 h) ∧ w'.cell? ⟨w.heap.size, 2, none⟩ = some (.int .i64 l) ∧ w'.cell? ⟨w.heap.size, 3, none⟩ = some (.slice A n k))
          (first | (with_reducible exact SS_ws.out) | (with_reducible exact keep4 (Lib.hid (Up.refl _).drew) SS_ws.out) | (with_reducible exact keep4 (by assumption) (by assumption)))
          (first
            | (go_at_call 15; (with_reducible refine (K2.out _ (HU_ws.out.trans (And.left (by assumption)))).mono ?_); rintro e w3 ⟨rfl, hu⟩; have HX3 := Lib.hid hu; clear hu)
            | (go_at_call 16; (with_reducible refine (K3.out _ (HU_ws.out.trans (And.left (by assumption)))).mono ?_); rintro e w4 ⟨A', k', rfl, hk', hS', hu⟩; have HX4 := Lib.hid hu; have HS4 := Lib.hid hS'; clear hS'; clear hu))
        have HUV := Lib.hid (And.left ‹Up ws w4 ∧ _›)
        clear ‹Up ws w4 ∧ _›
        have HU4 := Lib.hid (HU_ws.out.trans HUV.out)
        have v0 := HUV.out.keep _ _ _ rws_4
        have v1 := HUV.out.keep _ _ _ rws_5
        have v2 := HUV.out.keep _ _ _ rws_6
        have v3 := HUV.out.keep _ _ _ rws_7
        clear rws_0 rws_1 rws_2 rws_3 rws_4 rws_5 rws_6 rws_7
        go_wp2_with (first
          | (go_at_call 11; (with_reducible refine (KZ.out _).mono ?_); rintro e w5 ⟨rfl, hu⟩; have HU5 := Lib.hid (HU4.out.trans hu); clear hu)
          | (go_at_call 12; (with_reducible refine (KA.out _).mono ?_); rintro e w6 ⟨rfl, hu⟩; have HU6 := Lib.hid (HU5.out.trans hu); clear hu))
        go_ret
        exact ⟨rfl, HU6.out⟩
    obtain ⟨m', rfl⟩ := Int.eq_ofNat_of_zero_le (show 0 ≤ m by omega)
    have K1 := Lib.hid (fun W (hu : Up w W) => grow_good n h k m' A M hc hc' hh hk hM (by omega) (by omega) (by omega) W (hS.up hu))
    have K5 := Lib.hid (fun W A' k' (hA : Sl W A' M.length M) => of_any m' 0 k' A' M (by omega) (by omega) (by omega) (by omega) W hA)
    have hm1 : m' ≤ 1000000 := by omega
    have K6 := Lib.hid (fun W g g' (hA : Bi W g (ofL m' 0 M)) (hB : Bi W g' (ofL m' 0 M)) => same_t m' 0 M.length m' m' m' (some ⟨g, 0, none⟩) (some ⟨g', 0, none⟩) (ofL m' 0 M) hm1 W (hA.sl (ofL_length _ _ _)) (hB.sl (ofL_length _ _ _)))
    rw [Int.natCast_zero] at K5
    have t3 : decide (m' < M.length) = false := decide_eq_false (by omega)
    have t4 : decide ((m' : Int) < 1) = false := decide_eq_false (by omega)
    have t5 : decide (65536 < (m' : Int)) = false := decide_eq_false (by omega)
    clear hS h1 h2
    generalize M.length = l at *
    rcases T with t1 | ⟨t1, t2⟩
    all_goals
      go_enter Try.func8, Try.ntmps8
      go_wp2_with (first
        | (go_at_call 14; (with_reducible refine (KF.out _).mono ?_); rintro e w1 ⟨rfl, hu⟩; have HU1 := Lib.hid (HU0.out.trans (((Up.refl _).alloc _ _).trans hu)); have q1_0 := hu.keep (w.heap.size) 0 (.int .i64 n) (by simp [go_sem]); have q1_1 := hu.keep (w.heap.size) 1 (.int .i64 h) (by simp [go_sem]); have q1_2 := hu.keep (w.heap.size) 2 (.int .i64 l) (by simp [go_sem]); have q1_3 := hu.keep (w.heap.size) 3 (.slice A n k) (by simp [go_sem]); have l1_1 : w.heap.size < w1.heap.size := World.block_lt_of_cell? _ _ q1_0; clear hu)
        | (go_at_call 26; (with_reducible refine (K1.out _ HU1.out).mono ?_); rintro e w2 ⟨g, rfl, hg, hb, hu⟩; have HU2 := Lib.hid (HU1.out.trans hu); have q2_0 := hu.keep _ _ _ q1_0; have q2_1 := hu.keep _ _ _ q1_1; have q2_2 := hu.keep _ _ _ q1_2; have q2_3 := hu.keep _ _ _ q1_3; have l2_1 : w.heap.size < w2.heap.size := World.block_lt_of_cell? _ _ q2_0; have HB2 := Lib.hid hb; clear hb; clear hu q1_0 q1_1 q1_2 q1_3))
      obtain ⟨ws, hws⟩ : ∃ z, z = w2.alloc (.cells #[.int .i64 m', .int .i64 0, .int .i64 l, .slice (some ⟨g, 0, none⟩) m' m'] 24) := ⟨_, rfl⟩
      rw [← hws]
      have HA_ws : Hid (Up w2 ws) := Lib.hid (by rw [hws]; exact ((Up.refl _).alloc _ _))
      have HU_ws := Lib.hid (HU2.out.trans HA_ws.out)
      have rws_0 := HA_ws.out.keep _ _ _ q2_0
      have rws_1 := HA_ws.out.keep _ _ _ q2_1
      have rws_2 := HA_ws.out.keep _ _ _ q2_2
      have rws_3 := HA_ws.out.keep _ _ _ q2_3
      have rws_4 : ws.cell? ⟨w2.heap.size, 0, none⟩ = some (.int .i64 m') := by rw [hws]; simp [go_sem]
      have rws_5 : ws.cell? ⟨w2.heap.size, 1, none⟩ = some (.int .i64 0) := by rw [hws]; simp [go_sem]
      have rws_6 : ws.cell? ⟨w2.heap.size, 2, none⟩ = some (.int .i64 l) := by rw [hws]; simp [go_sem]
      have rws_7 : ws.cell? ⟨w2.heap.size, 3, none⟩ = some (.slice (some ⟨g, 0, none⟩) m' m') := by rw [hws]; simp [go_sem]
      clear hws q2_0 q2_1 q2_2 q2_3
      have SS_ws : Hid (Up ws ws ∧ ws.cell? ⟨w.heap.size, 0, none⟩ = some (.int .i64 n) ∧ ws.cell? ⟨w.heap.size, 1, none⟩ = some (.int .i64 h) ∧ ws.cell? ⟨w.heap.size, 2, none⟩ = some (.int .i64 l) ∧ ws.cell? ⟨w.heap.size, 3, none⟩ = some (.slice A n k)) := Lib.hid ⟨Up.refl _, rws_0, rws_1, rws_2, rws_3⟩
      go_region_held3 (fun w' => Up ws w' ∧ w'.cell? ⟨w.heap.size, 0, none⟩ = some (.int .i64 n) ∧ w'.cell? ⟨w.heap.size, 1, none⟩ = some (.int .i64 h) ∧ w'.cell? ⟨w.heap.size, 2, none⟩ = some (.int .i64 l) ∧ w'.cell? ⟨w.heap.size, 3, none⟩ = some (.slice A n k))
        (first | (with_reducible exact SS_ws.out) | (with_reducible exact keep4 (Lib.hid (Up.refl _).drew) SS_ws.out) | (with_reducible exact keep4 (by assumption) (by assumption)))
        (first
          | (go_at_call 15; (with_reducible refine (K2.out _ (HU_ws.out.trans (And.left (by assumption)))).mono ?_); rintro e w3 ⟨rfl, hu⟩; have HX3 := Lib.hid hu; clear hu)
          | (go_at_call 16; (with_reducible refine (K3.out _ (HU_ws.out.trans (And.left (by assumption)))).mono ?_); rintro e w4 ⟨A', k', rfl, hk', hS', hu⟩; have HX4 := Lib.hid hu; have HS4 := Lib.hid hS'; clear hS'; clear hu))
      have HUV := Lib.hid (And.left ‹Up ws w4 ∧ _›)
      clear ‹Up ws w4 ∧ _›
      have HU4 := Lib.hid (HU_ws.out.trans HUV.out)
      have v0 := HUV.out.keep _ _ _ rws_4
      have v1 := HUV.out.keep _ _ _ rws_5
      have v2 := HUV.out.keep _ _ _ rws_6
      have v3 := HUV.out.keep _ _ _ rws_7
      clear rws_0 rws_1 rws_2 rws_3 rws_4 rws_5 rws_6 rws_7
      have HB4 := Lib.hid ((HB2.out.up HA_ws.out).up HUV.out)
      go_wp2_with fail
      have SS_w4 : Hid (Up w4 w4 ∧ w4.cell? ⟨w2.heap.size, 0, none⟩ = some (.int .i64 m') ∧ w4.cell? ⟨w2.heap.size, 1, none⟩ = some (.int .i64 0) ∧ w4.cell? ⟨w2.heap.size, 2, none⟩ = some (.int .i64 l) ∧ w4.cell? ⟨w2.heap.size, 3, none⟩ = some (.slice (some ⟨g, 0, none⟩) m' m')) := Lib.hid ⟨Up.refl _, v0, v1, v2, v3⟩
      go_region_held3 (fun w' => Up w4 w' ∧ w'.cell? ⟨w2.heap.size, 0, none⟩ = some (.int .i64 m') ∧ w'.cell? ⟨w2.heap.size, 1, none⟩ = some (.int .i64 0) ∧ w'.cell? ⟨w2.heap.size, 2, none⟩ = some (.int .i64 l) ∧ w'.cell? ⟨w2.heap.size, 3, none⟩ = some (.slice (some ⟨g, 0, none⟩) m' m'))
        (first | (with_reducible exact SS_w4.out) | (with_reducible exact keep4 (Lib.hid (Up.refl _).drew) SS_w4.out) | (with_reducible exact keep4 (by assumption) (by assumption)))
        (first
          | (go_at_call 22; (with_reducible refine (K5.out _ _ _ (HS4.out.up (And.left (by assumption)))).mono ?_); rintro e w5 ⟨g5, rfl, hg5, hb5, hu⟩; have HX5 := Lib.hid hu; have HB5 := Lib.hid hb5; clear hb5; clear hu)
          | (go_at_call 11; (with_reducible refine (K6.out _ _ _ (HB4.out.up (And.left (by assumption))) HB5.out).mono ?_); rintro e w6 ⟨rfl, hu⟩; have HX6 := Lib.hid hu; clear hu)
          | (go_at_call 12; (with_reducible refine (KA.out _).mono ?_); rintro e w7 ⟨rfl, hu⟩; have HX7 := Lib.hid hu; clear hu))
      go_wp2_with fail
      go_ret
      exact ⟨rfl, HU4.out.trans (And.left ‹Up w4 _ ∧ _›)⟩

set_option maxRecDepth 100000 in
theorem ringGrows_lifted (os : Os) (started : os.Started) (H : Type) (enc : TypeId × Value → H) :
    ReturnsInHanded {} Try.checked os 8 .any (Rows.ringGrowsSpec.pre6 enc Try.prog Try.f8 Rows.ringGrowsRow.domain false) (Rows.ringGrowsSpec.post enc Try.prog Try.f8 false true false false) := by
  refine returnsInHanded_of_change (C := Try.checked) ringGrows_own started (by kernel_rfl) Try.func8
    (ChangeSpec.witness6 (enc := enc) (C := Try.checked) false ⟨#[], #[.agg #[.int .i64 0, .int .i64 0, .int .i64 0, .slice none 0 0], .int .i64 0], []⟩ 8 (by kernel_rfl) (by kernel_rfl) (by kernel_rfl) (by kernel_rfl)) ?_
  intro W base args ds gs before hval0 hW hcnd _
  have hval : ∀ (j : Nat) t v, Try.f8.params[j]? = some t → args[j]? = some v → Value.okWide Try.prog W .any base t v := hval0
  have hW' := hW
  obtain ⟨p, q, hA0, hV, rfl, hfz, hnd⟩ := hW'
  have hA : DataW.TrodAll enc Try.prog W 0 (fun _ => true) true Try.f8.params.toList args.toList ds p := hA0
  rw [Try.params8] at hA hval
  obtain ⟨v0, vs0, d0, ds0, p0, q0, hargs, rfl, rfl, h0, r0⟩ := trodAll_cons hA
  obtain ⟨v1, vs1, d1, ds1, p1, q1, rfl, rfl, rfl, h1, r1⟩ := trodAll_cons r0
  obtain ⟨rfl, rfl, rfl⟩ := trodAll_nil r1
  obtain rfl : args = #[v0, v1] := by cases args; simp_all
  obtain ⟨rfl, rfl⟩ := trodVars_none hV
  have hlt := fun x hx => hW.lt x hx
  have k0 := h0
  obtain ⟨c0, e0, l0, n0, m0, A0, L0, rfl, hk0, hS0⟩ := open_ring (hval 0 24 v0 rfl rfl) h0
  have k1 := h1
  obtain ⟨a1, rfl, rfl, rfl, w1⟩ := open_int Try.underlying3 (hval 1 3 v1 rfl rfl) h1
  refine (ringGrows_walk c0 e0 l0 n0 m0 A0 L0 hk0 a1 w1 W hS0).mono fun e W' ⟨he, hg⟩ => ?_
  subst he
  exact ⟨_, rfl, post_of_same (pv := []) hW (fun _ _ _ => (trodAll_cons_mk (shut_bool Try.underlying4 _) trodAll_mk0)) (fun sp hsp => (trodAll_cons_mk (stay (by kernel_rfl) (of_decide_eq_true (by kernel_rfl)) k0 hg hlt (fun x hx => by first | (simp at hx; done) | simp [hx]) hsp) (trodAll_cons_mk (stay (by kernel_rfl) (of_decide_eq_true (by kernel_rfl)) k1 hg hlt (fun x hx => by first | (simp at hx; done) | simp [hx]) hsp) trodAll_mk0))) (fun _ _ => rfl) rfl
    (hg.grown.frame _) hg.grown.2.1 (ok_one (by kernel_rfl) rfl (okWide_bool_mk Try.underlying4 _))⟩

theorem ringGrows_over : Rows.ringGrowsRow.holds Try.pinned (OpenSpec.ofChange Rows.ringGrowsSpec) :=
  OpenClaim.holds_of_wide 8 Try.f8 rfl rfl rfl rfl rfl rfl rfl ⟨rfl, rfl, rfl, rfl, rfl⟩ rfl rfl rfl rfl rfl (by kernel_rfl) Try.func8 (by kernel_rfl)
    (of_decide_eq_true (by kernel_rfl)) (by unfold Func.isWrapper; first | (rw [if_pos (by decide +kernel)]; kernel_rfl) | (rw [if_neg (by decide +kernel)]; exact ⟨rfl, rfl⟩))
    (fun os started H enc _ => ringGrows_lifted os started H enc)

theorem ringGrows_holds : Rows.RingGrowsSaid :=
  ringGrows_over
#print axioms ringGrows_holds
end Go.Proofs.Ytjedcpfipebncaa
