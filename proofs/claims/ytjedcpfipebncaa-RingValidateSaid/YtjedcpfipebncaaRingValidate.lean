/- Proved: for every buffer r and every i the law RingValidate returns true: Validate, Items and At of package ring answer as the reference does. Conditions: none. -/
import Derived.Test.YtjedcpfipebncaaRows
import Derived.WalkKit
import Derived.ProofKit
import Derived.OpenShut
import Derived.Lib.SmallJoins
import Derived.Test.YtjedcpfipebncaaGFrame
import Derived.Test.YtjedcpfipebncaaGAwake
import Derived.Test.YtjedcpfipebncaaGSame
import Derived.Test.YtjedcpfipebncaaGRItems
import Derived.Test.YtjedcpfipebncaaGAtG
namespace Go.Proofs.Ytjedcpfipebncaa
open Go.ChangeShapes Go.WideShapes Go.ChangeAt Go.RowKit Go.Joins
set_option linter.unusedVariables false

theorem ringValidate_own : ownKnob Try.prog.godebug = none := by kernel_rfl

set_option maxHeartbeats 4000000 in
set_option maxRecDepth 100000 in
theorem ringValidate_walk (c h l : Int) (n k : Nat) (A : Option Addr) (L : List It) (hk : n ≤ k) (i : Int) (hi : (Lit.int .i64 i).wf = true) (w : World) (hS : Sl w A n L) :
    Calls Try.prog 4 #[.agg #[.int .i64 c, .int .i64 h, .int .i64 l, .slice A n k], .int .i64 i] w fun e w' => e = .returned (.bool true) ∧ Up w w' := by
  have KA := Lib.hid awake_up
  have HU0 := Lib.hid (Up.refl w)
  clear hi
  have KF := Lib.hid (fun W => few_any c h l n k A W)
  by_cases hf : (n : Int) ≤ 200
  case neg =>
    rw [decide_eq_false hf] at KF
    clear hf hS
    go_enter Try.func4, Try.ntmps4
    go_wp2_with (first
      | (go_at_call 14; (with_reducible refine (KF.out _).mono ?_); rintro e w1 ⟨rfl, hu⟩; have HU1 := Lib.hid (HU0.out.trans (((Up.refl _).alloc _ _).trans hu)); clear hu)
      | (go_at_call 12; (with_reducible refine (KA.out _).mono ?_); rintro e w2 ⟨rfl, hu⟩; have HU2 := Lib.hid (HU1.out.trans hu); clear hu))
    go_ret
    exact ⟨rfl, HU2.out⟩
  rw [decide_eq_true hf] at KF
  have hn2 : n ≤ 200 := by omega
  clear hf
  cases hv : vB c h l L with
  | false =>
    have K2 := Lib.hid (fun W (hu : Up w W) => rval_bad c h l n k A L hv W (hS.up hu))
    have K3 := Lib.hid (fun W (hu : Up w W) => ritems_bad c h l n k A L hv W (hS.up hu))
    have K4 := Lib.hid (fun W (hu : Up w W) => at_bad c h l n k A L i hv W (hS.up hu))
    have K5 := Lib.hid (fun W (hu : Up w W) => val_bad c h l n k A L hv W (hS.up hu))
    have K6 := Lib.hid (fun W (hu : Up w W) => items_bad c h l n k A L hv W (hS.up hu))
    have K7 := Lib.hid (fun W => sameItems_t 0 0 0 none none [] (by omega) W Sl.none_ Sl.none_)
    have qe : ∀ w, (Op.equalIn 10000 35 (.agg #[.int .i64 0, .int .i64 0]) (.agg #[.int .i64 0, .int .i64 0])).run Try.prog w = .ok true w := fun w => eqItem 0 0 0 0 w
    clear hv hS hn2 hk
    go_enter Try.func4, Try.ntmps4
    go_wp2_with (first
      | (go_at_call 14; (with_reducible refine (KF.out _).mono ?_); rintro e w1 ⟨rfl, hu⟩; have HU1 := Lib.hid (HU0.out.trans (((Up.refl _).alloc _ _).trans hu)); have q1_0 := hu.keep (w.heap.size) 0 (.int .i64 c) (by simp [go_sem]); have q1_1 := hu.keep (w.heap.size) 1 (.int .i64 h) (by simp [go_sem]); have q1_2 := hu.keep (w.heap.size) 2 (.int .i64 l) (by simp [go_sem]); have q1_3 := hu.keep (w.heap.size) 3 (.slice A n k) (by simp [go_sem]); have l1_1 : w.heap.size < w1.heap.size := World.block_lt_of_cell? _ _ q1_0; clear hu)
      | (go_at_call 15; (with_reducible refine (K2.out _ HU1.out).mono ?_); rintro e w2 ⟨rfl, hu⟩; have HU2 := Lib.hid (HU1.out.trans hu); have q2_0 := hu.keep _ _ _ q1_0; have q2_1 := hu.keep _ _ _ q1_1; have q2_2 := hu.keep _ _ _ q1_2; have q2_3 := hu.keep _ _ _ q1_3; have l2_1 : w.heap.size < w2.heap.size := World.block_lt_of_cell? _ _ q2_0; clear hu q1_0 q1_1 q1_2 q1_3)
      | (go_at_call 16; (with_reducible refine (K3.out _ HU2.out).mono ?_); rintro e w3 ⟨rfl, hu⟩; have HU3 := Lib.hid (HU2.out.trans hu); have q3_0 := hu.keep _ _ _ q2_0; have q3_1 := hu.keep _ _ _ q2_1; have q3_2 := hu.keep _ _ _ q2_2; have q3_3 := hu.keep _ _ _ q2_3; have l3_1 : w.heap.size < w3.heap.size := World.block_lt_of_cell? _ _ q3_0; clear hu q2_0 q2_1 q2_2 q2_3)
      | (go_at_call 17; (with_reducible refine (K4.out _ HU3.out).mono ?_); rintro e w4 ⟨rfl, hu⟩; have HU4 := Lib.hid (HU3.out.trans hu); have q4_0 := hu.keep _ _ _ q3_0; have q4_1 := hu.keep _ _ _ q3_1; have q4_2 := hu.keep _ _ _ q3_2; have q4_3 := hu.keep _ _ _ q3_3; have l4_1 : w.heap.size < w4.heap.size := World.block_lt_of_cell? _ _ q4_0; clear hu q3_0 q3_1 q3_2 q3_3)
      | (go_at_call 13; (with_reducible refine (K5.out _ (HU4.out.trans ((Up.refl _).alloc _ _))).mono ?_); rintro e w5 ⟨rfl, hu⟩; have HU5 := Lib.hid (HU4.out.trans (((Up.refl _).alloc _ _).trans hu)); have q5_0 := (((Up.refl _).alloc _ _).trans hu).keep _ _ _ q4_0; have q5_1 := (((Up.refl _).alloc _ _).trans hu).keep _ _ _ q4_1; have q5_2 := (((Up.refl _).alloc _ _).trans hu).keep _ _ _ q4_2; have q5_3 := (((Up.refl _).alloc _ _).trans hu).keep _ _ _ q4_3; have q5_4 := hu.keep (w4.heap.size) 0 (.int .i64 0) (by simp [go_sem]); have q5_5 := hu.keep (w4.heap.size) 1 (.int .i64 0) (by simp [go_sem]); have l5_1 : w.heap.size < w5.heap.size := World.block_lt_of_cell? _ _ q5_0; have l5_2 : w4.heap.size < w5.heap.size := World.block_lt_of_cell? _ _ q5_4; clear hu q4_0 q4_1 q4_2 q4_3)
      | (go_at_call 19; (with_reducible refine (K6.out _ HU5.out).mono ?_); rintro e w6 ⟨rfl, hu⟩; have HU6 := Lib.hid (HU5.out.trans hu); have q6_0 := hu.keep _ _ _ q5_0; have q6_1 := hu.keep _ _ _ q5_1; have q6_2 := hu.keep _ _ _ q5_2; have q6_3 := hu.keep _ _ _ q5_3; have q6_4 := hu.keep _ _ _ q5_4; have q6_5 := hu.keep _ _ _ q5_5; have l6_1 : w.heap.size < w6.heap.size := World.block_lt_of_cell? _ _ q6_0; have l6_2 : w4.heap.size < w6.heap.size := World.block_lt_of_cell? _ _ q6_4; clear hu q5_0 q5_1 q5_2 q5_3 q5_4 q5_5)
      | (go_at_call 18; (with_reducible refine (K7.out _).mono ?_); rintro e w7 ⟨rfl, hu⟩; have HU7 := Lib.hid (HU6.out.trans hu); have q7_0 := hu.keep _ _ _ q6_0; have q7_1 := hu.keep _ _ _ q6_1; have q7_2 := hu.keep _ _ _ q6_2; have q7_3 := hu.keep _ _ _ q6_3; have q7_4 := hu.keep _ _ _ q6_4; have q7_5 := hu.keep _ _ _ q6_5; have l7_1 : w.heap.size < w7.heap.size := World.block_lt_of_cell? _ _ q7_0; have l7_2 : w4.heap.size < w7.heap.size := World.block_lt_of_cell? _ _ q7_4; clear hu q6_0 q6_1 q6_2 q6_3 q6_4 q6_5)
      | (go_at_call 12; (with_reducible refine (KA.out _).mono ?_); rintro e w8 ⟨rfl, hu⟩; have HU8 := Lib.hid (HU7.out.trans hu); have q8_0 := hu.keep _ _ _ q7_0; have q8_1 := hu.keep _ _ _ q7_1; have q8_2 := hu.keep _ _ _ q7_2; have q8_3 := hu.keep _ _ _ q7_3; have q8_4 := hu.keep _ _ _ q7_4; have q8_5 := hu.keep _ _ _ q7_5; have l8_1 : w.heap.size < w8.heap.size := World.block_lt_of_cell? _ _ q8_0; have l8_2 : w4.heap.size < w8.heap.size := World.block_lt_of_cell? _ _ q8_4; clear hu q7_0 q7_1 q7_2 q7_3 q7_4 q7_5))
    go_ret
    exact ⟨rfl, HU8.out⟩
  | true =>
    obtain ⟨c, h, M, rfl, rfl, rfl, rfl, hc, hc', hh, hM⟩ := vB_true hv
    obtain rfl : n = c := by rw [← hS.1, ofL_length]
    clear hv
    have K2 := Lib.hid (fun W (hu : Up w W) => rval_good n h k A M hc hc' hh hM W (hS.up hu))
    have K3 := Lib.hid (fun W (hu : Up w W) => ritems_good n h k A M hc hc' hh hM W (hS.up hu))
    have K5 := Lib.hid (fun W (hu : Up w W) => val_good n h k A M hc hc' hh hM W (hS.up hu))
    have K6 := Lib.hid (fun W (hu : Up w W) => items_good n h k A M hc hc' hh hk hM W (hS.up hu))
    have hm1 : M.length ≤ 1000000 := by omega
    have K7 := Lib.hid (fun W A B k q (hA : Sl W A M.length M) (hB : Sl W B M.length M) => sameItems_t M.length k q A B M hm1 W hA hB)
    by_cases hi : i < 0
    · have K4 := Lib.hid (fun W (hu : Up w W) => at_neg n h k A M i hc hc' hh hM hi W (hS.up hu))
      have t1 : decide (i < 0) = true := decide_eq_true hi
      have qe : ∀ w, (Op.equalIn 10000 35 (.agg #[.int .i64 0, .int .i64 0]) (.agg #[.int .i64 0, .int .i64 0])).run Try.prog w = .ok true w := fun w => eqItem 0 0 0 0 w
      clear hi
      generalize M.length = l at *
      clear hS
      go_enter Try.func4, Try.ntmps4
      go_wp2_with (first
        | (go_at_call 14; (with_reducible refine (KF.out _).mono ?_); rintro e w1 ⟨rfl, hu⟩; have HU1 := Lib.hid (HU0.out.trans (((Up.refl _).alloc _ _).trans hu)); have q1_0 := hu.keep (w.heap.size) 0 (.int .i64 n) (by simp [go_sem]); have q1_1 := hu.keep (w.heap.size) 1 (.int .i64 h) (by simp [go_sem]); have q1_2 := hu.keep (w.heap.size) 2 (.int .i64 l) (by simp [go_sem]); have q1_3 := hu.keep (w.heap.size) 3 (.slice A n k) (by simp [go_sem]); have l1_1 : w.heap.size < w1.heap.size := World.block_lt_of_cell? _ _ q1_0; clear hu)
        | (go_at_call 15; (with_reducible refine (K2.out _ HU1.out).mono ?_); rintro e w2 ⟨rfl, hu⟩; have HU2 := Lib.hid (HU1.out.trans hu); have q2_0 := hu.keep _ _ _ q1_0; have q2_1 := hu.keep _ _ _ q1_1; have q2_2 := hu.keep _ _ _ q1_2; have q2_3 := hu.keep _ _ _ q1_3; have l2_1 : w.heap.size < w2.heap.size := World.block_lt_of_cell? _ _ q2_0; clear hu q1_0 q1_1 q1_2 q1_3)
        | (go_at_call 16; (with_reducible refine (K3.out _ HU2.out).mono ?_); rintro e w3 ⟨A', k', rfl, hk', hS', hu⟩; have HU3 := Lib.hid (HU2.out.trans hu); have q3_0 := hu.keep _ _ _ q2_0; have q3_1 := hu.keep _ _ _ q2_1; have q3_2 := hu.keep _ _ _ q2_2; have q3_3 := hu.keep _ _ _ q2_3; have l3_1 : w.heap.size < w3.heap.size := World.block_lt_of_cell? _ _ q3_0; have HS3 := Lib.hid hS'; clear hS'; clear hu q2_0 q2_1 q2_2 q2_3)
        | (go_at_call 17; (with_reducible refine (K4.out _ HU3.out).mono ?_); rintro e w4 ⟨rfl, hu⟩; have HU4 := Lib.hid (HU3.out.trans hu); have q4_0 := hu.keep _ _ _ q3_0; have q4_1 := hu.keep _ _ _ q3_1; have q4_2 := hu.keep _ _ _ q3_2; have q4_3 := hu.keep _ _ _ q3_3; have l4_1 : w.heap.size < w4.heap.size := World.block_lt_of_cell? _ _ q4_0; have HS4 := Lib.hid (HS3.out.up hu); clear hu q3_0 q3_1 q3_2 q3_3)
        | (go_at_call 13; (with_reducible refine (K5.out _ (HU4.out.trans ((Up.refl _).alloc _ _))).mono ?_); rintro e w5 ⟨rfl, hu⟩; have HU5 := Lib.hid (HU4.out.trans (((Up.refl _).alloc _ _).trans hu)); have q5_0 := (((Up.refl _).alloc _ _).trans hu).keep _ _ _ q4_0; have q5_1 := (((Up.refl _).alloc _ _).trans hu).keep _ _ _ q4_1; have q5_2 := (((Up.refl _).alloc _ _).trans hu).keep _ _ _ q4_2; have q5_3 := (((Up.refl _).alloc _ _).trans hu).keep _ _ _ q4_3; have q5_4 := hu.keep (w4.heap.size) 0 (.int .i64 0) (by simp [go_sem]); have q5_5 := hu.keep (w4.heap.size) 1 (.int .i64 0) (by simp [go_sem]); have l5_1 : w.heap.size < w5.heap.size := World.block_lt_of_cell? _ _ q5_0; have l5_2 : w4.heap.size < w5.heap.size := World.block_lt_of_cell? _ _ q5_4; have HS5 := Lib.hid (HS4.out.up (((Up.refl _).alloc _ _).trans hu)); clear hu q4_0 q4_1 q4_2 q4_3)
        | (go_at_call 19; (with_reducible refine (K6.out _ HU5.out).mono ?_); rintro e w6 ⟨A2, k2, rfl, hk2, hS2, hu⟩; have HU6 := Lib.hid (HU5.out.trans hu); have q6_0 := hu.keep _ _ _ q5_0; have q6_1 := hu.keep _ _ _ q5_1; have q6_2 := hu.keep _ _ _ q5_2; have q6_3 := hu.keep _ _ _ q5_3; have q6_4 := hu.keep _ _ _ q5_4; have q6_5 := hu.keep _ _ _ q5_5; have l6_1 : w.heap.size < w6.heap.size := World.block_lt_of_cell? _ _ q6_0; have l6_2 : w4.heap.size < w6.heap.size := World.block_lt_of_cell? _ _ q6_4; have HS6 := Lib.hid (HS5.out.up hu); have HT6 := Lib.hid hS2; clear hS2; clear hu q5_0 q5_1 q5_2 q5_3 q5_4 q5_5)
        | (go_at_call 18; (with_reducible refine (K7.out _ _ _ _ _ HT6.out HS6.out).mono ?_); rintro e w7 ⟨rfl, hu⟩; have HU7 := Lib.hid (HU6.out.trans hu); have q7_0 := hu.keep _ _ _ q6_0; have q7_1 := hu.keep _ _ _ q6_1; have q7_2 := hu.keep _ _ _ q6_2; have q7_3 := hu.keep _ _ _ q6_3; have q7_4 := hu.keep _ _ _ q6_4; have q7_5 := hu.keep _ _ _ q6_5; have l7_1 : w.heap.size < w7.heap.size := World.block_lt_of_cell? _ _ q7_0; have l7_2 : w4.heap.size < w7.heap.size := World.block_lt_of_cell? _ _ q7_4; have HS7 := Lib.hid (HS6.out.up hu); clear hu q6_0 q6_1 q6_2 q6_3 q6_4 q6_5)
        | (go_at_call 12; (with_reducible refine (KA.out _).mono ?_); rintro e w8 ⟨rfl, hu⟩; have HU8 := Lib.hid (HU7.out.trans hu); have q8_0 := hu.keep _ _ _ q7_0; have q8_1 := hu.keep _ _ _ q7_1; have q8_2 := hu.keep _ _ _ q7_2; have q8_3 := hu.keep _ _ _ q7_3; have q8_4 := hu.keep _ _ _ q7_4; have q8_5 := hu.keep _ _ _ q7_5; have l8_1 : w.heap.size < w8.heap.size := World.block_lt_of_cell? _ _ q8_0; have l8_2 : w4.heap.size < w8.heap.size := World.block_lt_of_cell? _ _ q8_4; clear hu q7_0 q7_1 q7_2 q7_3 q7_4 q7_5))
      go_ret
      exact ⟨rfl, HU8.out⟩
    by_cases hj : (M.length : Int) ≤ i
    · have K4 := Lib.hid (fun W (hu : Up w W) => at_big n h k A M i hc hc' hh hM hj W (hS.up hu))
      have t1 : decide (i < 0) = false := decide_eq_false hi
      have t2 : decide ((M.length : Int) ≤ i) = true := decide_eq_true hj
      have qe : ∀ w, (Op.equalIn 10000 35 (.agg #[.int .i64 0, .int .i64 0]) (.agg #[.int .i64 0, .int .i64 0])).run Try.prog w = .ok true w := fun w => eqItem 0 0 0 0 w
      clear hi hj
      generalize M.length = l at *
      clear hS
      go_enter Try.func4, Try.ntmps4
      go_wp2_with (first
        | (go_at_call 14; (with_reducible refine (KF.out _).mono ?_); rintro e w1 ⟨rfl, hu⟩; have HU1 := Lib.hid (HU0.out.trans (((Up.refl _).alloc _ _).trans hu)); have q1_0 := hu.keep (w.heap.size) 0 (.int .i64 n) (by simp [go_sem]); have q1_1 := hu.keep (w.heap.size) 1 (.int .i64 h) (by simp [go_sem]); have q1_2 := hu.keep (w.heap.size) 2 (.int .i64 l) (by simp [go_sem]); have q1_3 := hu.keep (w.heap.size) 3 (.slice A n k) (by simp [go_sem]); have l1_1 : w.heap.size < w1.heap.size := World.block_lt_of_cell? _ _ q1_0; clear hu)
        | (go_at_call 15; (with_reducible refine (K2.out _ HU1.out).mono ?_); rintro e w2 ⟨rfl, hu⟩; have HU2 := Lib.hid (HU1.out.trans hu); have q2_0 := hu.keep _ _ _ q1_0; have q2_1 := hu.keep _ _ _ q1_1; have q2_2 := hu.keep _ _ _ q1_2; have q2_3 := hu.keep _ _ _ q1_3; have l2_1 : w.heap.size < w2.heap.size := World.block_lt_of_cell? _ _ q2_0; clear hu q1_0 q1_1 q1_2 q1_3)
        | (go_at_call 16; (with_reducible refine (K3.out _ HU2.out).mono ?_); rintro e w3 ⟨A', k', rfl, hk', hS', hu⟩; have HU3 := Lib.hid (HU2.out.trans hu); have q3_0 := hu.keep _ _ _ q2_0; have q3_1 := hu.keep _ _ _ q2_1; have q3_2 := hu.keep _ _ _ q2_2; have q3_3 := hu.keep _ _ _ q2_3; have l3_1 : w.heap.size < w3.heap.size := World.block_lt_of_cell? _ _ q3_0; have HS3 := Lib.hid hS'; clear hS'; clear hu q2_0 q2_1 q2_2 q2_3)
        | (go_at_call 17; (with_reducible refine (K4.out _ HU3.out).mono ?_); rintro e w4 ⟨rfl, hu⟩; have HU4 := Lib.hid (HU3.out.trans hu); have q4_0 := hu.keep _ _ _ q3_0; have q4_1 := hu.keep _ _ _ q3_1; have q4_2 := hu.keep _ _ _ q3_2; have q4_3 := hu.keep _ _ _ q3_3; have l4_1 : w.heap.size < w4.heap.size := World.block_lt_of_cell? _ _ q4_0; have HS4 := Lib.hid (HS3.out.up hu); clear hu q3_0 q3_1 q3_2 q3_3)
        | (go_at_call 13; (with_reducible refine (K5.out _ (HU4.out.trans ((Up.refl _).alloc _ _))).mono ?_); rintro e w5 ⟨rfl, hu⟩; have HU5 := Lib.hid (HU4.out.trans (((Up.refl _).alloc _ _).trans hu)); have q5_0 := (((Up.refl _).alloc _ _).trans hu).keep _ _ _ q4_0; have q5_1 := (((Up.refl _).alloc _ _).trans hu).keep _ _ _ q4_1; have q5_2 := (((Up.refl _).alloc _ _).trans hu).keep _ _ _ q4_2; have q5_3 := (((Up.refl _).alloc _ _).trans hu).keep _ _ _ q4_3; have q5_4 := hu.keep (w4.heap.size) 0 (.int .i64 0) (by simp [go_sem]); have q5_5 := hu.keep (w4.heap.size) 1 (.int .i64 0) (by simp [go_sem]); have l5_1 : w.heap.size < w5.heap.size := World.block_lt_of_cell? _ _ q5_0; have l5_2 : w4.heap.size < w5.heap.size := World.block_lt_of_cell? _ _ q5_4; have HS5 := Lib.hid (HS4.out.up (((Up.refl _).alloc _ _).trans hu)); clear hu q4_0 q4_1 q4_2 q4_3)
        | (go_at_call 19; (with_reducible refine (K6.out _ HU5.out).mono ?_); rintro e w6 ⟨A2, k2, rfl, hk2, hS2, hu⟩; have HU6 := Lib.hid (HU5.out.trans hu); have q6_0 := hu.keep _ _ _ q5_0; have q6_1 := hu.keep _ _ _ q5_1; have q6_2 := hu.keep _ _ _ q5_2; have q6_3 := hu.keep _ _ _ q5_3; have q6_4 := hu.keep _ _ _ q5_4; have q6_5 := hu.keep _ _ _ q5_5; have l6_1 : w.heap.size < w6.heap.size := World.block_lt_of_cell? _ _ q6_0; have l6_2 : w4.heap.size < w6.heap.size := World.block_lt_of_cell? _ _ q6_4; have HS6 := Lib.hid (HS5.out.up hu); have HT6 := Lib.hid hS2; clear hS2; clear hu q5_0 q5_1 q5_2 q5_3 q5_4 q5_5)
        | (go_at_call 18; (with_reducible refine (K7.out _ _ _ _ _ HT6.out HS6.out).mono ?_); rintro e w7 ⟨rfl, hu⟩; have HU7 := Lib.hid (HU6.out.trans hu); have q7_0 := hu.keep _ _ _ q6_0; have q7_1 := hu.keep _ _ _ q6_1; have q7_2 := hu.keep _ _ _ q6_2; have q7_3 := hu.keep _ _ _ q6_3; have q7_4 := hu.keep _ _ _ q6_4; have q7_5 := hu.keep _ _ _ q6_5; have l7_1 : w.heap.size < w7.heap.size := World.block_lt_of_cell? _ _ q7_0; have l7_2 : w4.heap.size < w7.heap.size := World.block_lt_of_cell? _ _ q7_4; have HS7 := Lib.hid (HS6.out.up hu); clear hu q6_0 q6_1 q6_2 q6_3 q6_4 q6_5)
        | (go_at_call 12; (with_reducible refine (KA.out _).mono ?_); rintro e w8 ⟨rfl, hu⟩; have HU8 := Lib.hid (HU7.out.trans hu); have q8_0 := hu.keep _ _ _ q7_0; have q8_1 := hu.keep _ _ _ q7_1; have q8_2 := hu.keep _ _ _ q7_2; have q8_3 := hu.keep _ _ _ q7_3; have q8_4 := hu.keep _ _ _ q7_4; have q8_5 := hu.keep _ _ _ q7_5; have l8_1 : w.heap.size < w8.heap.size := World.block_lt_of_cell? _ _ q8_0; have l8_2 : w4.heap.size < w8.heap.size := World.block_lt_of_cell? _ _ q8_4; clear hu q7_0 q7_1 q7_2 q7_3 q7_4 q7_5))
      go_ret
      exact ⟨rfl, HU8.out⟩
    obtain ⟨j, rfl⟩ := Int.eq_ofNat_of_zero_le (show 0 ≤ i by omega)
    have hj' : j < M.length := by omega
    have K4 := Lib.hid (fun W (hu : Up w W) => at_good n h k j A M hc hc' hh hM hj' W (hS.up hu))
    have t1 : decide ((j : Int) < 0) = false := decide_eq_false hi
    have t2 : decide (M.length ≤ j) = false := decide_eq_false (by omega)
    clear hi hj hS
    have KQ := Lib.hid (fun W A (hA : Sl W A M.length M) => hA.at_ hj')
    generalize (M.getD j (0, 0)).1 = p0 at *
    generalize (M.getD j (0, 0)).2 = p1 at *
    generalize M.length = l at *
    have qe : ∀ w, (Op.equalIn 10000 35 (.agg #[.int .i64 p0, .int .i64 p1]) (.agg #[.int .i64 p0, .int .i64 p1])).run Try.prog w = .ok true w := fun w => by rw [eqItem]; simp
    have f1 : (0 : Int) ≤ j := by omega
    have f2 : (j : Int) < l := by omega
    go_enter Try.func4, Try.ntmps4
    go_wp2_with (first
      | (go_at_call 14; (with_reducible refine (KF.out _).mono ?_); rintro e w1 ⟨rfl, hu⟩; have HU1 := Lib.hid (HU0.out.trans (((Up.refl _).alloc _ _).trans hu)); have q1_0 := hu.keep (w.heap.size) 0 (.int .i64 n) (by simp [go_sem]); have q1_1 := hu.keep (w.heap.size) 1 (.int .i64 h) (by simp [go_sem]); have q1_2 := hu.keep (w.heap.size) 2 (.int .i64 l) (by simp [go_sem]); have q1_3 := hu.keep (w.heap.size) 3 (.slice A n k) (by simp [go_sem]); have l1_1 : w.heap.size < w1.heap.size := World.block_lt_of_cell? _ _ q1_0; clear hu)
      | (go_at_call 15; (with_reducible refine (K2.out _ HU1.out).mono ?_); rintro e w2 ⟨rfl, hu⟩; have HU2 := Lib.hid (HU1.out.trans hu); have q2_0 := hu.keep _ _ _ q1_0; have q2_1 := hu.keep _ _ _ q1_1; have q2_2 := hu.keep _ _ _ q1_2; have q2_3 := hu.keep _ _ _ q1_3; have l2_1 : w.heap.size < w2.heap.size := World.block_lt_of_cell? _ _ q2_0; clear hu q1_0 q1_1 q1_2 q1_3)
      | (go_at_call 16; (with_reducible refine (K3.out _ HU2.out).mono ?_); rintro e w3 ⟨A', k', rfl, hk', hS', hu⟩; have HU3 := Lib.hid (HU2.out.trans hu); have q3_0 := hu.keep _ _ _ q2_0; have q3_1 := hu.keep _ _ _ q2_1; have q3_2 := hu.keep _ _ _ q2_2; have q3_3 := hu.keep _ _ _ q2_3; have l3_1 : w.heap.size < w3.heap.size := World.block_lt_of_cell? _ _ q3_0; have HS3 := Lib.hid hS'; clear hS'; clear hu q2_0 q2_1 q2_2 q2_3)
      | (go_at_call 17; (with_reducible refine (K4.out _ HU3.out).mono ?_); rintro e w4 ⟨rfl, hu⟩; have HU4 := Lib.hid (HU3.out.trans hu); have q4_0 := hu.keep _ _ _ q3_0; have q4_1 := hu.keep _ _ _ q3_1; have q4_2 := hu.keep _ _ _ q3_2; have q4_3 := hu.keep _ _ _ q3_3; have l4_1 : w.heap.size < w4.heap.size := World.block_lt_of_cell? _ _ q4_0; have HS4 := Lib.hid (HS3.out.up hu); clear hu q3_0 q3_1 q3_2 q3_3)
      | (go_at_call 13; (with_reducible refine (K5.out _ (HU4.out.trans ((Up.refl _).alloc _ _))).mono ?_); rintro e w5 ⟨rfl, hu⟩; have HU5 := Lib.hid (HU4.out.trans (((Up.refl _).alloc _ _).trans hu)); have q5_0 := (((Up.refl _).alloc _ _).trans hu).keep _ _ _ q4_0; have q5_1 := (((Up.refl _).alloc _ _).trans hu).keep _ _ _ q4_1; have q5_2 := (((Up.refl _).alloc _ _).trans hu).keep _ _ _ q4_2; have q5_3 := (((Up.refl _).alloc _ _).trans hu).keep _ _ _ q4_3; have q5_4 := hu.keep (w4.heap.size) 0 (.int .i64 p0) (by simp [go_sem]); have q5_5 := hu.keep (w4.heap.size) 1 (.int .i64 p1) (by simp [go_sem]); have l5_1 : w.heap.size < w5.heap.size := World.block_lt_of_cell? _ _ q5_0; have l5_2 : w4.heap.size < w5.heap.size := World.block_lt_of_cell? _ _ q5_4; have HS5 := Lib.hid (HS4.out.up (((Up.refl _).alloc _ _).trans hu)); clear hu q4_0 q4_1 q4_2 q4_3)
      | (go_at_call 19; (with_reducible refine (K6.out _ HU5.out).mono ?_); rintro e w6 ⟨A2, k2, rfl, hk2, hS2, hu⟩; have HU6 := Lib.hid (HU5.out.trans hu); have q6_0 := hu.keep _ _ _ q5_0; have q6_1 := hu.keep _ _ _ q5_1; have q6_2 := hu.keep _ _ _ q5_2; have q6_3 := hu.keep _ _ _ q5_3; have q6_4 := hu.keep _ _ _ q5_4; have q6_5 := hu.keep _ _ _ q5_5; have l6_1 : w.heap.size < w6.heap.size := World.block_lt_of_cell? _ _ q6_0; have l6_2 : w4.heap.size < w6.heap.size := World.block_lt_of_cell? _ _ q6_4; have HS6 := Lib.hid (HS5.out.up hu); have HT6 := Lib.hid hS2; clear hS2; clear hu q5_0 q5_1 q5_2 q5_3 q5_4 q5_5)
      | (go_at_call 18; (with_reducible refine (K7.out _ _ _ _ _ HT6.out HS6.out).mono ?_); rintro e w7 ⟨rfl, hu⟩; have HU7 := Lib.hid (HU6.out.trans hu); have q7_0 := hu.keep _ _ _ q6_0; have q7_1 := hu.keep _ _ _ q6_1; have q7_2 := hu.keep _ _ _ q6_2; have q7_3 := hu.keep _ _ _ q6_3; have q7_4 := hu.keep _ _ _ q6_4; have q7_5 := hu.keep _ _ _ q6_5; have l7_1 : w.heap.size < w7.heap.size := World.block_lt_of_cell? _ _ q7_0; have l7_2 : w4.heap.size < w7.heap.size := World.block_lt_of_cell? _ _ q7_4; have HS7 := Lib.hid (HS6.out.up hu); clear hu q6_0 q6_1 q6_2 q6_3 q6_4 q6_5))
    obtain ⟨b, o, rfl, d0, d1⟩ := KQ.out w7 A' HS7.out
    have SS : Hid (Up w w7 ∧ w7.cell? ⟨w4.heap.size, 0, none⟩ = some (.int .i64 p0) ∧ w7.cell? ⟨w4.heap.size, 1, none⟩ = some (.int .i64 p1) ∧ w7.cell? ⟨b, o + j * 2, none⟩ = some (.int .i64 p0) ∧ w7.cell? ⟨b, o + j * 2 + 1, none⟩ = some (.int .i64 p1)) := Lib.hid ⟨HU7.out, q7_4, q7_5, d0, d1⟩
    go_region_held3 (fun w' => Up w w' ∧ w'.cell? ⟨w4.heap.size, 0, none⟩ = some (.int .i64 p0) ∧ w'.cell? ⟨w4.heap.size, 1, none⟩ = some (.int .i64 p1) ∧ w'.cell? ⟨b, o + j * 2, none⟩ = some (.int .i64 p0) ∧ w'.cell? ⟨b, o + j * 2 + 1, none⟩ = some (.int .i64 p1))
      (first | (with_reducible exact SS.out) | (with_reducible exact keep4 (Lib.hid (Up.refl _).drew) SS.out) | (with_reducible exact keep4 (by assumption) (by assumption)))
      (first
        | (go_at_call 12; (with_reducible refine (KA.out _).mono ?_); rintro e w8 ⟨rfl, hu⟩; have HU8 := Lib.hid hu; clear hu))
    go_wp2_with fail
    go_ret
    exact ⟨rfl, And.left ‹Up w _ ∧ _›⟩

set_option maxRecDepth 100000 in
theorem ringValidate_lifted (os : Os) (started : os.Started) (H : Type) (enc : TypeId × Value → H) :
    ReturnsInHanded {} Try.checked os 4 .any (Rows.ringValidateSpec.pre6 enc Try.prog Try.f4 Rows.ringValidateRow.domain false) (Rows.ringValidateSpec.post enc Try.prog Try.f4 false true false false) := by
  refine returnsInHanded_of_change (C := Try.checked) ringValidate_own started (by kernel_rfl) Try.func4
    (ChangeSpec.witness6 (enc := enc) (C := Try.checked) false ⟨#[], #[.agg #[.int .i64 0, .int .i64 0, .int .i64 0, .slice none 0 0], .int .i64 0], []⟩ 8 (by kernel_rfl) (by kernel_rfl) (by kernel_rfl) (by kernel_rfl)) ?_
  intro W base args ds gs before hval0 hW hcnd _
  have hval : ∀ (j : Nat) t v, Try.f4.params[j]? = some t → args[j]? = some v → Value.okWide Try.prog W .any base t v := hval0
  have hW' := hW
  obtain ⟨p, q, hA0, hV, rfl, hfz, hnd⟩ := hW'
  have hA : DataW.TrodAll enc Try.prog W 0 (fun _ => true) true Try.f4.params.toList args.toList ds p := hA0
  rw [Try.params4] at hA hval
  obtain ⟨v0, vs0, d0, ds0, p0, q0, hargs, rfl, rfl, h0, r0⟩ := trodAll_cons hA
  obtain ⟨v1, vs1, d1, ds1, p1, q1, rfl, rfl, rfl, h1, r1⟩ := trodAll_cons r0
  obtain ⟨rfl, rfl, rfl⟩ := trodAll_nil r1
  obtain rfl : args = #[v0, v1] := by cases args; simp_all
  obtain ⟨rfl, rfl⟩ := trodVars_none hV
  have hlt := fun x hx => hW.lt x hx
  have k0 := h0
  obtain ⟨c0, e0, l0, n0, m0, A0, L0, rfl, hk0, hS0⟩ := open_ring (hval 0 24 v0 rfl rfl) h0
  have k1 := h1
  obtain ⟨a1, rfl, rfl, rfl, w1⟩ := open_int Try.underlying3 (hval 1 3 v1 rfl rfl) h1
  refine (ringValidate_walk c0 e0 l0 n0 m0 A0 L0 hk0 a1 w1 W hS0).mono fun e W' ⟨he, hg⟩ => ?_
  subst he
  exact ⟨_, rfl, post_of_same (pv := []) hW (fun _ _ _ => (trodAll_cons_mk (shut_bool Try.underlying4 _) trodAll_mk0)) (fun sp hsp => (trodAll_cons_mk (stay (by kernel_rfl) (of_decide_eq_true (by kernel_rfl)) k0 hg hlt (fun x hx => by first | (simp at hx; done) | simp [hx]) hsp) (trodAll_cons_mk (stay (by kernel_rfl) (of_decide_eq_true (by kernel_rfl)) k1 hg hlt (fun x hx => by first | (simp at hx; done) | simp [hx]) hsp) trodAll_mk0))) (fun _ _ => rfl) rfl
    (hg.grown.frame _) hg.grown.2.1 (ok_one (by kernel_rfl) rfl (okWide_bool_mk Try.underlying4 _))⟩

theorem ringValidate_over : Rows.ringValidateRow.holds Try.pinned (OpenSpec.ofChange Rows.ringValidateSpec) :=
  OpenClaim.holds_of_wide 4 Try.f4 rfl rfl rfl rfl rfl rfl rfl ⟨rfl, rfl, rfl, rfl, rfl⟩ rfl rfl rfl rfl rfl (by kernel_rfl) Try.func4 (by kernel_rfl)
    (of_decide_eq_true (by kernel_rfl)) (by unfold Func.isWrapper; first | (rw [if_pos (by decide +kernel)]; kernel_rfl) | (rw [if_neg (by decide +kernel)]; exact ⟨rfl, rfl⟩))
    (fun os started H enc _ => ringValidate_lifted os started H enc)

theorem ringValidate_holds : Rows.RingValidateSaid :=
  ringValidate_over
#print axioms ringValidate_holds
end Go.Proofs.Ytjedcpfipebncaa
