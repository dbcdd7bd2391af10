/- Proved: for every state, tick and value the law SumStates returns true: Validate, Advance, Add and Ask of package sum answer as the reference does. Conditions: none. -/
import Derived.Test.YtfdjhahnggdklaaRows
import Derived.Test.YtfdjhahnggdklaaZGBasem8
import Derived.Test.YtfdjhahnggdklaaZGLawm3
import Derived.Test.YtfdjhahnggdklaaZHEqm5
import Derived.Test.YtfdjhahnggdklaaZHOrdm2
import Derived.Test.YtfdjhahnggdklaaZHRVal
import Derived.Test.YtfdjhahnggdklaaZHRowm3
import Derived.Test.YtfdjhahnggdklaaZHSamem5
import Derived.Test.YtfdjhahnggdklaaZHSmallm7
import Derived.Test.YtfdjhahnggdklaaZIBasem2
import Derived.Test.YtfdjhahnggdklaaZJAll
import Derived.Test.YtfdjhahnggdklaaZJAsk
import Derived.Test.YtfdjhahnggdklaaZJAwk
import Derived.Test.YtfdjhahnggdklaaZJBase
import Derived.Test.YtfdjhahnggdklaaZJFrame
import Derived.Test.YtfdjhahnggdklaaZJSt
import Derived.Test.YtfdjhahnggdklaaZJVal
import Derived.Test.YtfdjhahnggdklaaZREasym4
import Derived.Test.YtfdjhahnggdklaaZWCmpm5
import Derived.Test.YtfdjhahnggdklaaZWGcd
import Derived.Test.YtfdjhahnggdklaaZWMathm9
import Derived.Test.YtfdjhahnggdklaaZWRDiv2
namespace Go.Proofs.Ytfdjhahnggdklaa
open Go.ChangeShapes Go.WideShapes Go.ChangeAt Go.RowKit Go.Joins
set_option linter.unusedVariables false

theorem sumStates_own : ownKnob Try.prog.godebug = none := by kernel_rfl

set_option maxHeartbeats 16000000 in
set_option maxRecDepth 100000 in
theorem sumStates_walk (v q c mx now : Int) (n k : Nat) (A : Option Addr) (L : List It) (hk : n ≤ k) (td : Int) (_ : (Lit.int .i64 td).wf = true) (d : Int) (_ : (Lit.int .i64 d).wf = true) (w : World) (hS : Sl w A n L) :
    Calls Try.prog 4 #[.agg #[.int .i64 v, .int .i64 q, .int .i64 c, .int .i64 mx, .int .i64 now, .slice A n k], .int .i64 td, .int .i64 d] w fun e w' => e = .returned (.bool true) ∧ Up w w' := by
  have KA := Lib.hid awake12_up
  have KF := Lib.hid (few12_any v q c mx now n k A)
  by_cases hf : n ≤ 300
  case neg =>
    rw [decide_eq_false (show ¬ (n : Int) ≤ 300 by omega)] at KF
    clear hS hk
    go_enter Try.func4, Try.ntmps4
    go_wp2_with (first
      | (go_at_call 12; (with_reducible refine (KF.out _).mono ?_); rintro e w1 ⟨rfl, hu⟩; have HU1 := Lib.hid (((Up.refl w).alloc _ _).trans hu); clear hu)
      | (go_at_call 11; (with_reducible refine (KA.out _).mono ?_); rintro e w2 ⟨rfl, hu⟩; have HU2 := Lib.hid (HU1.out.trans hu); clear hu))
    go_ret
    exact ⟨rfl, HU2.out⟩
  rw [decide_eq_true (show (n : Int) ≤ 300 by omega)] at KF
  have HS := Lib.hid hS
  obtain ⟨a, b, f, g, i, M, e0, h1⟩ : ∃ a b f g i M e0, advS v q c mx now td L = (a, b, f, g, i, M, e0) := ⟨_, _, _, _, _, _, _, rfl⟩
  obtain ⟨a2, b2, f2, g2, i2, N, e1, h2⟩ : ∃ a2 b2 f2 g2 i2 N e1, addS v q c mx now d L = (a2, b2, f2, g2, i2, N, e1) := ⟨_, _, _, _, _, _, _, rfl⟩
  have hn : n ≤ 50000 := by omega
  have K1 := Lib.hid (fun W (h : Sl W A n L) => adv12_all v q c mx now td n k A L hn hk h1 W h)
  have K2 := Lib.hid (fun W (h : Sl W A n L) => radv12_all v q c mx now td n k A L hn hk h1 W h)
  have K3 := Lib.hid (fun W (h : Sl W A n L) => add12_all v q c mx now d n k A L hn hk h2 W h)
  have K4 := Lib.hid (fun W (h : Sl W A n L) => radd12_all v q c mx now d n k A L hn hk h2 W h)
  have KK1 := Lib.hid (fun W (h : Sl W A n L) => ask12_up v q c mx now n k A L hn W h)
  have KK2 := Lib.hid (fun W (h : Sl W A n L) => rask12_up v q c mx now n k A L hn W h)
  obtain ⟨x0, x1, x2, x3, x4, x5, e2, h3⟩ := akVS_agg (stS v q c mx now L) L
  rw [h3] at KK1 KK2
  have K5 := Lib.hid (fun W (h : Sl W A n L) => validate12_up v q c mx now n k A L hn W h)
  have K6 := Lib.hid (fun W (h : Sl W A n L) => rvalidate12_up v q c mx now n k A L hn W h)
  have K7 := Lib.hid (fun W A1 A2 k1 k2 (hl : M.length ≤ 1000000) (hA : Sl W A1 M.length M) (hB : Sl W A2 M.length M) => same12_t a b f g i M.length k1 k2 A1 A2 M hl W hA hB)
  have K8 := Lib.hid (fun W A1 A2 k1 k2 (hl : N.length ≤ 1000000) (hA : Sl W A1 N.length N) (hB : Sl W A2 N.length N) => same12_t a2 b2 f2 g2 i2 N.length k1 k2 A1 A2 N hl W hA hB)
  generalize stSE v q c mx now L = y at K5 K6
  clear h1 h2 h3 hS hk
  generalize M.length = m at *
  generalize N.length = o at *
  have tt1 : (y == y) = true := by simp
  have tt2 : (e0 == e0) = true := by simp
  have tt3 : (e1 == e1) = true := by simp
  have tt4 : (e2 == e2) = true := by simp
  have qe := fun W => eqB6 x0 x1 x2 x3 x4 x5 W
  go_enter Try.func4, Try.ntmps4
  go_wp2_with (first
    | (go_at_call 12; (with_reducible refine (KF.out _).mono ?_); rintro e w0 ⟨rfl, hu⟩; have HU0 := Lib.hid (((Up.refl w).alloc #[.int .i64 v, .int .i64 q, .int .i64 c, .int .i64 mx, .int .i64 now, .slice A n k] 24).trans hu); have s0_0 := hu.keep w.heap.size 0 (.int .i64 v) (by simp [go_sem]); have s0_1 := hu.keep w.heap.size 1 (.int .i64 q) (by simp [go_sem]); have s0_2 := hu.keep w.heap.size 2 (.int .i64 c) (by simp [go_sem]); have s0_3 := hu.keep w.heap.size 3 (.int .i64 mx) (by simp [go_sem]); have s0_4 := hu.keep w.heap.size 4 (.int .i64 now) (by simp [go_sem]); have s0_5 := hu.keep w.heap.size 5 (.slice A n k) (by simp [go_sem]); have l0 : w.heap.size < w0.heap.size := World.block_lt_of_cell? _ _ s0_0; clear hu)
    | (go_at_call 13; (with_reducible refine (K1.out _ (HS.out.up (HU0.out))).mono ?_); rintro e w1 ⟨A1, k1, rfl, hq1, hM1, hu⟩; have hv := (Up.refl w0).trans hu; have HV1 := Lib.hid hv; have HU1 := Lib.hid (HU0.out.trans hv); have HM1 := Lib.hid hM1; have HQ1 := Lib.hid hq1; have s1_0 := hv.keep _ _ _ s0_0; have s1_1 := hv.keep _ _ _ s0_1; have s1_2 := hv.keep _ _ _ s0_2; have s1_3 := hv.keep _ _ _ s0_3; have s1_4 := hv.keep _ _ _ s0_4; have s1_5 := hv.keep _ _ _ s0_5; have l1 : w.heap.size < w1.heap.size := World.block_lt_of_cell? _ _ s1_0; clear hu hv hM1 hq1 s0_0 s0_1 s0_2 s0_3 s0_4 s0_5)
    | (go_at_call 14; (with_reducible refine (K2.out _ (HS.out.up (HU1.out.alloc _ _))).mono ?_); rintro e w2 ⟨A2, k2, rfl, hq2, hM2, hu⟩; have hv := ((Up.refl w1).alloc #[.int .i64 a, .int .i64 b, .int .i64 f, .int .i64 g, .int .i64 i, .slice A1 m k1] 24).trans hu; have HV2 := Lib.hid hv; have HU2 := Lib.hid (HU1.out.trans hv); have HM2 := Lib.hid hM2; have HQ2 := Lib.hid hq2; have s2_0 := hv.keep _ _ _ s1_0; have s2_1 := hv.keep _ _ _ s1_1; have s2_2 := hv.keep _ _ _ s1_2; have s2_3 := hv.keep _ _ _ s1_3; have s2_4 := hv.keep _ _ _ s1_4; have s2_5 := hv.keep _ _ _ s1_5; have r2_1_0 := hu.keep w1.heap.size 0 (.int .i64 a) (by simp [go_sem]); have r2_1_1 := hu.keep w1.heap.size 1 (.int .i64 b) (by simp [go_sem]); have r2_1_2 := hu.keep w1.heap.size 2 (.int .i64 f) (by simp [go_sem]); have r2_1_3 := hu.keep w1.heap.size 3 (.int .i64 g) (by simp [go_sem]); have r2_1_4 := hu.keep w1.heap.size 4 (.int .i64 i) (by simp [go_sem]); have r2_1_5 := hu.keep w1.heap.size 5 (.slice A1 m k1) (by simp [go_sem]); have l2 : w.heap.size < w2.heap.size := World.block_lt_of_cell? _ _ s2_0; clear hu hv hM2 hq2 s1_0 s1_1 s1_2 s1_3 s1_4 s1_5)
    | (go_at_call 15; (with_reducible refine (K3.out _ (HS.out.up (HU2.out.alloc _ _))).mono ?_); rintro e w3 ⟨A3, k3, rfl, hq3, hM3, hu⟩; have hv := ((Up.refl w2).alloc #[.int .i64 a, .int .i64 b, .int .i64 f, .int .i64 g, .int .i64 i, .slice A2 m k2] 24).trans hu; have HV3 := Lib.hid hv; have HU3 := Lib.hid (HU2.out.trans hv); have HM3 := Lib.hid hM3; have HQ3 := Lib.hid hq3; have s3_0 := hv.keep _ _ _ s2_0; have s3_1 := hv.keep _ _ _ s2_1; have s3_2 := hv.keep _ _ _ s2_2; have s3_3 := hv.keep _ _ _ s2_3; have s3_4 := hv.keep _ _ _ s2_4; have s3_5 := hv.keep _ _ _ s2_5; have r3_1_0 := hv.keep _ _ _ r2_1_0; have r3_1_1 := hv.keep _ _ _ r2_1_1; have r3_1_2 := hv.keep _ _ _ r2_1_2; have r3_1_3 := hv.keep _ _ _ r2_1_3; have r3_1_4 := hv.keep _ _ _ r2_1_4; have r3_1_5 := hv.keep _ _ _ r2_1_5; have r3_2_0 := hu.keep w2.heap.size 0 (.int .i64 a) (by simp [go_sem]); have r3_2_1 := hu.keep w2.heap.size 1 (.int .i64 b) (by simp [go_sem]); have r3_2_2 := hu.keep w2.heap.size 2 (.int .i64 f) (by simp [go_sem]); have r3_2_3 := hu.keep w2.heap.size 3 (.int .i64 g) (by simp [go_sem]); have r3_2_4 := hu.keep w2.heap.size 4 (.int .i64 i) (by simp [go_sem]); have r3_2_5 := hu.keep w2.heap.size 5 (.slice A2 m k2) (by simp [go_sem]); have l3 : w.heap.size < w3.heap.size := World.block_lt_of_cell? _ _ s3_0; clear hu hv hM3 hq3 s2_0 s2_1 s2_2 s2_3 s2_4 s2_5 r2_1_0 r2_1_1 r2_1_2 r2_1_3 r2_1_4 r2_1_5)
    | (go_at_call 16; (with_reducible refine (K4.out _ (HS.out.up (HU3.out.alloc _ _))).mono ?_); rintro e w4 ⟨A4, k4, rfl, hq4, hM4, hu⟩; have hv := ((Up.refl w3).alloc #[.int .i64 a2, .int .i64 b2, .int .i64 f2, .int .i64 g2, .int .i64 i2, .slice A3 o k3] 24).trans hu; have HV4 := Lib.hid hv; have HU4 := Lib.hid (HU3.out.trans hv); have HM4 := Lib.hid hM4; have HQ4 := Lib.hid hq4; have s4_0 := hv.keep _ _ _ s3_0; have s4_1 := hv.keep _ _ _ s3_1; have s4_2 := hv.keep _ _ _ s3_2; have s4_3 := hv.keep _ _ _ s3_3; have s4_4 := hv.keep _ _ _ s3_4; have s4_5 := hv.keep _ _ _ s3_5; have r4_1_0 := hv.keep _ _ _ r3_1_0; have r4_1_1 := hv.keep _ _ _ r3_1_1; have r4_1_2 := hv.keep _ _ _ r3_1_2; have r4_1_3 := hv.keep _ _ _ r3_1_3; have r4_1_4 := hv.keep _ _ _ r3_1_4; have r4_1_5 := hv.keep _ _ _ r3_1_5; have r4_2_0 := hv.keep _ _ _ r3_2_0; have r4_2_1 := hv.keep _ _ _ r3_2_1; have r4_2_2 := hv.keep _ _ _ r3_2_2; have r4_2_3 := hv.keep _ _ _ r3_2_3; have r4_2_4 := hv.keep _ _ _ r3_2_4; have r4_2_5 := hv.keep _ _ _ r3_2_5; have r4_3_0 := hu.keep w3.heap.size 0 (.int .i64 a2) (by simp [go_sem]); have r4_3_1 := hu.keep w3.heap.size 1 (.int .i64 b2) (by simp [go_sem]); have r4_3_2 := hu.keep w3.heap.size 2 (.int .i64 f2) (by simp [go_sem]); have r4_3_3 := hu.keep w3.heap.size 3 (.int .i64 g2) (by simp [go_sem]); have r4_3_4 := hu.keep w3.heap.size 4 (.int .i64 i2) (by simp [go_sem]); have r4_3_5 := hu.keep w3.heap.size 5 (.slice A3 o k3) (by simp [go_sem]); have l4 : w.heap.size < w4.heap.size := World.block_lt_of_cell? _ _ s4_0; clear hu hv hM4 hq4 s3_0 s3_1 s3_2 s3_3 s3_4 s3_5 r3_1_0 r3_1_1 r3_1_2 r3_1_3 r3_1_4 r3_1_5 r3_2_0 r3_2_1 r3_2_2 r3_2_3 r3_2_4 r3_2_5)
    | (go_at_call 17; (with_reducible refine (KK1.out _ (HS.out.up (HU4.out.alloc _ _))).mono ?_); rintro e w5 ⟨rfl, hu⟩; have hv := ((Up.refl w4).alloc #[.int .i64 a2, .int .i64 b2, .int .i64 f2, .int .i64 g2, .int .i64 i2, .slice A4 o k4] 24).trans hu; have HV5 := Lib.hid hv; have HU5 := Lib.hid (HU4.out.trans hv); have s5_0 := hv.keep _ _ _ s4_0; have s5_1 := hv.keep _ _ _ s4_1; have s5_2 := hv.keep _ _ _ s4_2; have s5_3 := hv.keep _ _ _ s4_3; have s5_4 := hv.keep _ _ _ s4_4; have s5_5 := hv.keep _ _ _ s4_5; have r5_1_0 := hv.keep _ _ _ r4_1_0; have r5_1_1 := hv.keep _ _ _ r4_1_1; have r5_1_2 := hv.keep _ _ _ r4_1_2; have r5_1_3 := hv.keep _ _ _ r4_1_3; have r5_1_4 := hv.keep _ _ _ r4_1_4; have r5_1_5 := hv.keep _ _ _ r4_1_5; have r5_2_0 := hv.keep _ _ _ r4_2_0; have r5_2_1 := hv.keep _ _ _ r4_2_1; have r5_2_2 := hv.keep _ _ _ r4_2_2; have r5_2_3 := hv.keep _ _ _ r4_2_3; have r5_2_4 := hv.keep _ _ _ r4_2_4; have r5_2_5 := hv.keep _ _ _ r4_2_5; have r5_3_0 := hv.keep _ _ _ r4_3_0; have r5_3_1 := hv.keep _ _ _ r4_3_1; have r5_3_2 := hv.keep _ _ _ r4_3_2; have r5_3_3 := hv.keep _ _ _ r4_3_3; have r5_3_4 := hv.keep _ _ _ r4_3_4; have r5_3_5 := hv.keep _ _ _ r4_3_5; have r5_4_0 := hu.keep w4.heap.size 0 (.int .i64 a2) (by simp [go_sem]); have r5_4_1 := hu.keep w4.heap.size 1 (.int .i64 b2) (by simp [go_sem]); have r5_4_2 := hu.keep w4.heap.size 2 (.int .i64 f2) (by simp [go_sem]); have r5_4_3 := hu.keep w4.heap.size 3 (.int .i64 g2) (by simp [go_sem]); have r5_4_4 := hu.keep w4.heap.size 4 (.int .i64 i2) (by simp [go_sem]); have r5_4_5 := hu.keep w4.heap.size 5 (.slice A4 o k4) (by simp [go_sem]); have l5 : w.heap.size < w5.heap.size := World.block_lt_of_cell? _ _ s5_0; clear hu hv s4_0 s4_1 s4_2 s4_3 s4_4 s4_5 r4_1_0 r4_1_1 r4_1_2 r4_1_3 r4_1_4 r4_1_5 r4_2_0 r4_2_1 r4_2_2 r4_2_3 r4_2_4 r4_2_5 r4_3_0 r4_3_1 r4_3_2 r4_3_3 r4_3_4 r4_3_5)
    | (go_at_call 18; (with_reducible refine (KK2.out _ (HS.out.up (HU5.out.alloc _ _))).mono ?_); rintro e w6 ⟨rfl, hu⟩; have hv := ((Up.refl w5).alloc #[.int .i64 x0, .int .i64 x1, .int .i64 x2, .int .i64 x3, .int .i64 x4, .int .i64 x5] 36).trans hu; have HV6 := Lib.hid hv; have HU6 := Lib.hid (HU5.out.trans hv); have s6_0 := hv.keep _ _ _ s5_0; have s6_1 := hv.keep _ _ _ s5_1; have s6_2 := hv.keep _ _ _ s5_2; have s6_3 := hv.keep _ _ _ s5_3; have s6_4 := hv.keep _ _ _ s5_4; have s6_5 := hv.keep _ _ _ s5_5; have r6_1_0 := hv.keep _ _ _ r5_1_0; have r6_1_1 := hv.keep _ _ _ r5_1_1; have r6_1_2 := hv.keep _ _ _ r5_1_2; have r6_1_3 := hv.keep _ _ _ r5_1_3; have r6_1_4 := hv.keep _ _ _ r5_1_4; have r6_1_5 := hv.keep _ _ _ r5_1_5; have r6_2_0 := hv.keep _ _ _ r5_2_0; have r6_2_1 := hv.keep _ _ _ r5_2_1; have r6_2_2 := hv.keep _ _ _ r5_2_2; have r6_2_3 := hv.keep _ _ _ r5_2_3; have r6_2_4 := hv.keep _ _ _ r5_2_4; have r6_2_5 := hv.keep _ _ _ r5_2_5; have r6_3_0 := hv.keep _ _ _ r5_3_0; have r6_3_1 := hv.keep _ _ _ r5_3_1; have r6_3_2 := hv.keep _ _ _ r5_3_2; have r6_3_3 := hv.keep _ _ _ r5_3_3; have r6_3_4 := hv.keep _ _ _ r5_3_4; have r6_3_5 := hv.keep _ _ _ r5_3_5; have r6_4_0 := hv.keep _ _ _ r5_4_0; have r6_4_1 := hv.keep _ _ _ r5_4_1; have r6_4_2 := hv.keep _ _ _ r5_4_2; have r6_4_3 := hv.keep _ _ _ r5_4_3; have r6_4_4 := hv.keep _ _ _ r5_4_4; have r6_4_5 := hv.keep _ _ _ r5_4_5; have r6_5_0 := hu.keep w5.heap.size 0 (.int .i64 x0) (by simp [go_sem]); have r6_5_1 := hu.keep w5.heap.size 1 (.int .i64 x1) (by simp [go_sem]); have r6_5_2 := hu.keep w5.heap.size 2 (.int .i64 x2) (by simp [go_sem]); have r6_5_3 := hu.keep w5.heap.size 3 (.int .i64 x3) (by simp [go_sem]); have r6_5_4 := hu.keep w5.heap.size 4 (.int .i64 x4) (by simp [go_sem]); have r6_5_5 := hu.keep w5.heap.size 5 (.int .i64 x5) (by simp [go_sem]); have l6 : w.heap.size < w6.heap.size := World.block_lt_of_cell? _ _ s6_0; clear hu hv s5_0 s5_1 s5_2 s5_3 s5_4 s5_5 r5_1_0 r5_1_1 r5_1_2 r5_1_3 r5_1_4 r5_1_5 r5_2_0 r5_2_1 r5_2_2 r5_2_3 r5_2_4 r5_2_5 r5_3_0 r5_3_1 r5_3_2 r5_3_3 r5_3_4 r5_3_5 r5_4_0 r5_4_1 r5_4_2 r5_4_3 r5_4_4 r5_4_5))
  obtain ⟨w7, hw7⟩ : ∃ z, z = w6.alloc (.cells #[.int .i64 x0, .int .i64 x1, .int .i64 x2, .int .i64 x3, .int .i64 x4, .int .i64 x5] 36) := ⟨_, rfl⟩
  rw [← hw7]
  have hv : Up w6 w7 := by rw [hw7]; exact (Up.refl _).alloc _ _
  have z0_0 := hv.keep _ _ _ s6_0
  have z0_1 := hv.keep _ _ _ s6_1
  have z0_2 := hv.keep _ _ _ s6_2
  have z0_3 := hv.keep _ _ _ s6_3
  have z0_4 := hv.keep _ _ _ s6_4
  have z0_5 := hv.keep _ _ _ s6_5
  have z1_0 := hv.keep _ _ _ r6_1_0
  have z1_1 := hv.keep _ _ _ r6_1_1
  have z1_2 := hv.keep _ _ _ r6_1_2
  have z1_3 := hv.keep _ _ _ r6_1_3
  have z1_4 := hv.keep _ _ _ r6_1_4
  have z1_5 := hv.keep _ _ _ r6_1_5
  have z2_0 := hv.keep _ _ _ r6_2_0
  have z2_1 := hv.keep _ _ _ r6_2_1
  have z2_2 := hv.keep _ _ _ r6_2_2
  have z2_3 := hv.keep _ _ _ r6_2_3
  have z2_4 := hv.keep _ _ _ r6_2_4
  have z2_5 := hv.keep _ _ _ r6_2_5
  have z3_0 := hv.keep _ _ _ r6_3_0
  have z3_1 := hv.keep _ _ _ r6_3_1
  have z3_2 := hv.keep _ _ _ r6_3_2
  have z3_3 := hv.keep _ _ _ r6_3_3
  have z3_4 := hv.keep _ _ _ r6_3_4
  have z3_5 := hv.keep _ _ _ r6_3_5
  have z4_0 := hv.keep _ _ _ r6_4_0
  have z4_1 := hv.keep _ _ _ r6_4_1
  have z4_2 := hv.keep _ _ _ r6_4_2
  have z4_3 := hv.keep _ _ _ r6_4_3
  have z4_4 := hv.keep _ _ _ r6_4_4
  have z4_5 := hv.keep _ _ _ r6_4_5
  have z5_0 := hv.keep _ _ _ r6_5_0
  have z5_1 := hv.keep _ _ _ r6_5_1
  have z5_2 := hv.keep _ _ _ r6_5_2
  have z5_3 := hv.keep _ _ _ r6_5_3
  have z5_4 := hv.keep _ _ _ r6_5_4
  have z5_5 := hv.keep _ _ _ r6_5_5
  have z6_0 : w7.cell? ⟨w6.heap.size, 0, none⟩ = some (.int .i64 x0) := by rw [hw7]; simp [go_sem]
  have z6_1 : w7.cell? ⟨w6.heap.size, 1, none⟩ = some (.int .i64 x1) := by rw [hw7]; simp [go_sem]
  have z6_2 : w7.cell? ⟨w6.heap.size, 2, none⟩ = some (.int .i64 x2) := by rw [hw7]; simp [go_sem]
  have z6_3 : w7.cell? ⟨w6.heap.size, 3, none⟩ = some (.int .i64 x3) := by rw [hw7]; simp [go_sem]
  have z6_4 : w7.cell? ⟨w6.heap.size, 4, none⟩ = some (.int .i64 x4) := by rw [hw7]; simp [go_sem]
  have z6_5 : w7.cell? ⟨w6.heap.size, 5, none⟩ = some (.int .i64 x5) := by rw [hw7]; simp [go_sem]
  have HU7 := Lib.hid (HU6.out.trans hv)
  have HS7 := Lib.hid (HS.out.up HU7.out)
  have HP1 := Lib.hid (HM1.out.up (HV2.out.trans (HV3.out.trans (HV4.out.trans (HV5.out.trans (HV6.out.trans hv))))))
  have HP2 := Lib.hid (HM2.out.up (HV3.out.trans (HV4.out.trans (HV5.out.trans (HV6.out.trans hv)))))
  have HP3 := Lib.hid (HM3.out.up (HV4.out.trans (HV5.out.trans (HV6.out.trans hv))))
  have HP4 := Lib.hid (HM4.out.up (HV5.out.trans (HV6.out.trans hv)))
  clear hw7
  have HSS : Hid (Up w7 w7 ∧ w7.cell? ⟨w.heap.size, 0, none⟩ = some (.int .i64 v) ∧ w7.cell? ⟨w.heap.size, 1, none⟩ = some (.int .i64 q) ∧ w7.cell? ⟨w.heap.size, 2, none⟩ = some (.int .i64 c) ∧ w7.cell? ⟨w.heap.size, 3, none⟩ = some (.int .i64 mx) ∧ w7.cell? ⟨w.heap.size, 4, none⟩ = some (.int .i64 now) ∧ w7.cell? ⟨w.heap.size, 5, none⟩ = some (.slice A n k) ∧ w7.cell? ⟨w1.heap.size, 0, none⟩ = some (.int .i64 a) ∧ w7.cell? ⟨w1.heap.size, 1, none⟩ = some (.int .i64 b) ∧ w7.cell? ⟨w1.heap.size, 2, none⟩ = some (.int .i64 f) ∧ w7.cell? ⟨w1.heap.size, 3, none⟩ = some (.int .i64 g) ∧ w7.cell? ⟨w1.heap.size, 4, none⟩ = some (.int .i64 i) ∧ w7.cell? ⟨w1.heap.size, 5, none⟩ = some (.slice A1 m k1) ∧ w7.cell? ⟨w2.heap.size, 0, none⟩ = some (.int .i64 a) ∧ w7.cell? ⟨w2.heap.size, 1, none⟩ = some (.int .i64 b) ∧ w7.cell? ⟨w2.heap.size, 2, none⟩ = some (.int .i64 f) ∧ w7.cell? ⟨w2.heap.size, 3, none⟩ = some (.int .i64 g) ∧ w7.cell? ⟨w2.heap.size, 4, none⟩ = some (.int .i64 i) ∧ w7.cell? ⟨w2.heap.size, 5, none⟩ = some (.slice A2 m k2) ∧ w7.cell? ⟨w3.heap.size, 0, none⟩ = some (.int .i64 a2) ∧ w7.cell? ⟨w3.heap.size, 1, none⟩ = some (.int .i64 b2) ∧ w7.cell? ⟨w3.heap.size, 2, none⟩ = some (.int .i64 f2) ∧ w7.cell? ⟨w3.heap.size, 3, none⟩ = some (.int .i64 g2) ∧ w7.cell? ⟨w3.heap.size, 4, none⟩ = some (.int .i64 i2) ∧ w7.cell? ⟨w3.heap.size, 5, none⟩ = some (.slice A3 o k3) ∧ w7.cell? ⟨w4.heap.size, 0, none⟩ = some (.int .i64 a2) ∧ w7.cell? ⟨w4.heap.size, 1, none⟩ = some (.int .i64 b2) ∧ w7.cell? ⟨w4.heap.size, 2, none⟩ = some (.int .i64 f2) ∧ w7.cell? ⟨w4.heap.size, 3, none⟩ = some (.int .i64 g2) ∧ w7.cell? ⟨w4.heap.size, 4, none⟩ = some (.int .i64 i2) ∧ w7.cell? ⟨w4.heap.size, 5, none⟩ = some (.slice A4 o k4) ∧ w7.cell? ⟨w5.heap.size, 0, none⟩ = some (.int .i64 x0) ∧ w7.cell? ⟨w5.heap.size, 1, none⟩ = some (.int .i64 x1) ∧ w7.cell? ⟨w5.heap.size, 2, none⟩ = some (.int .i64 x2) ∧ w7.cell? ⟨w5.heap.size, 3, none⟩ = some (.int .i64 x3) ∧ w7.cell? ⟨w5.heap.size, 4, none⟩ = some (.int .i64 x4) ∧ w7.cell? ⟨w5.heap.size, 5, none⟩ = some (.int .i64 x5) ∧ w7.cell? ⟨w6.heap.size, 0, none⟩ = some (.int .i64 x0) ∧ w7.cell? ⟨w6.heap.size, 1, none⟩ = some (.int .i64 x1) ∧ w7.cell? ⟨w6.heap.size, 2, none⟩ = some (.int .i64 x2) ∧ w7.cell? ⟨w6.heap.size, 3, none⟩ = some (.int .i64 x3) ∧ w7.cell? ⟨w6.heap.size, 4, none⟩ = some (.int .i64 x4) ∧ w7.cell? ⟨w6.heap.size, 5, none⟩ = some (.int .i64 x5)) := Lib.hid ⟨Up.refl _, z0_0, z0_1, z0_2, z0_3, z0_4, z0_5, z1_0, z1_1, z1_2, z1_3, z1_4, z1_5, z2_0, z2_1, z2_2, z2_3, z2_4, z2_5, z3_0, z3_1, z3_2, z3_3, z3_4, z3_5, z4_0, z4_1, z4_2, z4_3, z4_4, z4_5, z5_0, z5_1, z5_2, z5_3, z5_4, z5_5, z6_0, z6_1, z6_2, z6_3, z6_4, z6_5⟩
  clear hv z0_0 z0_1 z0_2 z0_3 z0_4 z0_5 z1_0 z1_1 z1_2 z1_3 z1_4 z1_5 z2_0 z2_1 z2_2 z2_3 z2_4 z2_5 z3_0 z3_1 z3_2 z3_3 z3_4 z3_5 z4_0 z4_1 z4_2 z4_3 z4_4 z4_5 z5_0 z5_1 z5_2 z5_3 z5_4 z5_5 z6_0 z6_1 z6_2 z6_3 z6_4 z6_5 s6_0 s6_1 s6_2 s6_3 s6_4 s6_5 r6_1_0 r6_1_1 r6_1_2 r6_1_3 r6_1_4 r6_1_5 r6_2_0 r6_2_1 r6_2_2 r6_2_3 r6_2_4 r6_2_5 r6_3_0 r6_3_1 r6_3_2 r6_3_3 r6_3_4 r6_3_5 r6_4_0 r6_4_1 r6_4_2 r6_4_3 r6_4_4 r6_4_5 r6_5_0 r6_5_1 r6_5_2 r6_5_3 r6_5_4 r6_5_5
  go_region_held3 (fun w' => Up w7 w' ∧ w'.cell? ⟨w.heap.size, 0, none⟩ = some (.int .i64 v) ∧ w'.cell? ⟨w.heap.size, 1, none⟩ = some (.int .i64 q) ∧ w'.cell? ⟨w.heap.size, 2, none⟩ = some (.int .i64 c) ∧ w'.cell? ⟨w.heap.size, 3, none⟩ = some (.int .i64 mx) ∧ w'.cell? ⟨w.heap.size, 4, none⟩ = some (.int .i64 now) ∧ w'.cell? ⟨w.heap.size, 5, none⟩ = some (.slice A n k) ∧ w'.cell? ⟨w1.heap.size, 0, none⟩ = some (.int .i64 a) ∧ w'.cell? ⟨w1.heap.size, 1, none⟩ = some (.int .i64 b) ∧ w'.cell? ⟨w1.heap.size, 2, none⟩ = some (.int .i64 f) ∧ w'.cell? ⟨w1.heap.size, 3, none⟩ = some (.int .i64 g) ∧ w'.cell? ⟨w1.heap.size, 4, none⟩ = some (.int .i64 i) ∧ w'.cell? ⟨w1.heap.size, 5, none⟩ = some (.slice A1 m k1) ∧ w'.cell? ⟨w2.heap.size, 0, none⟩ = some (.int .i64 a) ∧ w'.cell? ⟨w2.heap.size, 1, none⟩ = some (.int .i64 b) ∧ w'.cell? ⟨w2.heap.size, 2, none⟩ = some (.int .i64 f) ∧ w'.cell? ⟨w2.heap.size, 3, none⟩ = some (.int .i64 g) ∧ w'.cell? ⟨w2.heap.size, 4, none⟩ = some (.int .i64 i) ∧ w'.cell? ⟨w2.heap.size, 5, none⟩ = some (.slice A2 m k2) ∧ w'.cell? ⟨w3.heap.size, 0, none⟩ = some (.int .i64 a2) ∧ w'.cell? ⟨w3.heap.size, 1, none⟩ = some (.int .i64 b2) ∧ w'.cell? ⟨w3.heap.size, 2, none⟩ = some (.int .i64 f2) ∧ w'.cell? ⟨w3.heap.size, 3, none⟩ = some (.int .i64 g2) ∧ w'.cell? ⟨w3.heap.size, 4, none⟩ = some (.int .i64 i2) ∧ w'.cell? ⟨w3.heap.size, 5, none⟩ = some (.slice A3 o k3) ∧ w'.cell? ⟨w4.heap.size, 0, none⟩ = some (.int .i64 a2) ∧ w'.cell? ⟨w4.heap.size, 1, none⟩ = some (.int .i64 b2) ∧ w'.cell? ⟨w4.heap.size, 2, none⟩ = some (.int .i64 f2) ∧ w'.cell? ⟨w4.heap.size, 3, none⟩ = some (.int .i64 g2) ∧ w'.cell? ⟨w4.heap.size, 4, none⟩ = some (.int .i64 i2) ∧ w'.cell? ⟨w4.heap.size, 5, none⟩ = some (.slice A4 o k4) ∧ w'.cell? ⟨w5.heap.size, 0, none⟩ = some (.int .i64 x0) ∧ w'.cell? ⟨w5.heap.size, 1, none⟩ = some (.int .i64 x1) ∧ w'.cell? ⟨w5.heap.size, 2, none⟩ = some (.int .i64 x2) ∧ w'.cell? ⟨w5.heap.size, 3, none⟩ = some (.int .i64 x3) ∧ w'.cell? ⟨w5.heap.size, 4, none⟩ = some (.int .i64 x4) ∧ w'.cell? ⟨w5.heap.size, 5, none⟩ = some (.int .i64 x5) ∧ w'.cell? ⟨w6.heap.size, 0, none⟩ = some (.int .i64 x0) ∧ w'.cell? ⟨w6.heap.size, 1, none⟩ = some (.int .i64 x1) ∧ w'.cell? ⟨w6.heap.size, 2, none⟩ = some (.int .i64 x2) ∧ w'.cell? ⟨w6.heap.size, 3, none⟩ = some (.int .i64 x3) ∧ w'.cell? ⟨w6.heap.size, 4, none⟩ = some (.int .i64 x4) ∧ w'.cell? ⟨w6.heap.size, 5, none⟩ = some (.int .i64 x5))
    (repeat (first | (with_reducible exact HSS.out) | (with_reducible exact keepS12 (by assumption) (by assumption)) | (with_reducible exact Hid.out (by assumption)) | (with_reducible refine keepS12 (Lib.hid (Up.refl _).drew) ?_)))
    (first
      | (go_at_call 19; (with_reducible refine (K5.out _ (HS7.out.up (by assumption : Up w7 _ ∧ _).1)).mono ?_); rintro e v6 ⟨rfl, hu⟩; have HU8 := Lib.hid hu; have HX8 := Lib.hid (keepS12 HU8 (by assumption)); clear hu)
      | (go_at_call 20; (with_reducible refine (K6.out _ (HS7.out.up (by assumption : Up w7 _ ∧ _).1)).mono ?_); rintro e v7 ⟨rfl, hu⟩; have HU9 := Lib.hid hu; have HX9 := Lib.hid (keepS12 HU9 (by assumption)); clear hu)
      | (go_at_call 10; (with_reducible refine (K7.out _ A1 A2 k1 k2 (by have := HQ1.out; omega) (HP1.out.up (by assumption : Up w7 _ ∧ _).1) (HP2.out.up (by assumption : Up w7 _ ∧ _).1)).mono ?_); rintro e v8 ⟨rfl, hu⟩; have HU10 := Lib.hid hu; have HX10 := Lib.hid (keepS12 HU10 (by assumption)); clear hu)
      | (go_at_call 10; (with_reducible refine (K8.out _ A3 A4 k3 k4 (by have := HQ3.out; omega) (HP3.out.up (by assumption : Up w7 _ ∧ _).1) (HP4.out.up (by assumption : Up w7 _ ∧ _).1)).mono ?_); rintro e v9 ⟨rfl, hu⟩; have HU11 := Lib.hid hu; have HX11 := Lib.hid (keepS12 HU11 (by assumption)); clear hu)
      | (go_at_call 11; (with_reducible refine (KA.out _).mono ?_); rintro e v10 ⟨rfl, hu⟩; have HU12 := Lib.hid hu; have HX12 := Lib.hid (keepS12 HU12 (by assumption)); clear hu))
  clear ‹Up w7 _ ∧ _›
  go_wp2_with fail
  go_ret
  exact ⟨rfl, HU7.out.trans HX12.out.1⟩

set_option maxRecDepth 100000 in
theorem sumStates_lifted (os : Os) (started : os.Started) (H : Type) (enc : TypeId × Value → H) :
    ReturnsInHanded {} Try.checked os 4 .any (Rows.sumStatesSpec.pre6 enc Try.prog Try.f4 Rows.sumStatesRow.domain false) (Rows.sumStatesSpec.post enc Try.prog Try.f4 false true false false) := by
  refine returnsInHanded_of_change_sized (C := Try.checked) sumStates_own started (by kernel_rfl) Try.func4
    (ChangeSpec.witness6 (enc := enc) (C := Try.checked) false ⟨#[], #[.agg #[.int .i64 0, .int .i64 0, .int .i64 0, .int .i64 0, .int .i64 0, .slice none 0 0], .int .i64 0, .int .i64 0], []⟩ 8 (by kernel_rfl) (by kernel_rfl) (by kernel_rfl) (by kernel_rfl)) ?_
  intro W base args ds gs before hval0 hW hcnd hsz0 _
  have hval : ∀ (j : Nat) t v, Try.f4.params[j]? = some t → args[j]? = some v → Value.okWide Try.prog W .any base t v := hval0
  have hW' := hW
  obtain ⟨p, q, hA0, hV, rfl, hfz, hnd⟩ := hW'
  have hA : DataW.TrodAll enc Try.prog W 0 (fun _ => true) true Try.f4.params.toList args.toList ds p := hA0
  rw [Try.params4] at hA hval
  obtain ⟨v0, vs0, d0, ds0, p0, q0, hargs, rfl, rfl, h0, r0⟩ := trodAll_cons hA
  obtain ⟨v1, vs1, d1, ds1, p1, q1, rfl, rfl, rfl, h1, r1⟩ := trodAll_cons r0
  obtain ⟨v2, vs2, d2, ds2, p2, q2, rfl, rfl, rfl, h2, r2⟩ := trodAll_cons r1
  obtain ⟨rfl, rfl, rfl⟩ := trodAll_nil r2
  obtain rfl : args = #[v0, v1, v2] := by cases args; simp_all
  obtain ⟨rfl, rfl⟩ := trodVars_none hV
  have hlt := fun x hx => hW.lt x hx
  have k0 := h0
  obtain ⟨c0, e0, l0, o0, r0_, n0, m0, A0, L0, rfl, hk0, hS0⟩ := open_state12 (hval 0 24 v0 rfl rfl) h0
  have k1 := h1
  obtain ⟨a1, rfl, rfl, rfl, w1⟩ := open_int Try.underlying2 (hval 1 2 v1 rfl rfl) h1
  have k2 := h2
  obtain ⟨a2, rfl, rfl, rfl, w2⟩ := open_int Try.underlying2 (hval 2 2 v2 rfl rfl) h2
  refine (sumStates_walk c0 e0 l0 o0 r0_ n0 m0 A0 L0 hk0 a1 w1 a2 w2 W hS0).mono fun e W' ⟨he, hg⟩ => ?_
  subst he
  exact ⟨_, rfl, post_of_same (pv := []) hW (fun _ _ _ => (trodAll_cons_mk (shut_bool Try.underlying4 _) trodAll_mk0)) (fun sp hsp => (trodAll_cons_mk (stay (by kernel_rfl) (of_decide_eq_true (by kernel_rfl)) k0 hg hlt (fun x hx => by first | (simp at hx; done) | simp [hx]) hsp) (trodAll_cons_mk (stay (by kernel_rfl) (of_decide_eq_true (by kernel_rfl)) k1 hg hlt (fun x hx => by first | (simp at hx; done) | simp [hx]) hsp) (trodAll_cons_mk (stay (by kernel_rfl) (of_decide_eq_true (by kernel_rfl)) k2 hg hlt (fun x hx => by first | (simp at hx; done) | simp [hx]) hsp) trodAll_mk0)))) (fun _ _ => rfl) rfl
    (hg.grown.frame _) hg.grown.2.1 (ok_one (by kernel_rfl) rfl (okWide_bool_mk Try.underlying4 _))⟩

theorem sumStates_over : Rows.sumStatesRow.holds Try.pinned (OpenSpec.ofChange Rows.sumStatesSpec) :=
  OpenClaim.holds_of_wide 4 Try.f4 rfl rfl rfl rfl rfl rfl rfl ⟨rfl, rfl, rfl, rfl, rfl⟩ rfl rfl rfl rfl rfl (by kernel_rfl) Try.func4 (by kernel_rfl)
    (of_decide_eq_true (by kernel_rfl)) (by unfold Func.isWrapper; first | (rw [if_pos (by decide +kernel)]; kernel_rfl) | (rw [if_neg (by decide +kernel)]; exact ⟨rfl, rfl⟩))
    (fun os started H enc _ => sumStates_lifted os started H enc)

theorem sumStates_holds : Rows.SumStatesSaid :=
  sumStates_over
#print axioms sumStates_holds
end Go.Proofs.Ytfdjhahnggdklaa
