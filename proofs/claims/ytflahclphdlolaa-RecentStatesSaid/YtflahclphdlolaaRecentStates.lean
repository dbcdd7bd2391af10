/- Proved: for every state, tick and value the law RecentStates returns true: Validate, Advance and Add of package recent answer as the reference does. Conditions: none. -/
import Derived.Test.YtflahclphdlolaaRows
import Derived.WalkKit
import Derived.ProofKit
import Derived.OpenShut
import Derived.Lib.SmallJoins
import Derived.Test.YtflahclphdlolaaEFrame
import Derived.Test.YtflahclphdlolaaFFrame
import Derived.SizedLaws
import Derived.Test.YtflahclphdlolaaFAwake
import Derived.Test.YtflahclphdlolaaFAll
namespace Go.Proofs.Ytflahclphdlolaa
open Go.ChangeShapes Go.WideShapes Go.ChangeAt Go.RowKit Go.Joins
set_option linter.unusedVariables false

theorem recentStates_own : ownKnob Try.prog.godebug = none := by kernel_rfl

set_option maxHeartbeats 16000000 in
set_option maxRecDepth 100000 in
theorem recentStates_walk (v c now : Int) (n k : Nat) (A : Option Addr) (L : List It) (hk : n ≤ k) (tk : Int) (_ : (Lit.int .i64 tk).wf = true) (x : Int) (_ : (Lit.int .i64 x).wf = true) (w : World) (hS : Sl w A n L) :
    Calls Try.prog 4 #[.agg #[.int .i64 v, .int .i64 c, .int .i64 now, .slice A n k], .int .i64 tk, .int .i64 x] w fun e w' => e = .returned (.bool true) ∧ Up w w' := by
  have KA := Lib.hid awake9_up
  have KF := Lib.hid (few9_any v c now n k A)
  by_cases hf : n ≤ 200
  case neg =>
    rw [decide_eq_false (show ¬ (n : Int) ≤ 200 by omega)] at KF
    clear hS hk
    go_enter Try.func4, Try.ntmps4
    go_wp2_with (first
      | (go_at_call 11; (with_reducible refine (KF.out _).mono ?_); rintro e w1 ⟨rfl, hu⟩; have HU1 := Lib.hid (((Up.refl w).alloc _ _).trans hu); clear hu)
      | (go_at_call 10; (with_reducible refine (KA.out _).mono ?_); rintro e w2 ⟨rfl, hu⟩; have HU2 := Lib.hid (HU1.out.trans hu); clear hu))
    go_ret
    exact ⟨rfl, HU2.out⟩
  rw [decide_eq_true (show (n : Int) ≤ 200 by omega)] at KF
  have HS := Lib.hid hS
  obtain ⟨a, b, d, M, e0, h1⟩ : ∃ a b d M e0, advR v c now tk L = (a, b, d, M, e0) := ⟨_, _, _, _, _, rfl⟩
  obtain ⟨p, q, r, N, e1, h2⟩ : ∃ p q r N e1, addR v c now x L = (p, q, r, N, e1) := ⟨_, _, _, _, _, rfl⟩
  have hM : M.length ≤ 1000 := by have := advR_len h1; have := hS.1; omega
  have hN : N.length ≤ 1000 := by have := addR_len h2; have := hS.1; omega
  have K1 := Lib.hid (fun W (h : Sl W A n L) => adv9_all v c now tk n k A L h1 W h)
  have K2 := Lib.hid (fun W (h : Sl W A n L) => radv9_all v c now tk n k A L h1 W h)
  have K3 := Lib.hid (fun W (h : Sl W A n L) => add9_all v c now x n k A L hk h2 W h)
  have K4 := Lib.hid (fun W (h : Sl W A n L) => radd9_all v c now x n k A L h2 W h)
  have K5 := Lib.hid (fun W (h : Sl W A n L) => validate9_up v c now n k A L W h)
  have K6 := Lib.hid (fun W (h : Sl W A n L) => rvalidate9_up v c now n k A L W h)
  have K7 := Lib.hid (fun W A1 A2 k1 k2 (hA : Sl W A1 M.length M) (hB : Sl W A2 M.length M) => same9_t a b d M.length k1 k2 A1 A2 M (by omega) W hA hB)
  have K8 := Lib.hid (fun W A1 A2 k1 k2 (hA : Sl W A1 N.length N) (hB : Sl W A2 N.length N) => same9_t p q r N.length k1 k2 A1 A2 N (by omega) W hA hB)
  generalize stE v c now L = y at K5 K6
  clear h1 h2 hS hk hM hN hf
  generalize M.length = m at *
  generalize N.length = o at *
  have b1 : (y == y) = true := by simp
  have b2 : (e0 == e0) = true := by simp
  have b3 : (e1 == e1) = true := by simp
  go_enter Try.func4, Try.ntmps4
  go_wp2_with (first
    | (go_at_call 11; (with_reducible refine (KF.out _).mono ?_); rintro e w0 ⟨rfl, hu⟩; have HU0 := Lib.hid (((Up.refl w).alloc #[.int .i64 v, .int .i64 c, .int .i64 now, .slice A n k] 24).trans hu); have s0_0 := hu.keep w.heap.size 0 (.int .i64 v) (by simp [go_sem]); have s0_1 := hu.keep w.heap.size 1 (.int .i64 c) (by simp [go_sem]); have s0_2 := hu.keep w.heap.size 2 (.int .i64 now) (by simp [go_sem]); have s0_3 := hu.keep w.heap.size 3 (.slice A n k) (by simp [go_sem]); have l0 : w.heap.size < w0.heap.size := World.block_lt_of_cell? _ _ s0_0; clear hu)
    | (go_at_call 12; (with_reducible refine (K1.out _ (HS.out.up (HU0.out))).mono ?_); rintro e w1 ⟨A1, k1, rfl, hM1, hu⟩; have hv := (Up.refl w0).trans hu; have HV1 := Lib.hid hv; have HU1 := Lib.hid (HU0.out.trans hv); have HM1 := Lib.hid hM1; have s1_0 := hv.keep _ _ _ s0_0; have s1_1 := hv.keep _ _ _ s0_1; have s1_2 := hv.keep _ _ _ s0_2; have s1_3 := hv.keep _ _ _ s0_3; have l1 : w.heap.size < w1.heap.size := World.block_lt_of_cell? _ _ s1_0; clear hu hv hM1 s0_0 s0_1 s0_2 s0_3)
    | (go_at_call 13; (with_reducible refine (K2.out _ (HS.out.up (HU1.out.alloc _ _))).mono ?_); rintro e w2 ⟨A2, k2, rfl, hM2, hu⟩; have hv := ((Up.refl w1).alloc #[.int .i64 a, .int .i64 b, .int .i64 d, .slice A1 m k1] 24).trans hu; have HV2 := Lib.hid hv; have HU2 := Lib.hid (HU1.out.trans hv); have HM2 := Lib.hid hM2; have s2_0 := hv.keep _ _ _ s1_0; have s2_1 := hv.keep _ _ _ s1_1; have s2_2 := hv.keep _ _ _ s1_2; have s2_3 := hv.keep _ _ _ s1_3; have r2_1_0 := hu.keep w1.heap.size 0 (.int .i64 a) (by simp [go_sem]); have r2_1_1 := hu.keep w1.heap.size 1 (.int .i64 b) (by simp [go_sem]); have r2_1_2 := hu.keep w1.heap.size 2 (.int .i64 d) (by simp [go_sem]); have r2_1_3 := hu.keep w1.heap.size 3 (.slice A1 m k1) (by simp [go_sem]); have l2 : w.heap.size < w2.heap.size := World.block_lt_of_cell? _ _ s2_0; clear hu hv hM2 s1_0 s1_1 s1_2 s1_3)
    | (go_at_call 14; (with_reducible refine (K3.out _ (HS.out.up (HU2.out.alloc _ _))).mono ?_); rintro e w3 ⟨A3, k3, rfl, hM3, hu⟩; have hv := ((Up.refl w2).alloc #[.int .i64 a, .int .i64 b, .int .i64 d, .slice A2 m k2] 24).trans hu; have HV3 := Lib.hid hv; have HU3 := Lib.hid (HU2.out.trans hv); have HM3 := Lib.hid hM3; have s3_0 := hv.keep _ _ _ s2_0; have s3_1 := hv.keep _ _ _ s2_1; have s3_2 := hv.keep _ _ _ s2_2; have s3_3 := hv.keep _ _ _ s2_3; have r3_1_0 := hv.keep _ _ _ r2_1_0; have r3_1_1 := hv.keep _ _ _ r2_1_1; have r3_1_2 := hv.keep _ _ _ r2_1_2; have r3_1_3 := hv.keep _ _ _ r2_1_3; have r3_2_0 := hu.keep w2.heap.size 0 (.int .i64 a) (by simp [go_sem]); have r3_2_1 := hu.keep w2.heap.size 1 (.int .i64 b) (by simp [go_sem]); have r3_2_2 := hu.keep w2.heap.size 2 (.int .i64 d) (by simp [go_sem]); have r3_2_3 := hu.keep w2.heap.size 3 (.slice A2 m k2) (by simp [go_sem]); have l3 : w.heap.size < w3.heap.size := World.block_lt_of_cell? _ _ s3_0; clear hu hv hM3 s2_0 s2_1 s2_2 s2_3 r2_1_0 r2_1_1 r2_1_2 r2_1_3)
    | (go_at_call 15; (with_reducible refine (K4.out _ (HS.out.up (HU3.out.alloc _ _))).mono ?_); rintro e w4 ⟨A4, k4, rfl, hM4, hu⟩; have hv := ((Up.refl w3).alloc #[.int .i64 p, .int .i64 q, .int .i64 r, .slice A3 o k3] 24).trans hu; have HV4 := Lib.hid hv; have HU4 := Lib.hid (HU3.out.trans hv); have HM4 := Lib.hid hM4; have s4_0 := hv.keep _ _ _ s3_0; have s4_1 := hv.keep _ _ _ s3_1; have s4_2 := hv.keep _ _ _ s3_2; have s4_3 := hv.keep _ _ _ s3_3; have r4_1_0 := hv.keep _ _ _ r3_1_0; have r4_1_1 := hv.keep _ _ _ r3_1_1; have r4_1_2 := hv.keep _ _ _ r3_1_2; have r4_1_3 := hv.keep _ _ _ r3_1_3; have r4_2_0 := hv.keep _ _ _ r3_2_0; have r4_2_1 := hv.keep _ _ _ r3_2_1; have r4_2_2 := hv.keep _ _ _ r3_2_2; have r4_2_3 := hv.keep _ _ _ r3_2_3; have r4_3_0 := hu.keep w3.heap.size 0 (.int .i64 p) (by simp [go_sem]); have r4_3_1 := hu.keep w3.heap.size 1 (.int .i64 q) (by simp [go_sem]); have r4_3_2 := hu.keep w3.heap.size 2 (.int .i64 r) (by simp [go_sem]); have r4_3_3 := hu.keep w3.heap.size 3 (.slice A3 o k3) (by simp [go_sem]); have l4 : w.heap.size < w4.heap.size := World.block_lt_of_cell? _ _ s4_0; clear hu hv hM4 s3_0 s3_1 s3_2 s3_3 r3_1_0 r3_1_1 r3_1_2 r3_1_3 r3_2_0 r3_2_1 r3_2_2 r3_2_3))
  obtain ⟨w5, hw5⟩ : ∃ z, z = w4.alloc (.cells #[.int .i64 p, .int .i64 q, .int .i64 r, .slice A4 o k4] 24) := ⟨_, rfl⟩
  rw [← hw5]
  have hv : Up w4 w5 := by rw [hw5]; exact (Up.refl _).alloc _ _
  have z0_0 := hv.keep _ _ _ s4_0
  have z0_1 := hv.keep _ _ _ s4_1
  have z0_2 := hv.keep _ _ _ s4_2
  have z0_3 := hv.keep _ _ _ s4_3
  have z1_0 := hv.keep _ _ _ r4_1_0
  have z1_1 := hv.keep _ _ _ r4_1_1
  have z1_2 := hv.keep _ _ _ r4_1_2
  have z1_3 := hv.keep _ _ _ r4_1_3
  have z2_0 := hv.keep _ _ _ r4_2_0
  have z2_1 := hv.keep _ _ _ r4_2_1
  have z2_2 := hv.keep _ _ _ r4_2_2
  have z2_3 := hv.keep _ _ _ r4_2_3
  have z3_0 := hv.keep _ _ _ r4_3_0
  have z3_1 := hv.keep _ _ _ r4_3_1
  have z3_2 := hv.keep _ _ _ r4_3_2
  have z3_3 := hv.keep _ _ _ r4_3_3
  have z4_0 : w5.cell? ⟨w4.heap.size, 0, none⟩ = some (.int .i64 p) := by rw [hw5]; simp [go_sem]
  have z4_1 : w5.cell? ⟨w4.heap.size, 1, none⟩ = some (.int .i64 q) := by rw [hw5]; simp [go_sem]
  have z4_2 : w5.cell? ⟨w4.heap.size, 2, none⟩ = some (.int .i64 r) := by rw [hw5]; simp [go_sem]
  have z4_3 : w5.cell? ⟨w4.heap.size, 3, none⟩ = some (.slice A4 o k4) := by rw [hw5]; simp [go_sem]
  have HU5 := Lib.hid (HU4.out.trans hv)
  have HS5 := Lib.hid (HS.out.up HU5.out)
  have HP1 := Lib.hid (HM1.out.up (HV2.out.trans (HV3.out.trans (HV4.out.trans hv))))
  have HP2 := Lib.hid (HM2.out.up (HV3.out.trans (HV4.out.trans hv)))
  have HP3 := Lib.hid (HM3.out.up (HV4.out.trans hv))
  have HP4 := Lib.hid (HM4.out.up hv)
  clear hw5
  have HSS : Hid (Up w5 w5 ∧ w5.cell? ⟨w.heap.size, 0, none⟩ = some (.int .i64 v) ∧ w5.cell? ⟨w.heap.size, 1, none⟩ = some (.int .i64 c) ∧ w5.cell? ⟨w.heap.size, 2, none⟩ = some (.int .i64 now) ∧ w5.cell? ⟨w.heap.size, 3, none⟩ = some (.slice A n k) ∧ w5.cell? ⟨w1.heap.size, 0, none⟩ = some (.int .i64 a) ∧ w5.cell? ⟨w1.heap.size, 1, none⟩ = some (.int .i64 b) ∧ w5.cell? ⟨w1.heap.size, 2, none⟩ = some (.int .i64 d) ∧ w5.cell? ⟨w1.heap.size, 3, none⟩ = some (.slice A1 m k1) ∧ w5.cell? ⟨w2.heap.size, 0, none⟩ = some (.int .i64 a) ∧ w5.cell? ⟨w2.heap.size, 1, none⟩ = some (.int .i64 b) ∧ w5.cell? ⟨w2.heap.size, 2, none⟩ = some (.int .i64 d) ∧ w5.cell? ⟨w2.heap.size, 3, none⟩ = some (.slice A2 m k2) ∧ w5.cell? ⟨w3.heap.size, 0, none⟩ = some (.int .i64 p) ∧ w5.cell? ⟨w3.heap.size, 1, none⟩ = some (.int .i64 q) ∧ w5.cell? ⟨w3.heap.size, 2, none⟩ = some (.int .i64 r) ∧ w5.cell? ⟨w3.heap.size, 3, none⟩ = some (.slice A3 o k3) ∧ w5.cell? ⟨w4.heap.size, 0, none⟩ = some (.int .i64 p) ∧ w5.cell? ⟨w4.heap.size, 1, none⟩ = some (.int .i64 q) ∧ w5.cell? ⟨w4.heap.size, 2, none⟩ = some (.int .i64 r) ∧ w5.cell? ⟨w4.heap.size, 3, none⟩ = some (.slice A4 o k4)) := Lib.hid ⟨Up.refl _, z0_0, z0_1, z0_2, z0_3, z1_0, z1_1, z1_2, z1_3, z2_0, z2_1, z2_2, z2_3, z3_0, z3_1, z3_2, z3_3, z4_0, z4_1, z4_2, z4_3⟩
  clear hv z0_0 z0_1 z0_2 z0_3 z1_0 z1_1 z1_2 z1_3 z2_0 z2_1 z2_2 z2_3 z3_0 z3_1 z3_2 z3_3 z4_0 z4_1 z4_2 z4_3 s4_0 s4_1 s4_2 s4_3 r4_1_0 r4_1_1 r4_1_2 r4_1_3 r4_2_0 r4_2_1 r4_2_2 r4_2_3 r4_3_0 r4_3_1 r4_3_2 r4_3_3
  go_region_held3 (fun w' => Up w5 w' ∧ w'.cell? ⟨w.heap.size, 0, none⟩ = some (.int .i64 v) ∧ w'.cell? ⟨w.heap.size, 1, none⟩ = some (.int .i64 c) ∧ w'.cell? ⟨w.heap.size, 2, none⟩ = some (.int .i64 now) ∧ w'.cell? ⟨w.heap.size, 3, none⟩ = some (.slice A n k) ∧ w'.cell? ⟨w1.heap.size, 0, none⟩ = some (.int .i64 a) ∧ w'.cell? ⟨w1.heap.size, 1, none⟩ = some (.int .i64 b) ∧ w'.cell? ⟨w1.heap.size, 2, none⟩ = some (.int .i64 d) ∧ w'.cell? ⟨w1.heap.size, 3, none⟩ = some (.slice A1 m k1) ∧ w'.cell? ⟨w2.heap.size, 0, none⟩ = some (.int .i64 a) ∧ w'.cell? ⟨w2.heap.size, 1, none⟩ = some (.int .i64 b) ∧ w'.cell? ⟨w2.heap.size, 2, none⟩ = some (.int .i64 d) ∧ w'.cell? ⟨w2.heap.size, 3, none⟩ = some (.slice A2 m k2) ∧ w'.cell? ⟨w3.heap.size, 0, none⟩ = some (.int .i64 p) ∧ w'.cell? ⟨w3.heap.size, 1, none⟩ = some (.int .i64 q) ∧ w'.cell? ⟨w3.heap.size, 2, none⟩ = some (.int .i64 r) ∧ w'.cell? ⟨w3.heap.size, 3, none⟩ = some (.slice A3 o k3) ∧ w'.cell? ⟨w4.heap.size, 0, none⟩ = some (.int .i64 p) ∧ w'.cell? ⟨w4.heap.size, 1, none⟩ = some (.int .i64 q) ∧ w'.cell? ⟨w4.heap.size, 2, none⟩ = some (.int .i64 r) ∧ w'.cell? ⟨w4.heap.size, 3, none⟩ = some (.slice A4 o k4))
    (repeat (first | (with_reducible exact HSS.out) | (with_reducible exact keep20 (by assumption) (by assumption)) | (with_reducible exact Hid.out (by assumption)) | (with_reducible refine keep20 (Lib.hid (Up.refl _).drew) ?_)))
    (first
      | (go_at_call 16; (with_reducible refine (K5.out _ (HS5.out.up (by assumption : Up w5 _ ∧ _).1)).mono ?_); rintro e w6 ⟨rfl, hu⟩; have HU6 := Lib.hid hu; have HX6 := Lib.hid (keep20 HU6 (by assumption)); clear hu)
      | (go_at_call 17; (with_reducible refine (K6.out _ (HS5.out.up (by assumption : Up w5 _ ∧ _).1)).mono ?_); rintro e w7 ⟨rfl, hu⟩; have HU7 := Lib.hid hu; have HX7 := Lib.hid (keep20 HU7 (by assumption)); clear hu)
      | (go_at_call 9; (with_reducible refine (K7.out _ A1 A2 k1 k2 (HP1.out.up (by assumption : Up w5 _ ∧ _).1) (HP2.out.up (by assumption : Up w5 _ ∧ _).1)).mono ?_); rintro e w8 ⟨rfl, hu⟩; have HU8 := Lib.hid hu; have HX8 := Lib.hid (keep20 HU8 (by assumption)); clear hu)
      | (go_at_call 9; (with_reducible refine (K8.out _ A3 A4 k3 k4 (HP3.out.up (by assumption : Up w5 _ ∧ _).1) (HP4.out.up (by assumption : Up w5 _ ∧ _).1)).mono ?_); rintro e w9 ⟨rfl, hu⟩; have HU9 := Lib.hid hu; have HX9 := Lib.hid (keep20 HU9 (by assumption)); clear hu)
      | (go_at_call 10; (with_reducible refine (KA.out _).mono ?_); rintro e w10 ⟨rfl, hu⟩; have HU10 := Lib.hid hu; have HX10 := Lib.hid (keep20 HU10 (by assumption)); clear hu))
  clear ‹Up w5 _ ∧ _›
  go_wp2_with fail
  go_ret
  exact ⟨rfl, HU5.out.trans HX10.out.1⟩

set_option maxRecDepth 100000 in
theorem recentStates_lifted (os : Os) (started : os.Started) (H : Type) (enc : TypeId × Value → H) :
    ReturnsInHanded {} Try.checked os 4 .any (Rows.recentStatesSpec.pre6 enc Try.prog Try.f4 Rows.recentStatesRow.domain false) (Rows.recentStatesSpec.post enc Try.prog Try.f4 false true false false) := by
  refine returnsInHanded_of_change_sized (C := Try.checked) recentStates_own started (by kernel_rfl) Try.func4
    (ChangeSpec.witness6 (enc := enc) (C := Try.checked) false ⟨#[], #[.agg #[.int .i64 0, .int .i64 0, .int .i64 0, .slice none 0 0], .int .i64 0, .int .i64 0], []⟩ 8 (by kernel_rfl) (by kernel_rfl) (by kernel_rfl) (by kernel_rfl)) ?_
  intro W base args ds gs before hval0 hW hcnd hsz0 _
  have hval : ∀ (j : Nat) t v, Try.f4.params[j]? = some t → args[j]? = some v → Value.okWide Try.prog W .any base t v := hval0
  have hW' := hW
  obtain ⟨p, q, hA0, hV, rfl, hfz, hnd⟩ := hW'
  have hA : DataW.TrodAll enc Try.prog W 0 (fun _ => true) true Try.f4.params.toList args.toList ds p := hA0
  rw [Try.params4] at hA hval
  obtain ⟨v0, vs0, d0, ds0, p0, q0, hargs, rfl, rfl, h0, r0⟩ := trodAll_cons hA
  obtain ⟨v1, vs1, d1, ds1, p1, q1, rfl, rfl, rfl, h1, r1⟩ := trodAll_cons r0
  obtain ⟨v2, vs2, d2, ds2, p2, q2, rfl, rfl, rfl, h2, r2⟩ := trodAll_cons r1
  obtain ⟨rfl, rfl, rfl⟩ := trodAll_nil r2
  obtain rfl : args = #[v0, v1, v2] := by cases args; simp_all
  obtain ⟨rfl, rfl⟩ := trodVars_none hV
  have hlt := fun x hx => hW.lt x hx
  have k0 := h0
  obtain ⟨c0, e0, l0, n0, m0, A0, L0, rfl, hk0, hS0⟩ := open_recent (hval 0 24 v0 rfl rfl) h0
  have k1 := h1
  obtain ⟨a1, rfl, rfl, rfl, w1⟩ := open_int Try.underlying2 (hval 1 2 v1 rfl rfl) h1
  have k2 := h2
  obtain ⟨a2, rfl, rfl, rfl, w2⟩ := open_int Try.underlying2 (hval 2 2 v2 rfl rfl) h2
  refine (recentStates_walk c0 e0 l0 n0 m0 A0 L0 hk0 a1 w1 a2 w2 W hS0).mono fun e W' ⟨he, hg⟩ => ?_
  subst he
  exact ⟨_, rfl, post_of_same (pv := []) hW (fun _ _ _ => (trodAll_cons_mk (shut_bool Try.underlying4 _) trodAll_mk0)) (fun sp hsp => (trodAll_cons_mk (stay (by kernel_rfl) (of_decide_eq_true (by kernel_rfl)) k0 hg hlt (fun x hx => by first | (simp at hx; done) | simp [hx]) hsp) (trodAll_cons_mk (stay (by kernel_rfl) (of_decide_eq_true (by kernel_rfl)) k1 hg hlt (fun x hx => by first | (simp at hx; done) | simp [hx]) hsp) (trodAll_cons_mk (stay (by kernel_rfl) (of_decide_eq_true (by kernel_rfl)) k2 hg hlt (fun x hx => by first | (simp at hx; done) | simp [hx]) hsp) trodAll_mk0)))) (fun _ _ => rfl) rfl
    (hg.grown.frame _) hg.grown.2.1 (ok_one (by kernel_rfl) rfl (okWide_bool_mk Try.underlying4 _))⟩

theorem recentStates_over : Rows.recentStatesRow.holds Try.pinned (OpenSpec.ofChange Rows.recentStatesSpec) :=
  OpenClaim.holds_of_wide 4 Try.f4 rfl rfl rfl rfl rfl rfl rfl ⟨rfl, rfl, rfl, rfl, rfl⟩ rfl rfl rfl rfl rfl (by kernel_rfl) Try.func4 (by kernel_rfl)
    (of_decide_eq_true (by kernel_rfl)) (by unfold Func.isWrapper; first | (rw [if_pos (by decide +kernel)]; kernel_rfl) | (rw [if_neg (by decide +kernel)]; exact ⟨rfl, rfl⟩))
    (fun os started H enc _ => recentStates_lifted os started H enc)

theorem recentStates_holds : Rows.RecentStatesSaid :=
  recentStates_over
#print axioms recentStates_holds
end Go.Proofs.Ytflahclphdlolaa
