/- Proved: for any two states the law CountMerges returns true: Merge of package count answers as the reference does. Conditions: none. -/
import Derived.Test.YtjbgogajnjefmaaGreatRows
import Derived.Test.YtjbgogajnjefmaaGreatZBAtMost
import Derived.Test.YtjbgogajnjefmaaGreatZBProduct
import Derived.Test.YtjbgogajnjefmaaGreatZGFramem4
import Derived.Test.YtjbgogajnjefmaaGreatZGLawm3
import Derived.Test.YtjbgogajnjefmaaGreatZHOrdm2
import Derived.Test.YtjbgogajnjefmaaGreatZHQrym3
import Derived.Test.YtjbgogajnjefmaaGreatZHRVal
import Derived.Test.YtjbgogajnjefmaaGreatZHRowm2
import Derived.Test.YtjbgogajnjefmaaGreatZHSamem4
import Derived.Test.YtjbgogajnjefmaaGreatZIAskm2
import Derived.Test.YtjbgogajnjefmaaGreatZIBase
import Derived.Test.YtjbgogajnjefmaaGreatZIMrg
import Derived.Test.YtjbgogajnjefmaaGreatZRArithm4
import Derived.Test.YtjbgogajnjefmaaGreatZWGcd
import Derived.Test.YtjbgogajnjefmaaGreatZWKeepm7
import Derived.Test.YtjbgogajnjefmaaGreatZWMathm8
import Derived.Test.YtjbgogajnjefmaaGreatZWRDiv2
import Derived.Test.YtjbgogajnjefmaaGreatZWShortm3
namespace Go.Proofs.YtjbgogajnjefmaaGreat
open Go.ChangeShapes Go.WideShapes Go.ChangeAt Go.RowKit Go.Joins
set_option linter.unusedVariables false

theorem countMerges_own : ownKnob Tryz.prog.godebug = none := by kernel_rfl

set_option maxHeartbeats 8000000 in
set_option maxRecDepth 100000 in
theorem countMerges_walk (v q c now : Int) (n k : Nat) (A : Option Addr) (L : List It) (hk : n ≤ k) (v2 q2 c2 now2 : Int) (n2 k2 : Nat) (A2 : Option Addr) (L2 : List It) (hk2 : n2 ≤ k2) (w : World) (hS : Sl w A n L) (hS2 : Sl w A2 n2 L2) :
    Calls Tryz.prog 3 #[.agg #[.int .i64 v, .int .i64 q, .int .i64 c, .int .i64 now, .slice A n k], .agg #[.int .i64 v2, .int .i64 q2, .int .i64 c2, .int .i64 now2, .slice A2 n2 k2]] w fun e w' => e = .returned (.bool true) ∧ Up w w' := by
  have KA := Lib.hid awake11_up
  have KF := Lib.hid (few11_any v q c now n k A)
  have KG := Lib.hid (few11_any v2 q2 c2 now2 n2 k2 A2)
  by_cases hf : n ≤ 300
  case neg =>
    rw [decide_eq_false (show ¬ (n : Int) ≤ 300 by omega)] at KF
    clear hS hS2 hk hk2
    go_enter Tryz.func3, Tryz.ntmps3
    go_wp2_with (first | (go_at_call 4; (with_reducible refine (KF.out _).mono ?_); rintro e w1 ⟨rfl, hu⟩; have HU1 := Lib.hid ((((Up.refl w).alloc #[.int .i64 v, .int .i64 q, .int .i64 c, .int .i64 now, .slice A n k] 24).alloc #[.int .i64 v2, .int .i64 q2, .int .i64 c2, .int .i64 now2, .slice A2 n2 k2] 24).trans hu); have a1_0 := hu.keep (w.heap.size) 0 (.int .i64 v) (by simp [go_sem]); have a1_1 := hu.keep (w.heap.size) 1 (.int .i64 q) (by simp [go_sem]); have a1_2 := hu.keep (w.heap.size) 2 (.int .i64 c) (by simp [go_sem]); have a1_3 := hu.keep (w.heap.size) 3 (.int .i64 now) (by simp [go_sem]); have a1_4 := hu.keep (w.heap.size) 4 (.slice A n k) (by simp [go_sem]); have b1_0 := hu.keep (w.heap.size + 1) 0 (.int .i64 v2) (by simp [go_sem]); have b1_1 := hu.keep (w.heap.size + 1) 1 (.int .i64 q2) (by simp [go_sem]); have b1_2 := hu.keep (w.heap.size + 1) 2 (.int .i64 c2) (by simp [go_sem]); have b1_3 := hu.keep (w.heap.size + 1) 3 (.int .i64 now2) (by simp [go_sem]); have b1_4 := hu.keep (w.heap.size + 1) 4 (.slice A2 n2 k2) (by simp [go_sem]); have l1 : w.heap.size + 1 < w1.heap.size := World.block_lt_of_cell? _ _ b1_0; have m1 : w.heap.size < w1.heap.size := (by omega); clear hu) | (go_at_call 5; (with_reducible refine (KA.out _).mono ?_); rintro e w9 ⟨rfl, hu⟩; have HU9 := Lib.hid (HU1.out.trans hu); clear hu))
    go_ret
    exact ⟨rfl, HU9.out⟩
  rw [decide_eq_true (show (n : Int) ≤ 300 by omega)] at KF
  by_cases hf2 : n2 ≤ 300
  case neg =>
    rw [decide_eq_false (show ¬ (n2 : Int) ≤ 300 by omega)] at KG
    clear hS hS2 hk hk2
    go_enter Tryz.func3, Tryz.ntmps3
    go_wp2_with (first | (go_at_call 4; (with_reducible refine (KF.out _).mono ?_); rintro e w1 ⟨rfl, hu⟩; have HU1 := Lib.hid ((((Up.refl w).alloc #[.int .i64 v, .int .i64 q, .int .i64 c, .int .i64 now, .slice A n k] 24).alloc #[.int .i64 v2, .int .i64 q2, .int .i64 c2, .int .i64 now2, .slice A2 n2 k2] 24).trans hu); have a1_0 := hu.keep (w.heap.size) 0 (.int .i64 v) (by simp [go_sem]); have a1_1 := hu.keep (w.heap.size) 1 (.int .i64 q) (by simp [go_sem]); have a1_2 := hu.keep (w.heap.size) 2 (.int .i64 c) (by simp [go_sem]); have a1_3 := hu.keep (w.heap.size) 3 (.int .i64 now) (by simp [go_sem]); have a1_4 := hu.keep (w.heap.size) 4 (.slice A n k) (by simp [go_sem]); have b1_0 := hu.keep (w.heap.size + 1) 0 (.int .i64 v2) (by simp [go_sem]); have b1_1 := hu.keep (w.heap.size + 1) 1 (.int .i64 q2) (by simp [go_sem]); have b1_2 := hu.keep (w.heap.size + 1) 2 (.int .i64 c2) (by simp [go_sem]); have b1_3 := hu.keep (w.heap.size + 1) 3 (.int .i64 now2) (by simp [go_sem]); have b1_4 := hu.keep (w.heap.size + 1) 4 (.slice A2 n2 k2) (by simp [go_sem]); have l1 : w.heap.size + 1 < w1.heap.size := World.block_lt_of_cell? _ _ b1_0; have m1 : w.heap.size < w1.heap.size := (by omega); clear hu) | (go_at_call 4; (with_reducible refine (KG.out _).mono ?_); rintro e w2 ⟨rfl, hu⟩; have HU2 := Lib.hid (HU1.out.trans hu); have a2_0 := hu.keep _ _ _ a1_0; have b2_0 := hu.keep _ _ _ b1_0; have a2_1 := hu.keep _ _ _ a1_1; have b2_1 := hu.keep _ _ _ b1_1; have a2_2 := hu.keep _ _ _ a1_2; have b2_2 := hu.keep _ _ _ b1_2; have a2_3 := hu.keep _ _ _ a1_3; have b2_3 := hu.keep _ _ _ b1_3; have a2_4 := hu.keep _ _ _ a1_4; have b2_4 := hu.keep _ _ _ b1_4; have l2 : w.heap.size + 1 < w2.heap.size := World.block_lt_of_cell? _ _ b2_0; have m2 : w.heap.size < w2.heap.size := (by omega); clear hu a1_0 b1_0 a1_1 b1_1 a1_2 b1_2 a1_3 b1_3 a1_4 b1_4) | (go_at_call 5; (with_reducible refine (KA.out _).mono ?_); rintro e w9 ⟨rfl, hu⟩; have HU9 := Lib.hid (HU2.out.trans hu); clear hu))
    go_ret
    exact ⟨rfl, HU9.out⟩
  rw [decide_eq_true (show (n2 : Int) ≤ 300 by omega)] at KG
  have HA := Lib.hid hS
  have HB := Lib.hid hS2
  have K1 := Lib.hid (fun W (h : Sl W A n L) (h2 : Sl W A2 n2 L2) => merge11_up v q c now n k A L (by omega) v2 q2 c2 now2 n2 k2 A2 L2 (by omega) W h h2)
  have K2 := Lib.hid (fun W (h : Sl W A n L) (h2 : Sl W A2 n2 L2) => rmerge11_up v q c now n k A L (by omega) v2 q2 c2 now2 n2 k2 A2 L2 (by omega) W h h2)
  obtain ⟨x0, x1, x2, x3, x4, x5, e0, hm⟩ := mgV_agg (stC v q c now L) (stC v2 q2 c2 now2 L2) (decide (v = v2) && decide (now = now2)) L L2
  rw [hm] at K1 K2
  have qe := fun W => eqB6 x0 x1 x2 x3 x4 x5 W
  have tt := (show (e0 == e0) = true by simp)
  clear hm hS hS2 hk hk2 hf hf2
  go_enter Tryz.func3, Tryz.ntmps3
  go_wp2_with (first | (go_at_call 4; (with_reducible refine (KF.out _).mono ?_); rintro e w1 ⟨rfl, hu⟩; have HU1 := Lib.hid ((((Up.refl w).alloc #[.int .i64 v, .int .i64 q, .int .i64 c, .int .i64 now, .slice A n k] 24).alloc #[.int .i64 v2, .int .i64 q2, .int .i64 c2, .int .i64 now2, .slice A2 n2 k2] 24).trans hu); have a1_0 := hu.keep (w.heap.size) 0 (.int .i64 v) (by simp [go_sem]); have a1_1 := hu.keep (w.heap.size) 1 (.int .i64 q) (by simp [go_sem]); have a1_2 := hu.keep (w.heap.size) 2 (.int .i64 c) (by simp [go_sem]); have a1_3 := hu.keep (w.heap.size) 3 (.int .i64 now) (by simp [go_sem]); have a1_4 := hu.keep (w.heap.size) 4 (.slice A n k) (by simp [go_sem]); have b1_0 := hu.keep (w.heap.size + 1) 0 (.int .i64 v2) (by simp [go_sem]); have b1_1 := hu.keep (w.heap.size + 1) 1 (.int .i64 q2) (by simp [go_sem]); have b1_2 := hu.keep (w.heap.size + 1) 2 (.int .i64 c2) (by simp [go_sem]); have b1_3 := hu.keep (w.heap.size + 1) 3 (.int .i64 now2) (by simp [go_sem]); have b1_4 := hu.keep (w.heap.size + 1) 4 (.slice A2 n2 k2) (by simp [go_sem]); have l1 : w.heap.size + 1 < w1.heap.size := World.block_lt_of_cell? _ _ b1_0; have m1 : w.heap.size < w1.heap.size := (by omega); clear hu) | (go_at_call 4; (with_reducible refine (KG.out _).mono ?_); rintro e w2 ⟨rfl, hu⟩; have HU2 := Lib.hid (HU1.out.trans hu); have a2_0 := hu.keep _ _ _ a1_0; have b2_0 := hu.keep _ _ _ b1_0; have a2_1 := hu.keep _ _ _ a1_1; have b2_1 := hu.keep _ _ _ b1_1; have a2_2 := hu.keep _ _ _ a1_2; have b2_2 := hu.keep _ _ _ b1_2; have a2_3 := hu.keep _ _ _ a1_3; have b2_3 := hu.keep _ _ _ b1_3; have a2_4 := hu.keep _ _ _ a1_4; have b2_4 := hu.keep _ _ _ b1_4; have l2 : w.heap.size + 1 < w2.heap.size := World.block_lt_of_cell? _ _ b2_0; have m2 : w.heap.size < w2.heap.size := (by omega); clear hu a1_0 b1_0 a1_1 b1_1 a1_2 b1_2 a1_3 b1_3 a1_4 b1_4) | (go_at_call 6; (with_reducible refine (K1.out _ (HA.out.up HU2.out) (HB.out.up HU2.out)).mono ?_); rintro e w3 ⟨rfl, hu⟩; have HU3 := Lib.hid (HU2.out.trans hu); have a3_0 := hu.keep _ _ _ a2_0; have b3_0 := hu.keep _ _ _ b2_0; have a3_1 := hu.keep _ _ _ a2_1; have b3_1 := hu.keep _ _ _ b2_1; have a3_2 := hu.keep _ _ _ a2_2; have b3_2 := hu.keep _ _ _ b2_2; have a3_3 := hu.keep _ _ _ a2_3; have b3_3 := hu.keep _ _ _ b2_3; have a3_4 := hu.keep _ _ _ a2_4; have b3_4 := hu.keep _ _ _ b2_4; have l3 : w.heap.size + 1 < w3.heap.size := World.block_lt_of_cell? _ _ b3_0; have m3 : w.heap.size < w3.heap.size := (by omega); clear hu a2_0 b2_0 a2_1 b2_1 a2_2 b2_2 a2_3 b2_3 a2_4 b2_4) | (go_at_call 7; (with_reducible refine (K2.out _ (HA.out.up (HU3.out.alloc _ _)) (HB.out.up (HU3.out.alloc _ _))).mono ?_); rintro e w4 ⟨rfl, hu⟩; have HU4 := Lib.hid ((HU3.out.alloc _ _).trans hu); have p0 := hu.keep w3.heap.size 0 (.int .i64 x0) (by simp [go_sem]); have p1 := hu.keep w3.heap.size 1 (.int .i64 x1) (by simp [go_sem]); have p2 := hu.keep w3.heap.size 2 (.int .i64 x2) (by simp [go_sem]); have p3 := hu.keep w3.heap.size 3 (.int .i64 x3) (by simp [go_sem]); have p4 := hu.keep w3.heap.size 4 (.int .i64 x4) (by simp [go_sem]); have p5 := hu.keep w3.heap.size 5 (.int .i64 x5) (by simp [go_sem]); have l4 : w3.heap.size < w4.heap.size := World.block_lt_of_cell? _ _ p0; clear hu a3_0 b3_0 a3_1 b3_1 a3_2 b3_2 a3_3 b3_3 a3_4 b3_4) | (go_at_call 5; (with_reducible refine (KA.out _).mono ?_); rintro e w9 ⟨rfl, hu⟩; have HU9 := Lib.hid ((HU4.out.alloc _ _).trans hu); clear hu))
  go_ret
  exact ⟨rfl, HU9.out⟩

set_option maxRecDepth 100000 in
theorem countMerges_lifted (os : Os) (started : os.Started) (H : Type) (enc : TypeId × Value → H) :
    ReturnsInHanded {} Tryz.checked os 3 .any (Rows.countMergesSpec.pre6 enc Tryz.prog Tryz.f3 Rows.countMergesRow.domain false) (Rows.countMergesSpec.post enc Tryz.prog Tryz.f3 false true false false) := by
  refine returnsInHanded_of_change_sized (C := Tryz.checked) countMerges_own started (by kernel_rfl) Tryz.func3
    (ChangeSpec.witness6 (enc := enc) (C := Tryz.checked) false ⟨#[], #[.agg #[.int .i64 0, .int .i64 0, .int .i64 0, .int .i64 0, .slice none 0 0], .agg #[.int .i64 0, .int .i64 0, .int .i64 0, .int .i64 0, .slice none 0 0]], []⟩ 8 (by kernel_rfl) (by kernel_rfl) (by kernel_rfl) (by kernel_rfl)) ?_
  intro W base args ds gs before hval0 hW hcnd hsz0 _
  have hval : ∀ (j : Nat) t v, Tryz.f3.params[j]? = some t → args[j]? = some v → Value.okWide Tryz.prog W .any base t v := hval0
  have hW' := hW
  obtain ⟨p, q, hA0, hV, rfl, hfz, hnd⟩ := hW'
  have hA : DataW.TrodAll enc Tryz.prog W 0 (fun _ => true) true Tryz.f3.params.toList args.toList ds p := hA0
  rw [Tryz.params3] at hA hval
  obtain ⟨v0, vs0, d0, ds0, p0, q0, hargs, rfl, rfl, h0, r0⟩ := trodAll_cons hA
  obtain ⟨v1, vs1, d1, ds1, p1, q1, rfl, rfl, rfl, h1, r1⟩ := trodAll_cons r0
  obtain ⟨rfl, rfl, rfl⟩ := trodAll_nil r1
  obtain rfl : args = #[v0, v1] := by cases args; simp_all
  obtain ⟨rfl, rfl⟩ := trodVars_none hV
  have hlt := fun x hx => hW.lt x hx
  have k0 := h0
  obtain ⟨c0, e0, l0, o0, n0, m0, A0, L0, rfl, hk0, hS0⟩ := open_state11 (hval 0 24 v0 rfl rfl) h0
  have k1 := h1
  obtain ⟨c1, e1, l1, o1, n1, m1, A1, L1, rfl, hk1, hS1⟩ := open_state11 (hval 1 24 v1 rfl rfl) h1
  refine (countMerges_walk c0 e0 l0 o0 n0 m0 A0 L0 hk0 c1 e1 l1 o1 n1 m1 A1 L1 hk1 W hS0 hS1).mono fun e W' ⟨he, hg⟩ => ?_
  subst he
  exact ⟨_, rfl, post_of_same (pv := []) hW (fun _ _ _ => (trodAll_cons_mk (shut_bool Tryz.underlying4 _) trodAll_mk0)) (fun sp hsp => (trodAll_cons_mk (stay (by kernel_rfl) (of_decide_eq_true (by kernel_rfl)) k0 hg hlt (fun x hx => by first | (simp at hx; done) | simp [hx]) hsp) (trodAll_cons_mk (stay (by kernel_rfl) (of_decide_eq_true (by kernel_rfl)) k1 hg hlt (fun x hx => by first | (simp at hx; done) | simp [hx]) hsp) trodAll_mk0))) (fun _ _ => rfl) rfl
    (hg.grown.frame _) hg.grown.2.1 (ok_one (by kernel_rfl) rfl (okWide_bool_mk Tryz.underlying4 _))⟩

theorem countMerges_over : Rows.countMergesRow.holds Tryz.pinned (OpenSpec.ofChange Rows.countMergesSpec) :=
  OpenClaim.holds_of_wide 3 Tryz.f3 rfl rfl rfl rfl rfl rfl rfl ⟨rfl, rfl, rfl, rfl, rfl⟩ rfl rfl rfl rfl rfl (by kernel_rfl) Tryz.func3 (by kernel_rfl)
    (of_decide_eq_true (by kernel_rfl)) (by unfold Func.isWrapper; first | (rw [if_pos (by decide +kernel)]; kernel_rfl) | (rw [if_neg (by decide +kernel)]; exact ⟨rfl, rfl⟩))
    (fun os started H enc _ => countMerges_lifted os started H enc)

theorem countMerges_holds : Rows.CountMergesSaid :=
  countMerges_over
#print axioms countMerges_holds
end Go.Proofs.YtjbgogajnjefmaaGreat
