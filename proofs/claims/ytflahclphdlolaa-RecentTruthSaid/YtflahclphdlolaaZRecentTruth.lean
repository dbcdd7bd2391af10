/- Proved: for every list of raw items and any numbers the law RecentTruth returns true: the answers of the stored list are the exact aggregates of its items. Conditions: none. -/
import Derived.Test.YtflahclphdlolaaRows
import Derived.Deep.DeepCutAuto
import Derived.Lib.SmallJoins
import Derived.OpenShut
import Derived.ProofKit
import Derived.SizedLaws
import Derived.WalkKit
import Derived.Test.YtflahclphdlolaaZCClock
import Derived.Test.YtflahclphdlolaaZELoFrame
import Derived.Test.YtflahclphdlolaaZEQnt
import Derived.Test.YtflahclphdlolaaZESort
import Derived.Test.YtflahclphdlolaaZESpread
import Derived.Test.YtflahclphdlolaaZESq
import Derived.Test.YtflahclphdlolaaZETotal
import Derived.Test.YtflahclphdlolaaZEWords
import Derived.Test.YtflahclphdlolaaZFAdv
import Derived.Test.YtflahclphdlolaaZFAsk
import Derived.Test.YtflahclphdlolaaZFAskM
import Derived.Test.YtflahclphdlolaaZFAwake
import Derived.Test.YtflahclphdlolaaZFBase
import Derived.Test.YtflahclphdlolaaZFEq
import Derived.Test.YtflahclphdlolaaZFMade
import Derived.Test.YtflahclphdlolaaZFNum
import Derived.Test.YtflahclphdlolaaZFState
import Derived.Test.YtflahclphdlolaaZFTruth
import Derived.Test.YtflahclphdlolaaZG0a
import Derived.Test.YtflahclphdlolaaZG2a
import Derived.Test.YtflahclphdlolaaZG4a
import Derived.Test.YtflahclphdlolaaZG5a
import Derived.Test.YtflahclphdlolaaZRQuo
namespace Go.Proofs.Ytflahclphdlolaa
open Go.ChangeShapes Go.WideShapes Go.ChangeAt Go.RowKit Go.Joins
set_option linter.unusedVariables false

theorem recentTruth_own : ownKnob Try.prog.godebug = none := by kernel_rfl

set_option maxHeartbeats 32000000 in
set_option maxRecDepth 100000 in
theorem recentTruth_walk (n k : Nat) (A : Option Addr) (L : List It) (hk : n ≤ k) (hI : InI L) (a1 : Int) (_ : (Lit.int .i64 a1).wf = true) (a : Int) (_ : (Lit.int .i64 a).wf = true) (a3 : Int) (_ : (Lit.int .i64 a3).wf = true) (a4 : Int) (_ : (Lit.int .i64 a4).wf = true) (w : World) (hS : Sl w A n L) :
    Calls Try.prog 6 #[.slice A n k, .int .i64 a1, .int .i64 a, .int .i64 a3, .int .i64 a4] w fun e w' => e = .returned (.bool true) ∧ Lo w w' := by
  have KA := Lib.hid awake9_up
  have HS := Lib.hid hS
  have KM1 := Lib.hid (fun W => modm_any a1 20 (by omega) (by omega) W)
  have KM4 := Lib.hid (fun W => modm_any a4 20 (by omega) (by omega) W)
  have r0 : 0 ≤ a1 % 20 := Int.emod_nonneg _ (by omega)
  have r1 : a1 % 20 < 20 := Int.emod_lt_of_pos _ (by omega)
  have s0 : 0 ≤ a4 % 20 := Int.emod_nonneg _ (by omega)
  have s1 : a4 % 20 < 20 := Int.emod_lt_of_pos _ (by omega)
  generalize a1 % 20 = r at *
  generalize a4 % 20 = s at *
  obtain ⟨v, ev⟩ : ∃ v, 1 + r = v := ⟨_, rfl⟩
  obtain ⟨q, eq_⟩ : ∃ q, 1 + s = q := ⟨_, rfl⟩
  have v1 : 1 ≤ v := by omega
  have v20 : v ≤ 20 := by omega
  have q1 : 1 ≤ q := by omega
  have q20 : q ≤ 20 := by omega
  have KM3 := Lib.hid (fun W => modm_any a3 (q + 1) (by omega) (by omega) W)
  have p0 : 0 ≤ a3 % (q + 1) := Int.emod_nonneg _ (by omega)
  have p1 : a3 % (q + 1) < q + 1 := Int.emod_lt_of_pos _ (by omega)
  generalize a3 % (q + 1) = p at *
  have K2 := Lib.hid (fun W (h : Sl W A n L) => items_up n k A L v v1 v20 W h)
  clear hS hI
  go_enter Try.func6, Try.ntmps6
  go_wp2_with (first
    | (go_at_call 18; (with_reducible refine (KM1.out _).mono ?_); rintro e w' ⟨rfl, rfl⟩)
    | (go_at_call 18; (with_reducible refine (KM4.out _).mono ?_); rintro e w' ⟨rfl, rfl⟩)
    | (go_at_call 18; (with_reducible refine (KM3.out _).mono ?_); rintro e w' ⟨rfl, rfl⟩))
  (with_reducible refine (K2.out _ (HS.out.up ((Up.refl _).alloc _ _))).mono ?_)
  rintro e w1 ⟨Am, nm, km, M, z, rfl, hnm, hP, hO, hu⟩
  have c0 := hu.keep w.heap.size 0 (.int .i64 v) (by simp [go_sem])
  have c1 := hu.keep w.heap.size 1 (.int .i64 60) (by simp [go_sem])
  have c2 := hu.keep w.heap.size 2 (.int .i64 0) (by simp [go_sem])
  have c3 := hu.keep w.heap.size 3 (.slice none 0 0) (by simp [go_sem])
  have HU1 := Lib.hid (((Up.refl w).alloc #[.int .i64 v, .int .i64 60, .int .i64 0, .slice none 0 0] 24).trans hu)
  obtain ⟨A3, k3, e3, _, hSM⟩ := hO.sl
  cases e3
  have HSM := Lib.hid hSM
  have HOM : Hid (∀ b o, Am = some ⟨b, o, none⟩ → b ≠ w.heap.size) := Lib.hid (hO.off (by simp))
  have HLM := Lib.hid hSM.1
  have HP := Lib.hid hP
  have hlt : w.heap.size < w1.heap.size := World.block_lt_of_cell? _ _ c0
  clear hu hO hSM hP K2 KM1 KM3 KM4 ev eq_ r0 r1 s0 s1 HS
  go_upto_if 44 with fail
  go_cut [] (fun wx => ∃ (tt : Int) (B : Option Addr) (m kb : Nat) (K : List It), Hid (Up w wx ∧ Sl wx B m K ∧ stB v 60 tt K = true ∧ m ≤ 60 ∧ wx.cell? ⟨w.heap.size, 0, none⟩ = some (.int .i64 v) ∧ wx.cell? ⟨w.heap.size, 1, none⟩ = some (.int .i64 60) ∧ wx.cell? ⟨w.heap.size, 2, none⟩ = some (.int .i64 tt) ∧ wx.cell? ⟨w.heap.size, 3, none⟩ = some (.slice B m kb)))
  case first =>
    have z0 := HU1.out.ownGe (Nat.le_refl w.heap.size) 0
    have z2 := HU1.out.ownGe (Nat.le_refl w.heap.size) 2
    have z3 := HU1.out.ownGe (Nat.le_refl w.heap.size) 3
    cases nm with
    | zero =>
      go_wp2_with fail
      go_meet
      exact ⟨0, none, 0, 0, [], Lib.hid ⟨HU1.out, Sl.none_, stB_yes (by unfold mayB; rw [tickB_yes (by omega) (by omega), winB_yes (by omega) (by omega)]; rfl) (by simp) (by decide) (decide_eq_true (fun j hj => absurd hj (Nat.not_lt_zero _))), Nat.zero_le _, c0, c1, c2, c3⟩⟩
    | succ y =>
      obtain ⟨b, o, rfl, d0, d1⟩ := HSM.out.at_ (show y < y + 1 by omega)
      have hz := HP.out.2.1
      obtain ⟨g0, g1, g2⟩ := md_state HP.out (by rw [HLM.out]; exact hnm) v1 v20 (by rw [HLM.out]; omega)
      rw [show M.length - 1 = y by rw [HLM.out]; omega] at g0 g1 g2
      generalize (M.getD y (0, 0)).1 = tt at *
      have KL := Lib.hid (fun W (h : Sl W (some ⟨b, o, none⟩) (y + 1) M) => mlive_up (y + 1) km (some ⟨b, o, none⟩) M tt v (by omega) g0 (by omega) v1 v20 W h)
      generalize mlL M tt v = K at *
      have HG := Lib.hid g2
      have b1 : (0 : Int) < (y : Int) + 1 := by omega
      have b2 : (y : Int) < (y : Int) + 1 := by omega
      have b3 : (0 : Int) ≤ (y : Int) := by omega
      clear g2 hz
      go_wp2_with fail
      (with_reducible refine (KL.out _ (HSM.out.off HOM.out _)).mono ?_)
      rintro e w2 ⟨B, m, kb, rfl, hm, hO, hu⟩
      have HO := Lib.hid hO
      have HU2 := Lib.hid ((Up.setCell HU1.out (a := ⟨w.heap.size, 2, none⟩) (Nat.le_refl _) (.int .i64 tt)).trans hu)
      have x0 := hu.keep w.heap.size 0 (.int .i64 v) (cell_set c0)
      have x1 := hu.keep w.heap.size 1 (.int .i64 60) (cell_set c1)
      have x2 := hu.keep w.heap.size 2 (.int .i64 tt) (cell_set c2)
      have x3 := hu.keep w.heap.size 3 (.slice none 0 0) (cell_set c3)
      have y3 := HU2.out.ownGe (Nat.le_refl w.heap.size) 3
      have hs := hu.size
      clear c0 c1 c2 c3 z0 z2 z3 hu hO
      go_wp2_with fail
      go_meet
      refine ⟨tt, B, m, kb, K, Lib.hid ⟨Up.setCell HU2.out (a := ⟨w.heap.size, 3, none⟩) (Nat.le_refl _) _, ?_, HG.out, by omega, cell_set x0, cell_set x1, cell_set x2, cell_set x3⟩⟩
      obtain ⟨A4, k4, e4, _, hS4⟩ := HO.out.sl
      cases e4
      exact hS4.off (HO.out.off (by rw [size_set]; exact hlt)) _
  case rest =>
  obtain ⟨tt, B, m, kb, K, HX⟩ := hcut
  obtain ⟨hsm1, hsm2, hsm3⟩ := st_small HX.out.2.2.1
  have hm := HX.out.2.2.2.1
  have hKl : K.length = m := HX.out.2.1.1
  have HSK := Lib.hid HX.out.2.1
  have HUX := Lib.hid HX.out.1
  have hst := HX.out.2.2.1
  have KS := Lib.hid (fun W (h : Sl W B m K) => sumE_up m kb B K (by omega) hsm1 W h)
  have KD := Lib.hid (fun W (h : Sl W B m K) => spread_up m kb B K (by omega) hsm1 W h)
  have KQ1 := Lib.hid (fun W (h : Sl W B m K) => ask9_2 v 60 tt 0 0 m kb B K hst W h)
  have KQ2 := Lib.hid (fun W (h : Sl W B m K) => ask9_5 v 60 tt 0 0 m kb B K hst W h)
  have KQ3 := Lib.hid (fun W (h : Sl W B m K) => ask9_7 v 60 tt a 0 m kb B K hst W h)
  have KW1 := Lib.hid (fun W => whole8_up (smZ K) (by have := sm_bound hsm3; unfold In; omega) W)
  have KW2 := Lib.hid (fun W => whole8_up (rkN a K : Int) (by have := rkN_le a K; unfold In; omega) W)
  have KR := Lib.hid (fun W (h : Sl W B m K) => rrank_up m kb B K a (by omega) W h)
  have hsf : In (smZ K) := by have := sm_bound hsm3; unfold In; omega
  have hsp := spr_ok hsm3 hsm2
  have KN := Lib.hid (fun W (h : Sl W B m K) => quantile_lo m kb B K p q (by omega) (by omega) W h)
  have hak : askB p q = true := decide_eq_true ⟨q1, p0, by omega⟩
  rw [fit_yes hsf, fits_yes hsf] at KS
  rw [hsp.2.2.2] at KD
  unfold got at KS KN
  unfold gotR at KD
  have e0 := HX.out.2.2.2.2.1
  have e1 := HX.out.2.2.2.2.2.1
  have e2 := HX.out.2.2.2.2.2.2.1
  have e3 := HX.out.2.2.2.2.2.2.2
  have KQ4 : Hid (∀ W, Sl W B m K → Calls Try.prog 25 #[.agg #[.int .i64 v, .int .i64 60, .int .i64 tt, .slice B m kb], .agg #[.int .i64 8, .int .i64 p, .int .i64 q]] W fun e w' => ∃ A' k', e = .returned (.tuple #[.agg #[.int .i64 0, .int .i64 0, .int .i64 0, .int .i64 0, .int .i64 0, .int .i64 0, .slice A' (if (qnO K p q).isSome = true then 1 else 0) k', .int .u64 0, .int .u64 0, .int .u64 0, .int .u64 0], .int .i64 (if (qnO K p q).isSome = true then 0 else 7)]) ∧ Sn w' A' (if (qnO K p q).isSome = true then 1 else 0) (if (qnO K p q).isSome = true then [(qnO K p q).getD 0] else []) ∧ Lo W w') := Lib.hid (fun W hS => by
    by_cases hs : (qnO K p q).isSome = true
    · rw [if_pos hs, if_pos hs, if_pos hs]
      exact ask9_8 v 60 tt p q m kb B K hst (by omega) (by rw [if_neg (by simp [hak]), if_pos hs]) W hS
    · rw [if_neg hs, if_neg hs, if_neg hs]
      exact ask9_8 v 60 tt p q m kb B K hst (by omega) (by rw [if_neg (by simp [hak]), if_neg hs]) W hS)
  clear hsm1 hsm2 hsm3 hKl hst hsf hsp HX HSM HOM HLM HP c0 c1 c2 c3 hak
  generalize smZ K = sm at *
  generalize sprN K = dn at *
  generalize sprD K = dd at *
  generalize (rkN a K : Int) = rk at *
  generalize (qnO K p q).getD 0 = y at *
  generalize (qnO K p q).isSome = sq at *
  have qb1 := fun W => eqBounds9 sm 1 W
  have qb2 := fun W => eqBounds9 rk 1 W
  have qr := fun W => eqRatio9 dn dd W
  have lx : w.heap.size < wc.heap.size := World.block_lt_of_cell? _ _ e0
  go_wp2_with fail
  (with_reducible refine (KS.out _ HSK.out).mono ?_)
  rintro e w2 ⟨rfl, hu2⟩
  have e2_0 := hu2.keep _ _ _ e0
  have e2_1 := hu2.keep _ _ _ e1
  have e2_2 := hu2.keep _ _ _ e2
  have e2_3 := hu2.keep _ _ _ e3
  have HU2 := Lib.hid (HUX.out.trans hu2)
  have HS2 := Lib.hid (HSK.out.up hu2)
  clear hu2 e0 e1 e2 e3
  go_wp2_with fail
  (with_reducible refine (KD.out _ HS2.out).mono ?_)
  rintro e w3 ⟨rfl, hu3⟩
  have e3_0 := hu3.keep _ _ _ e2_0
  have e3_1 := hu3.keep _ _ _ e2_1
  have e3_2 := hu3.keep _ _ _ e2_2
  have e3_3 := hu3.keep _ _ _ e2_3
  have HU3 := Lib.hid (HU2.out.trans hu3)
  have HS3 := Lib.hid (HS2.out.up hu3)
  clear hu3 e2_0 e2_1 e2_2 e2_3
  have lx3 : w.heap.size < w3.heap.size := World.block_lt_of_cell? _ _ e3_0
  go_wp2_with fail
  (with_reducible refine (KQ1.out _ (HS3.out.up ((Up.refl _).alloc _ _))).mono ?_)
  rintro e w4 ⟨rfl, hu⟩
  have hv := ((Up.refl w3).alloc #[.int .i64 dn, .int .i64 dd] 46).trans hu
  have e4_0 := hv.keep _ _ _ e3_0
  have e4_1 := hv.keep _ _ _ e3_1
  have e4_2 := hv.keep _ _ _ e3_2
  have e4_3 := hv.keep _ _ _ e3_3
  have b4_0_0 := hu.keep (w3.heap.size) 0 (.int .i64 dn) (by simp [go_sem])
  have b4_0_1 := hu.keep (w3.heap.size) 1 (.int .i64 dd) (by simp [go_sem])
  have HU4 := Lib.hid (HU3.out.trans hv)
  have HS4 := Lib.hid (HS3.out.up hv)
  have lx4 : w.heap.size < w4.heap.size := World.block_lt_of_cell? _ _ e4_0
  clear hu hv e3_0 e3_1 e3_2 e3_3 
  go_wp2_with fail
  (with_reducible refine (KQ2.out _ (HS4.out.up ((Up.refl _).alloc _ _))).mono ?_)
  rintro e w5 ⟨rfl, hu⟩
  have hv := ((Up.refl w4).alloc #[.int .i64 sm, .int .i64 1, .int .i64 sm, .int .i64 1, .int .i64 sm, .int .i64 1, .slice none 0 0, .int .u64 0, .int .u64 0, .int .u64 0, .int .u64 0] 58).trans hu
  have e5_0 := hv.keep _ _ _ e4_0
  have e5_1 := hv.keep _ _ _ e4_1
  have e5_2 := hv.keep _ _ _ e4_2
  have e5_3 := hv.keep _ _ _ e4_3
  have b5_0_0 := hv.keep _ _ _ b4_0_0
  have b5_0_1 := hv.keep _ _ _ b4_0_1
  have b5_1_0 := hu.keep (w4.heap.size) 0 (.int .i64 sm) (by simp [go_sem])
  have b5_1_1 := hu.keep (w4.heap.size) 1 (.int .i64 1) (by simp [go_sem])
  have b5_1_2 := hu.keep (w4.heap.size) 2 (.int .i64 sm) (by simp [go_sem])
  have b5_1_3 := hu.keep (w4.heap.size) 3 (.int .i64 1) (by simp [go_sem])
  have b5_1_4 := hu.keep (w4.heap.size) 4 (.int .i64 sm) (by simp [go_sem])
  have b5_1_5 := hu.keep (w4.heap.size) 5 (.int .i64 1) (by simp [go_sem])
  have HU5 := Lib.hid (HU4.out.trans hv)
  have HS5 := Lib.hid (HS4.out.up hv)
  have lx5 : w.heap.size < w5.heap.size := World.block_lt_of_cell? _ _ e5_0
  clear hu hv e4_0 e4_1 e4_2 e4_3 b4_0_0 b4_0_1
  go_wp2_with fail
  (with_reducible refine (KQ3.out _ (HS5.out.up ((Up.refl _).alloc _ _))).mono ?_)
  rintro e w6 ⟨rfl, hu⟩
  have hv := ((Up.refl w5).alloc #[.int .i64 dn, .int .i64 dd, .int .i64 dn, .int .i64 dd, .int .i64 dn, .int .i64 dd, .slice none 0 0, .int .u64 0, .int .u64 0, .int .u64 0, .int .u64 0] 58).trans hu
  have e6_0 := hv.keep _ _ _ e5_0
  have e6_1 := hv.keep _ _ _ e5_1
  have e6_2 := hv.keep _ _ _ e5_2
  have e6_3 := hv.keep _ _ _ e5_3
  have b6_0_0 := hv.keep _ _ _ b5_0_0
  have b6_0_1 := hv.keep _ _ _ b5_0_1
  have b6_1_0 := hv.keep _ _ _ b5_1_0
  have b6_1_1 := hv.keep _ _ _ b5_1_1
  have b6_1_2 := hv.keep _ _ _ b5_1_2
  have b6_1_3 := hv.keep _ _ _ b5_1_3
  have b6_1_4 := hv.keep _ _ _ b5_1_4
  have b6_1_5 := hv.keep _ _ _ b5_1_5
  have b6_2_0 := hu.keep (w5.heap.size) 0 (.int .i64 dn) (by simp [go_sem])
  have b6_2_1 := hu.keep (w5.heap.size) 1 (.int .i64 dd) (by simp [go_sem])
  have b6_2_2 := hu.keep (w5.heap.size) 2 (.int .i64 dn) (by simp [go_sem])
  have b6_2_3 := hu.keep (w5.heap.size) 3 (.int .i64 dd) (by simp [go_sem])
  have b6_2_4 := hu.keep (w5.heap.size) 4 (.int .i64 dn) (by simp [go_sem])
  have b6_2_5 := hu.keep (w5.heap.size) 5 (.int .i64 dd) (by simp [go_sem])
  have HU6 := Lib.hid (HU5.out.trans hv)
  have HS6 := Lib.hid (HS5.out.up hv)
  have lx6 : w.heap.size < w6.heap.size := World.block_lt_of_cell? _ _ e6_0
  clear hu hv e5_0 e5_1 e5_2 e5_3 b5_0_0 b5_0_1 b5_1_0 b5_1_1 b5_1_2 b5_1_3 b5_1_4 b5_1_5
  go_wp2_with fail
  obtain ⟨w7, hw7⟩ : ∃ y, y = w6.alloc (.cells #[.int .i64 rk, .int .i64 1, .int .i64 rk, .int .i64 1, .int .i64 rk, .int .i64 1, .slice none 0 0, .int .u64 0, .int .u64 0, .int .u64 0, .int .u64 0] 58) := ⟨_, rfl⟩
  rw [← hw7]
  have hv : Up w6 w7 := by rw [hw7]; exact (Up.refl _).alloc _ _
  have HU7 := Lib.hid (HU6.out.trans hv)
  have HS7 := Lib.hid (HS6.out.up hv)
  have HSS : Hid (Up w7 w7 ∧ w7.cell? ⟨w.heap.size, 3, none⟩ = some (.slice B m kb) ∧ w7.cell? ⟨w3.heap.size, 0, none⟩ = some (.int .i64 dn) ∧ w7.cell? ⟨w3.heap.size, 1, none⟩ = some (.int .i64 dd) ∧ w7.cell? ⟨w4.heap.size, 0, none⟩ = some (.int .i64 sm) ∧ w7.cell? ⟨w4.heap.size, 1, none⟩ = some (.int .i64 1) ∧ w7.cell? ⟨w4.heap.size, 2, none⟩ = some (.int .i64 sm) ∧ w7.cell? ⟨w4.heap.size, 3, none⟩ = some (.int .i64 1) ∧ w7.cell? ⟨w4.heap.size, 4, none⟩ = some (.int .i64 sm) ∧ w7.cell? ⟨w4.heap.size, 5, none⟩ = some (.int .i64 1) ∧ w7.cell? ⟨w5.heap.size, 0, none⟩ = some (.int .i64 dn) ∧ w7.cell? ⟨w5.heap.size, 1, none⟩ = some (.int .i64 dd) ∧ w7.cell? ⟨w6.heap.size, 0, none⟩ = some (.int .i64 rk) ∧ w7.cell? ⟨w6.heap.size, 1, none⟩ = some (.int .i64 1) ∧ w7.cell? ⟨w6.heap.size, 2, none⟩ = some (.int .i64 rk) ∧ w7.cell? ⟨w6.heap.size, 3, none⟩ = some (.int .i64 1) ∧ w7.cell? ⟨w6.heap.size, 4, none⟩ = some (.int .i64 rk) ∧ w7.cell? ⟨w6.heap.size, 5, none⟩ = some (.int .i64 1)) := Lib.hid ⟨Up.refl _, hv.keep _ _ _ e6_3, hv.keep _ _ _ b6_0_0, hv.keep _ _ _ b6_0_1, hv.keep _ _ _ b6_1_0, hv.keep _ _ _ b6_1_1, hv.keep _ _ _ b6_1_2, hv.keep _ _ _ b6_1_3, hv.keep _ _ _ b6_1_4, hv.keep _ _ _ b6_1_5, hv.keep _ _ _ b6_2_0, hv.keep _ _ _ b6_2_1, (by rw [hw7]; simp [go_sem]), (by rw [hw7]; simp [go_sem]), (by rw [hw7]; simp [go_sem]), (by rw [hw7]; simp [go_sem]), (by rw [hw7]; simp [go_sem]), (by rw [hw7]; simp [go_sem])⟩
  have f7_0 := hv.keep _ _ _ e6_0
  have f7_1 := hv.keep _ _ _ e6_1
  have f7_2 := hv.keep _ _ _ e6_2
  have f7_3 := hv.keep _ _ _ e6_3
  have HF : Hid (w7.cell? ⟨w.heap.size, 0, none⟩ = some (.int .i64 v) ∧ w7.cell? ⟨w.heap.size, 1, none⟩ = some (.int .i64 60) ∧ w7.cell? ⟨w.heap.size, 2, none⟩ = some (.int .i64 tt) ∧ w7.cell? ⟨w.heap.size, 3, none⟩ = some (.slice B m kb)) := Lib.hid ⟨f7_0, f7_1, f7_2, f7_3⟩
  clear hw7 hv f7_0 f7_1 f7_2 f7_3 e6_0 e6_1 e6_2 e6_3 b6_0_0 b6_0_1 b6_1_0 b6_1_1 b6_1_2 b6_1_3 b6_1_4 b6_1_5 b6_2_0 b6_2_1 b6_2_2 b6_2_3 b6_2_4 b6_2_5
  go_region_held3 (fun w' => Up w7 w' ∧ w'.cell? ⟨w.heap.size, 3, none⟩ = some (.slice B m kb) ∧ w'.cell? ⟨w3.heap.size, 0, none⟩ = some (.int .i64 dn) ∧ w'.cell? ⟨w3.heap.size, 1, none⟩ = some (.int .i64 dd) ∧ w'.cell? ⟨w4.heap.size, 0, none⟩ = some (.int .i64 sm) ∧ w'.cell? ⟨w4.heap.size, 1, none⟩ = some (.int .i64 1) ∧ w'.cell? ⟨w4.heap.size, 2, none⟩ = some (.int .i64 sm) ∧ w'.cell? ⟨w4.heap.size, 3, none⟩ = some (.int .i64 1) ∧ w'.cell? ⟨w4.heap.size, 4, none⟩ = some (.int .i64 sm) ∧ w'.cell? ⟨w4.heap.size, 5, none⟩ = some (.int .i64 1) ∧ w'.cell? ⟨w5.heap.size, 0, none⟩ = some (.int .i64 dn) ∧ w'.cell? ⟨w5.heap.size, 1, none⟩ = some (.int .i64 dd) ∧ w'.cell? ⟨w6.heap.size, 0, none⟩ = some (.int .i64 rk) ∧ w'.cell? ⟨w6.heap.size, 1, none⟩ = some (.int .i64 1) ∧ w'.cell? ⟨w6.heap.size, 2, none⟩ = some (.int .i64 rk) ∧ w'.cell? ⟨w6.heap.size, 3, none⟩ = some (.int .i64 1) ∧ w'.cell? ⟨w6.heap.size, 4, none⟩ = some (.int .i64 rk) ∧ w'.cell? ⟨w6.heap.size, 5, none⟩ = some (.int .i64 1))
    (repeat (first | (with_reducible exact HSS.out) | (with_reducible exact keep17 (by assumption) (by assumption)) | (with_reducible exact Hid.out (by assumption)) | (with_reducible refine keep17 (Lib.hid (Up.refl _).drew) ?_)))
    (first
      | (go_at_call 26; (with_reducible refine (KW1.out _).mono ?_); rintro e w8 ⟨rfl, hu⟩; have HU8 := Lib.hid hu; have HX8 := Lib.hid (keep17 HU8 (by assumption)); clear hu)
      | (go_at_call 27; (with_reducible refine (KR.out _ (HS7.out.up (by assumption : Up w7 _ ∧ _).1)).mono ?_); rintro e w9 ⟨rfl, hu⟩; have HU9 := Lib.hid hu; have HX9 := Lib.hid (keep17 HU9 (by assumption)); clear hu)
      | (go_at_call 26; (with_reducible refine (KW2.out _).mono ?_); rintro e w10 ⟨rfl, hu⟩; have HU10 := Lib.hid hu; have HX10 := Lib.hid (keep17 HU10 (by assumption)); clear hu))
  clear ‹Up w7 _ ∧ _›
  have HV := Lib.hid HX10.out.1
  clear HSS HX8 HX9 HX10 HU8 HU9 HU10
  have f0 := HV.out.keep _ _ _ HF.out.1
  have f1 := HV.out.keep _ _ _ HF.out.2.1
  have f2 := HV.out.keep _ _ _ HF.out.2.2.1
  have f3 := HV.out.keep _ _ _ HF.out.2.2.2
  have HSA := Lib.hid (HS7.out.up HV.out)
  have HUA := Lib.hid (HU7.out.trans HV.out)
  clear KS KD KQ1 KQ2 KQ3 KW1 KW2 KR qb1 qb2 qr
  cases sq with
  | true =>
    simp only [if_true] at KQ4
    go_wp2_with fail
    (with_reducible refine (KQ4.out _ HSA.out).mono ?_)
    rintro e w11 ⟨A2, k2, rfl, hN, hl⟩
    have HN := Lib.hid hN
    have g3 := hl.keep _ _ _ f3
    have HSB := Lib.hid (HSA.out.lo hl)
    have HLB : Hid (Lo w w11) := Lib.hid (Below.trans HUA.out.below (hl.mono HUA.out.size))
    clear hN hl f0 f1 f2 f3 KQ4
    have lx11 : w.heap.size < w11.heap.size := World.block_lt_of_cell? _ _ g3
    go_wp2_with fail
    (with_reducible refine (KN.out _ (HSB.out.up ((Up.refl _).alloc _ _))).mono ?_)
    rintro e w12 ⟨rfl, hl⟩
    have y6 := hl.keep w11.heap.size 6 (.slice A2 1 k2) (by simp [go_sem])
    have HNB : Hid (Sn w12 A2 1 [y]) := Lib.hid ((HN.out.up ((Up.refl _).alloc _ _)).lo hl)
    have HLC : Hid (Lo w w12) := Lib.hid (Below.trans (HLB.out.up ((Up.refl w11).alloc #[.int .i64 0, .int .i64 0, .int .i64 0, .int .i64 0, .int .i64 0, .int .i64 0, .slice A2 1 k2, .int .u64 0, .int .u64 0, .int .u64 0, .int .u64 0] 58)) (hl.mono (Below.size (HLB.out.up ((Up.refl w11).alloc #[.int .i64 0, .int .i64 0, .int .i64 0, .int .i64 0, .int .i64 0, .int .i64 0, .slice A2 1 k2, .int .u64 0, .int .u64 0, .int .u64 0, .int .u64 0] 58)))))
    clear hl g3 HN
    have ly : w11.heap.size < w12.heap.size := World.block_lt_of_cell? _ _ y6
    have KSN := Lib.hid (fun W B2 (hA : Sn W A2 1 [y]) (hB : Sn W B2 1 [y]) => sameNum_t 1 k2 1 A2 B2 [y] (by omega) W hA hB)
    have HRW : Hid (Sn (w12.alloc (.cells #[.int .i64 y] 2)) (some ⟨w12.heap.size, 0, none⟩) 1 [y]) := Lib.hid ((Bn.new w12 [y] _ rfl).sn rfl)
    go_wp2_with (first
      | (go_at_call 29; (with_reducible refine (KSN.out _ _ (HNB.out.up ((Up.refl _).alloc _ _)) HRW.out).mono ?_); rintro e w13 ⟨rfl, hu⟩; have HU13 := Lib.hid (((Up.refl w12).alloc #[.int .i64 y] 2).trans hu); clear hu)
      | (go_at_call 10; (with_reducible refine (KA.out _).mono ?_); rintro e w14 ⟨rfl, hu⟩; have HU14 := Lib.hid (HU13.out.trans hu); clear hu))
    go_ret
    exact ⟨rfl, HLC.out.up HU14.out⟩
  | false =>
    simp only [Bool.false_eq_true, if_false] at KQ4
    go_wp2_with fail
    (with_reducible refine (KQ4.out _ HSA.out).mono ?_)
    rintro e w11 ⟨A2, k2, rfl, hN, hl⟩
    have HN := Lib.hid hN
    have g3 := hl.keep _ _ _ f3
    have HSB := Lib.hid (HSA.out.lo hl)
    have HLB : Hid (Lo w w11) := Lib.hid (Below.trans HUA.out.below (hl.mono HUA.out.size))
    clear hN hl f0 f1 f2 f3 KQ4
    have lx11 : w.heap.size < w11.heap.size := World.block_lt_of_cell? _ _ g3
    go_wp2_with fail
    (with_reducible refine (KN.out _ (HSB.out.up ((Up.refl _).alloc _ _))).mono ?_)
    rintro e w12 ⟨rfl, hl⟩
    have y6 := hl.keep w11.heap.size 6 (.slice A2 0 k2) (by simp [go_sem])
    have HNB : Hid (Sn w12 A2 0 []) := Lib.hid ((HN.out.up ((Up.refl _).alloc _ _)).lo hl)
    have HLC : Hid (Lo w w12) := Lib.hid (Below.trans (HLB.out.up ((Up.refl w11).alloc #[.int .i64 0, .int .i64 0, .int .i64 0, .int .i64 0, .int .i64 0, .int .i64 0, .slice A2 0 k2, .int .u64 0, .int .u64 0, .int .u64 0, .int .u64 0] 58)) (hl.mono (Below.size (HLB.out.up ((Up.refl w11).alloc #[.int .i64 0, .int .i64 0, .int .i64 0, .int .i64 0, .int .i64 0, .int .i64 0, .slice A2 0 k2, .int .u64 0, .int .u64 0, .int .u64 0, .int .u64 0] 58)))))
    clear hl g3 HN
    have ly : w11.heap.size < w12.heap.size := World.block_lt_of_cell? _ _ y6
    go_wp2_with (go_at_call 10; (with_reducible refine (KA.out _).mono ?_); rintro e w14 ⟨rfl, hu⟩; have HU14 := Lib.hid hu; clear hu)
    go_ret
    exact ⟨rfl, HLC.out.up HU14.out⟩

set_option maxRecDepth 100000 in
theorem recentTruth_lifted (os : Os) (started : os.Started) (H : Type) (enc : TypeId × Value → H) :
    ReturnsInHanded {} Try.checked os 6 .any (Rows.recentTruthSpec.pre6 enc Try.prog Try.f6 Rows.recentTruthRow.domain false) (Rows.recentTruthSpec.post enc Try.prog Try.f6 false true false false) := by
  refine returnsInHanded_of_change_sized (C := Try.checked) recentTruth_own started (by kernel_rfl) Try.func6
    (ChangeSpec.witness6 (enc := enc) (C := Try.checked) false ⟨#[], #[.slice none 0 0, .int .i64 0, .int .i64 0, .int .i64 0, .int .i64 0], []⟩ 8 (by kernel_rfl) (by kernel_rfl) (by kernel_rfl) (by kernel_rfl)) ?_
  intro W base args ds gs before hval0 hW hcnd hsz0 _
  have hval : ∀ (j : Nat) t v, Try.f6.params[j]? = some t → args[j]? = some v → Value.okWide Try.prog W .any base t v := hval0
  have hW' := hW
  obtain ⟨p, q, hA0, hV, rfl, hfz, hnd⟩ := hW'
  have hA : DataW.TrodAll enc Try.prog W 0 (fun _ => true) true Try.f6.params.toList args.toList ds p := hA0
  rw [Try.params6] at hA hval
  obtain ⟨v0, vs0, d0, ds0, p0, q0, hargs, rfl, rfl, h0, r0⟩ := trodAll_cons hA
  obtain ⟨v1, vs1, d1, ds1, p1, q1, rfl, rfl, rfl, h1, r1⟩ := trodAll_cons r0
  obtain ⟨v2, vs2, d2, ds2, p2, q2, rfl, rfl, rfl, h2, r2⟩ := trodAll_cons r1
  obtain ⟨v3, vs3, d3, ds3, p3, q3, rfl, rfl, rfl, h3, r3⟩ := trodAll_cons r2
  obtain ⟨v4, vs4, d4, ds4, p4, q4, rfl, rfl, rfl, h4, r4⟩ := trodAll_cons r3
  obtain ⟨rfl, rfl, rfl⟩ := trodAll_nil r4
  obtain rfl : args = #[v0, v1, v2, v3, v4] := by cases args; simp_all
  obtain ⟨rfl, rfl⟩ := trodVars_none hV
  have hlt := fun x hx => hW.lt x hx
  have k0 := h0
  obtain ⟨n0, m0, A0, L0, rfl, hk0, hS0, hI0⟩ := open_items2 (hval 0 22 v0 rfl rfl) h0
  have k1 := h1
  obtain ⟨a1, rfl, rfl, rfl, w1⟩ := open_int Try.underlying2 (hval 1 2 v1 rfl rfl) h1
  have k2 := h2
  obtain ⟨a2, rfl, rfl, rfl, w2⟩ := open_int Try.underlying2 (hval 2 2 v2 rfl rfl) h2
  have k3 := h3
  obtain ⟨a3, rfl, rfl, rfl, w3⟩ := open_int Try.underlying2 (hval 3 2 v3 rfl rfl) h3
  have k4 := h4
  obtain ⟨a4, rfl, rfl, rfl, w4⟩ := open_int Try.underlying2 (hval 4 2 v4 rfl rfl) h4
  refine (recentTruth_walk n0 m0 A0 L0 hk0 hI0 a1 w1 a2 w2 a3 w3 a4 w4 W hS0).mono fun e W' ⟨he, hg⟩ => ?_
  subst he
  exact ⟨_, rfl, post_lo hg hW (fun _ _ _ => (trodAll_cons_mk (shut_bool Try.underlying4 _) trodAll_mk0)) (fun sp hsp => (trodAll_cons_mk (stayLo (by kernel_rfl) (of_decide_eq_true (by kernel_rfl)) k0 hg hlt (fun x hx => by first | (simp at hx; done) | simp [hx]) hsp) (trodAll_cons_mk (stayLo (by kernel_rfl) (of_decide_eq_true (by kernel_rfl)) k1 hg hlt (fun x hx => by first | (simp at hx; done) | simp [hx]) hsp) (trodAll_cons_mk (stayLo (by kernel_rfl) (of_decide_eq_true (by kernel_rfl)) k2 hg hlt (fun x hx => by first | (simp at hx; done) | simp [hx]) hsp) (trodAll_cons_mk (stayLo (by kernel_rfl) (of_decide_eq_true (by kernel_rfl)) k3 hg hlt (fun x hx => by first | (simp at hx; done) | simp [hx]) hsp) (trodAll_cons_mk (stayLo (by kernel_rfl) (of_decide_eq_true (by kernel_rfl)) k4 hg hlt (fun x hx => by first | (simp at hx; done) | simp [hx]) hsp) trodAll_mk0)))))) (fun _ => rfl) (by simp)
    (ok_one (by kernel_rfl) rfl (okWide_bool_mk Try.underlying4 _))⟩

theorem recentTruth_over : Rows.recentTruthRow.holds Try.pinned (OpenSpec.ofChange Rows.recentTruthSpec) :=
  OpenClaim.holds_of_wide 6 Try.f6 rfl rfl rfl rfl rfl rfl rfl ⟨rfl, rfl, rfl, rfl, rfl⟩ rfl rfl rfl rfl rfl (by kernel_rfl) Try.func6 (by kernel_rfl)
    (of_decide_eq_true (by kernel_rfl)) (by unfold Func.isWrapper; first | (rw [if_pos (by decide +kernel)]; kernel_rfl) | (rw [if_neg (by decide +kernel)]; exact ⟨rfl, rfl⟩))
    (fun os started H enc _ => recentTruth_lifted os started H enc)

theorem recentTruth_holds : Rows.RecentTruthSaid :=
  recentTruth_over
#print axioms recentTruth_holds
end Go.Proofs.Ytflahclphdlolaa
