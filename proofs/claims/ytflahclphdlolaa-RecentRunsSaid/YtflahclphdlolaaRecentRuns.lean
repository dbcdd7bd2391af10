/- Proved: for every list of raw items, any width and any capacity the law RecentRuns returns true: the stored list has, after any items, exactly those that are live and found room. Conditions: none. -/
import Derived.Test.YtflahclphdlolaaRows
import Derived.WalkKit
import Derived.ProofKit
import Derived.OpenShut
import Derived.Lib.SmallJoins
import Derived.Test.YtflahclphdlolaaEFrame
import Derived.Test.YtflahclphdlolaaFFrame
import Derived.SizedLaws
import Derived.Test.YtflahclphdlolaaFAwake
import Derived.Test.YtflahclphdlolaaFState
import Derived.Test.YtflahclphdlolaaFMade
namespace Go.Proofs.Ytflahclphdlolaa
open Go.ChangeShapes Go.WideShapes Go.ChangeAt Go.RowKit Go.Joins
set_option linter.unusedVariables false

theorem recentRuns_own : ownKnob Try.prog.godebug = none := by kernel_rfl

set_option maxHeartbeats 16000000 in
set_option maxRecDepth 100000 in
theorem recentRuns_walk (n k : Nat) (A : Option Addr) (L : List It) (hk : n ≤ k) (hI : InI L) (a : Int) (_ : (Lit.int .i64 a).wf = true) (b : Int) (_ : (Lit.int .i64 b).wf = true) (w : World) (hS : Sl w A n L) :
    Calls Try.prog 5 #[.slice A n k, .int .i64 a, .int .i64 b] w fun e w' => e = .returned (.bool true) ∧ Up w w' := by
  have KA := Lib.hid awake9_up
  have HS := Lib.hid hS
  have KM1 := Lib.hid (fun W => modm_any a 20 (by omega) (by omega) W)
  have KM2 := Lib.hid (fun W => int_any b 30 (by omega) (by omega) W)
  have r0 : 0 ≤ a % 20 := Int.emod_nonneg _ (by omega)
  have r1 : a % 20 < 20 := Int.emod_lt_of_pos _ (by omega)
  have s0 : 0 ≤ b % 30 := Int.emod_nonneg _ (by omega)
  have s1 : b % 30 < 30 := Int.emod_lt_of_pos _ (by omega)
  generalize a % 20 = r at *
  generalize b % 30 = s at *
  obtain ⟨v, ev⟩ : ∃ v, 1 + r = v := ⟨_, rfl⟩
  obtain ⟨c, ec⟩ : ∃ c, 1 + s = c := ⟨_, rfl⟩
  have v1 : 1 ≤ v := by omega
  have v20 : v ≤ 20 := by omega
  have c1 : 1 ≤ c := by omega
  have c30 : c ≤ 30 := by omega
  have hmay : mayB v c 0 = true := by unfold mayB; rw [tickB_yes (by omega) (by omega), winB_yes (by omega) (by omega), decide_eq_true (show 1 ≤ c ∧ c ≤ 65536 by omega)]; rfl
  have hst0 : stB v c 0 [] = true := stB_yes hmay (by simp; omega) (by decide) (decide_eq_true (fun j hj => absurd hj (Nat.not_lt_zero _)))
  have K1 := Lib.hid (fun W => new9_yes v c 0 hmay W)
  have K2 := Lib.hid (fun W (h : Sl W A n L) => items_up n k A L v v1 v20 W h)
  have HST0 := Lib.hid hst0
  clear hS hmay hst0 hI
  go_enter Try.func5, Try.ntmps5
  go_wp2_with (first
    | (go_at_call 18; (with_reducible refine (KM1.out _).mono ?_); rintro e w' ⟨rfl, rfl⟩)
    | (go_at_call 19; (with_reducible refine (KM2.out _).mono ?_); rintro e w' ⟨rfl, rfl⟩)
    | (go_at_call 7; (with_reducible refine (K1.out _).mono ?_); rintro e w1 ⟨rfl, hu⟩; have HU1 := Lib.hid hu; clear hu)
    | (go_at_call 20; (with_reducible refine (K2.out _ (HS.out.up (HU1.out.alloc _ _))).mono ?_); rintro e w2 ⟨Am, nm, km, M, z, rfl, hnm, hP, hO, hu⟩; have HU2 := Lib.hid ((HU1.out.alloc _ _).trans hu); have HP := Lib.hid hP; have HO := Lib.hid hO; have a0 := hu.keep w1.heap.size 0 (.int .i64 v) (by simp [go_sem]); have a1 := hu.keep w1.heap.size 1 (.int .i64 c) (by simp [go_sem]); have a2 := hu.keep w1.heap.size 2 (.int .i64 0) (by simp [go_sem]); have a3 := hu.keep w1.heap.size 3 (.slice none 0 0) (by simp [go_sem]); clear hu hO hP))
  clear ev ec r0 r1 s0 s1
  have hpw := HU1.out.size
  have HOM : Hid (∀ b o, Am = some ⟨b, o, none⟩ → b ≠ w1.heap.size) := Lib.hid (HO.out.off (by simp))
  have HR0 : Hid (Rn w w2 w1.heap.size v c Am nm M 0 (.slice none 0 0)) := Lib.hid (by
    obtain ⟨A3, k3, e3, _, hS3⟩ := HO.out.sl
    cases e3
    exact ⟨0, [], none, none, 0, 0, rfl, Nat.le_refl _, Sl.none_, Sl.none_, hS3, HST0.out, fun h0 => (HP.out.2.2 0 (by rw [hS3.1]; exact h0)).1, a0, a1, a2, a3, HU2.out, fun _ _ e => by cases e⟩)
  have HNM : Hid (M.length = nm) := Lib.hid (by obtain ⟨A3, k3, e3, _, hS3⟩ := HO.out.sl; cases e3; exact hS3.1)
  have hpl : w1.heap.size < w2.heap.size := World.block_lt_of_cell? _ _ a0
  clear a0 a1 a2 a3 HO HST0 K1 K2 KM1 KM2 HS HU2
  generalize w1.heap.size = p at *
  go_loopw [9, 32] (fun s t wr => ∃ i : Nat, t = .int .i64 i ∧ i ≤ nm ∧ Hid (Rn w wr p v c Am nm M i s)) (fun _ t _ => nm - (intOf t).toNat)
  case atStart => exact ⟨0, rfl, Nat.zero_le _, HR0⟩
  case round =>
    obtain ⟨i, rfl, hin, HQ⟩ := hrel
    by_cases hlt : i < nm
    case neg =>
      have HU : Hid (Up w wr) := Lib.hid (by obtain ⟨_, _, _, _, _, _, _, _, _, _, _, _, _, _, _, _, _, hu, _⟩ := HQ.out; exact hu)
      go_wp2_with (go_at_call 10; (with_reducible refine (KA.out _).mono ?_); rintro e w3 ⟨rfl, hu⟩; have HU3 := Lib.hid (HU.out.trans hu); clear hu)
      go_ret
      exact ⟨rfl, HU3.out⟩
    obtain ⟨now, K, A1, B1, k1, kb, rfl, hk1, hSA, hSB, hSM, hst, hnow, e0, e1, e2, e3, hUp, hoff⟩ := HQ.out
    obtain ⟨b', o', rfl, d0, d1⟩ := hSM.at_ hlt
    have hml : i < M.length := by rw [HNM.out]; exact hlt
    have hPi := HP.out.2.2 i hml
    have hz := HP.out.2.1
    have hzm : z ≤ 2460 := by rw [HNM.out] at hz; omega
    have hn := hnow hlt
    have HX : Hid (i + 1 < nm → (M.getD i (0, 0)).1 ≤ (M.getD (i + 1) (0, 0)).1) := Lib.hid (fun h => by
      have := (HP.out.2.2 (i + 1) (by rw [HNM.out]; exact h)).2.2.1 (by omega)
      rwa [Nat.add_sub_cancel] at this)
    generalize (M.getD i (0, 0)).1 = p0 at *
    generalize (M.getD i (0, 0)).2 = p1 at *
    obtain ⟨q1, q2, _, q4⟩ := hPi
    obtain ⟨hle, hst1, hv1⟩ := adv_state hst hn (show p0 ≤ 16777216 by omega)
    have hml2 : mlL K p0 v = livE K p0 v := by
      rw [hle]
      exact mlL_live (tickB_yes q1 (by omega)) (winB_yes (by omega) (by omega)) hv1
    have hc := stB_true hst1
    have hKl : K.length ≤ 30 := by have := (stB_true hst).2.1; omega
    have KD := Lib.hid (fun W (h : Sl W A1 K.length K) => adv9_good v c now p0 K.length k1 A1 K hst hn (by omega) W h)
    have KL := Lib.hid (fun W (h : Sl W B1 K.length K) => mlive_up K.length kb B1 K p0 v (by omega) q1 (by omega) v1 v20 W h)
    rw [hml2] at KL
    have hcl := hc.2.1
    clear hle hv1 hml2 hst hnow hc hz
    generalize livE K p0 v = K' at *
    have HA := Lib.hid hSA
    have HB := Lib.hid hSB
    have HM := Lib.hid hSM
    have HU := Lib.hid hUp
    have HOB := Lib.hid hoff
    have HV := Lib.hid q4
    have HST := Lib.hid hst1
    clear hSA hSB hSM hUp hoff HQ hst1 q4 hk1 HR0
    generalize K.length = lk at *
    have f2 : (i : Int) < nm := by omega
    have f3 : (0 : Int) ≤ i := by omega
    have hpr : p < wr.heap.size := World.block_lt_of_cell? _ _ e0
    have hpr' : ¬ wr.heap.size = p := by omega
    have hpr2 : ¬ p = wr.heap.size := by omega
    go_wp2_with (go_at_call 12; (with_reducible refine (KD.out _ (HA.out.up ((Up.refl _).alloc _ _))).mono ?_); rintro e w3 ⟨A2, n2, k2, rfl, hn2, hk2, hnw, hS2, hu⟩; have hv := ((Up.refl wr).alloc #[.int .i64 p0, .int .i64 p1] 39).trans hu; have x0 := hv.keep _ _ _ e0; have x1 := hv.keep _ _ _ e1; have x2 := hv.keep _ _ _ e2; have x3 := hv.keep _ _ _ e3; have y0 := hu.keep wr.heap.size 0 (.int .i64 p0) (by simp [go_sem]); have y1 := hu.keep wr.heap.size 1 (.int .i64 p1) (by simp [go_sem]); have HU3 := Lib.hid (HU.out.trans hv); have HV3 := Lib.hid hv; have HN2 := Lib.hid hnw; have HS2 := Lib.hid hS2; have z0 := HU3.out.ownGe (g := p) hpw 0; have z1 := HU3.out.ownGe (g := p) hpw 1; have z2 := HU3.out.ownGe (g := p) hpw 2; have z3 := HU3.out.ownGe (g := p) hpw 3; clear hu hv hnw hS2 e0 e1 e2 e3 d0 d1)
    obtain ⟨w4, hw4⟩ : ∃ y, y = ((((w3.setCell ⟨p, 0, none⟩ (.int .i64 v)).setCell ⟨p, 1, none⟩ (.int .i64 c)).setCell ⟨p, 2, none⟩ (.int .i64 p0)).setCell ⟨p, 3, none⟩ (.slice A2 n2 k2)) := ⟨_, rfl⟩
    rw [← hw4]
    have hp3 : p < w3.heap.size := World.block_lt_of_cell? _ _ x0
    have hq3 : wr.heap.size < w3.heap.size := World.block_lt_of_cell? _ _ y0
    have HU4 : Hid (Up w w4) := Lib.hid (by rw [hw4]; exact HU3.out.set4 hpw)
    obtain ⟨c0, c1_, c2, c3⟩ : w4.cell? ⟨p, 0, none⟩ = some (.int .i64 v) ∧ w4.cell? ⟨p, 1, none⟩ = some (.int .i64 c) ∧ w4.cell? ⟨p, 2, none⟩ = some (.int .i64 p0) ∧ w4.cell? ⟨p, 3, none⟩ = some (.slice A2 n2 k2) := by rw [hw4]; exact cells4 x0 x1 x2 x3
    have y0' : w4.cell? ⟨wr.heap.size, 0, none⟩ = some (.int .i64 p0) := by rw [hw4]; exact far4 y0 (by omega)
    have y1' : w4.cell? ⟨wr.heap.size, 1, none⟩ = some (.int .i64 p1) := by rw [hw4]; exact far4 y1 (by omega)
    have HA4 : Hid (Sl w4 A2 n2 K') := Lib.hid (by rw [hw4]; exact HS2.out.off4 (HN2.out.off (by simp; omega)) _ _ _ _)
    have HB4 : Hid (Sl w4 B1 lk K) := Lib.hid (by rw [hw4]; exact (HB.out.up HV3.out).off4 HOB.out _ _ _ _)
    have HM4 : Hid (Sl w4 (some ⟨b', o', none⟩) nm M) := Lib.hid (by rw [hw4]; exact (HM.out.up HV3.out).off4 HOM.out _ _ _ _)
    have hs4 : w4.heap.size = w3.heap.size := by rw [hw4]; simp [World.setCell]
    have en2 : n2 = K'.length := HS2.out.1.symm
    have HEN := Lib.hid en2
    clear hw4 x0 x1 x2 x3 y0 y1 z0 z1 z2 z3 HS2 HB HM en2
    (with_reducible refine (KL.out _ HB4.out).mono ?_)
    rintro e w5 ⟨B2, m2, kb2, rfl, _, hO5, hu⟩
    have HO5 := Lib.hid hO5
    have g0 := hu.keep _ _ _ c0
    have g1 := hu.keep _ _ _ c1_
    have g2 := hu.keep _ _ _ c2
    have g3 := hu.keep _ _ _ c3
    have j0 := hu.keep _ _ _ y0'
    have j1 := hu.keep _ _ _ y1'
    have HU5 := Lib.hid (HU4.out.trans hu)
    have HA5 := Lib.hid (HA4.out.up hu)
    have HM5 := Lib.hid (HM4.out.up hu)
    obtain ⟨B3, k3, e3_, _, hS5⟩ := HO5.out.sl
    cases e3_
    have em2 : m2 = n2 := by rw [← hS5.1, HEN.out]
    subst em2
    have HB5 := Lib.hid hS5
    have HOB5 : Hid (∀ b o, B2 = some ⟨b, o, none⟩ → b ≠ p) := Lib.hid (HO5.out.off (by omega))
    have hs5 := hu.size
    clear hu hO5 hS5 c0 c1_ c2 c3 y0' y1' HA4 HB4 HM4 HU4
    have hp5 : p < w5.heap.size := World.block_lt_of_cell? _ _ g0
    have hq5 : wr.heap.size < w5.heap.size := World.block_lt_of_cell? _ _ j0
    have hcm : (m2 : Int) ≤ c := by rw [HEN.out]; exact hcl
    by_cases hfull : (m2 : Int) = c
    case pos =>
      have KD2 := Lib.hid (fun W (h : Sl W A2 m2 K') => add9_full v c p0 p1 m2 k2 A2 K' HST.out HV.out hfull W h)
      have t1 : ((m2 : Int) == c) = true := by simp [hfull]
      have KSI := Lib.hid (fun W (hA : Sl W A2 m2 K') (hB : Sl W B2 m2 K') => sameItems_t m2 k2 kb2 A2 B2 K' (by omega) W hA hB)
      clear hfull
      go_wp2_with (first
        | (go_at_call 14; (with_reducible refine (KD2.out _ HA5.out).mono ?_); rintro e w6 ⟨rfl, hu⟩; have HU6 := Lib.hid hu; have g0' := hu.keep _ _ _ g0; have g1' := hu.keep _ _ _ g1; have g2' := hu.keep _ _ _ g2; have g3' := hu.keep _ _ _ g3; have hp6 : p < w6.heap.size := World.block_lt_of_cell? _ _ g0'; clear hu)
        | (go_at_call 22; (with_reducible refine (KSI.out _ (HA5.out.up (HU6.out.alloc _ _)) (HB5.out.up (HU6.out.alloc _ _))).mono ?_); rintro e w7 ⟨rfl, hu⟩; have HU7 := Lib.hid ((HU6.out.alloc _ _).trans hu); clear hu))
      go_roundw
      case rel =>
        refine ⟨i + 1, by go_num, by omega, Lib.hid ⟨p0, K', A2, B2, k2, kb2, by rw [HEN.out], by rw [← HEN.out]; exact hk2, by rw [← HEN.out]; exact HA5.out.up HU7.out, by rw [← HEN.out]; exact HB5.out.up HU7.out, HM5.out.up HU7.out, HST.out, HX.out, HU7.out.keep _ _ _ g0, HU7.out.keep _ _ _ g1, HU7.out.keep _ _ _ g2, by rw [← HEN.out]; exact HU7.out.keep _ _ _ g3, HU5.out.trans HU7.out, HOB5.out⟩⟩
      case measure => simp [intOf]; omega
    case neg =>
      have KD2 := Lib.hid (fun W (h : Sl W A2 m2 K') => add9_good v c p0 p1 m2 k2 A2 K' hk2 HST.out HV.out hfull W h)
      have HST2 := Lib.hid (add_state HST.out HV.out (by rw [← HEN.out]; exact hfull))
      have t1 : ((m2 : Int) == c) = false := by simp [hfull]
      clear hfull
      go_wp2_with (go_at_call 14; (with_reducible refine (KD2.out _ HA5.out).mono ?_); rintro e w6 ⟨g6, k6, rfl, hk6, hnw6, hS6, hu⟩; have HU6 := Lib.hid hu; have HN6 := Lib.hid hnw6; have HS6 := Lib.hid hS6; clear hu hnw6 hS6)
      obtain ⟨wy, hwy⟩ : ∃ y, y = w6.alloc (.cells #[.int .i64 v, .int .i64 c, .int .i64 p0, .slice (some ⟨g6, 0, none⟩) (m2 + 1) k6] 24) := ⟨_, rfl⟩
      rw [← hwy]
      have HVy : Hid (Up w5 wy) := Lib.hid (by rw [hwy]; exact HU6.out.alloc _ _)
      have HUy := Lib.hid (HU5.out.trans HVy.out)
      have q0 : wy.cell? ⟨w6.heap.size, 0, none⟩ = some (.int .i64 v) := by rw [hwy]; simp [go_sem]
      have q1 : wy.cell? ⟨w6.heap.size, 1, none⟩ = some (.int .i64 c) := by rw [hwy]; simp [go_sem]
      have q2 : wy.cell? ⟨w6.heap.size, 2, none⟩ = some (.int .i64 p0) := by rw [hwy]; simp [go_sem]
      have q3 : wy.cell? ⟨w6.heap.size, 3, none⟩ = some (.slice (some ⟨g6, 0, none⟩) (m2 + 1) k6) := by rw [hwy]; simp [go_sem]
      have i0 := HVy.out.keep _ _ _ j0
      have i1 := HVy.out.keep _ _ _ j1
      have h0 := HVy.out.keep _ _ _ g0
      have h1 := HVy.out.keep _ _ _ g1
      have h2 := HVy.out.keep _ _ _ g2
      have h3 := HVy.out.keep _ _ _ g3
      have hp6 : p < w6.heap.size := by have := HU6.out.size; omega
      have hq6 : wr.heap.size < w6.heap.size := by have := HU6.out.size; omega
      have hsy : w6.heap.size < wy.heap.size := World.block_lt_of_cell? _ _ q0
      have hpy : p < wy.heap.size := by omega
      have HAy : Hid (Sl wy (some ⟨g6, 0, none⟩) (m2 + 1) (K' ++ [(p0, p1)])) := Lib.hid (by rw [hwy]; exact HS6.out.up ((Up.refl _).alloc _ _))
      have HBy := Lib.hid (HB5.out.up HVy.out)
      have HMy := Lib.hid (HM5.out.up HVy.out)
      have hg6 : g6 ≠ p := HN6.out.off hp5 g6 0 rfl
      clear hwy HS6
      obtain ⟨v1a, w6a, ra1, oa1, ua1⟩ := append0_run 22 wy (wy.alloc (.cells #[] 39)).drew wy.heap.size ((own_empty' rfl (Nat.le_refl _)).of_up (Up.refl _).drew) ((Up.refl _).alloc _ _).drew B2 m2 kb2 K' (HBy.out.up ((Up.refl _).alloc _ _).drew) (by omega)
      have va1 := ((Up.refl wy).alloc #[] 39).drew.trans ua1
      obtain ⟨v2a, w7a, ra2, oa2, ua2⟩ := append_run 22 wy (w6a.alloc (.cells #[.int .i64 p0, .int .i64 p1] 39)) v1a m2 K' (oa1.of_up ((Up.refl _).alloc _ _)) (va1.alloc _ _) (some ⟨w6a.heap.size, 0, none⟩) 1 1 [(p0, p1)] (one_new w6a p0 p1) (by omega)
      obtain ⟨v1b, w6b, rb1, ob1, ub1⟩ := append0_run 22 wy ((wy.alloc (.cells #[] 39)).alloc (.cells #[.int .i64 p0, .int .i64 p1] 39)).drew (wy.heap.size) ((own_empty' (w := wy) rfl (Nat.le_refl _)).of_up ((Up.refl _).alloc _ _).drew) (((Up.refl _).alloc _ _).alloc _ _).drew B2 m2 kb2 K' (HBy.out.up (((Up.refl _).alloc _ _).alloc _ _).drew) (by omega)
      have vb1 := (((Up.refl wy).alloc _ _).alloc _ _).drew.trans ub1
      obtain ⟨v2b, w7b, rb2, ob2, ub2⟩ := append_run 22 wy w6b v1b m2 K' ob1 vb1 (some ⟨wy.heap.size + 1, 0, none⟩) 1 1 [(p0, p1)] (((one_new' _ p0 p1 (by simp)).up (Up.refl _).drew).up ub1) (by omega)
      obtain ⟨v1c, w6c, rc1, oc1, uc1⟩ := append0_run 22 wy ((wy.alloc (.cells #[.int .i64 p0, .int .i64 p1] 39)).alloc (.cells #[] 39)).drew (wy.heap.size + 1) ((own_empty' (by simp) (by simp)).of_up (Up.refl _).drew) (((Up.refl _).alloc _ _).alloc _ _).drew B2 m2 kb2 K' (HBy.out.up (((Up.refl _).alloc _ _).alloc _ _).drew) (by omega)
      have vc1 := (((Up.refl wy).alloc _ _).alloc _ _).drew.trans uc1
      obtain ⟨v2c, w7c, rc2, oc2, uc2⟩ := append_run 22 wy w6c v1c m2 K' oc1 vc1 (some ⟨wy.heap.size, 0, none⟩) 1 1 [(p0, p1)] (((one_new' _ p0 p1 rfl).up ((Up.refl _).alloc _ _).drew).up uc1) (by omega)
      have SS : Hid (Up w wy ∧ wy.cell? ⟨w6.heap.size, 0, none⟩ = some (.int .i64 v) ∧ wy.cell? ⟨w6.heap.size, 1, none⟩ = some (.int .i64 c) ∧ wy.cell? ⟨w6.heap.size, 2, none⟩ = some (.int .i64 p0) ∧ wy.cell? ⟨w6.heap.size, 3, none⟩ = some (.slice (some ⟨g6, 0, none⟩) (m2 + 1) k6) ∧ wy.cell? ⟨wr.heap.size, 0, none⟩ = some (.int .i64 p0) ∧ wy.cell? ⟨wr.heap.size, 1, none⟩ = some (.int .i64 p1)) := Lib.hid ⟨HUy.out, q0, q1, q2, q3, i0, i1⟩
      obtain ⟨A1a, k1a, rfl, _, _⟩ := oa1.sl
      obtain ⟨A2a, k2a, rfl, hk2a, s2a⟩ := oa2.sl
      have HOa := Lib.hid (oa2.off hpy)
      have HS2a := Lib.hid s2a
      have H1a := Lib.hid ra1
      have H2a := Lib.hid ra2
      have T1a := Lib.hid (keep6 (Lib.hid va1) SS.out)
      have T2a := Lib.hid (keep6 (Lib.hid ua2) SS.out)
      have V2a := Lib.hid ua2
      have pa0 := ua2.keep _ _ _ h0
      have fa0 := (HUy.out.trans ua2).ownGe (g := p) hpw 0
      have pa1 := ua2.keep _ _ _ h1
      have fa1 := (HUy.out.trans ua2).ownGe (g := p) hpw 1
      have pa2 := ua2.keep _ _ _ h2
      have fa2 := (HUy.out.trans ua2).ownGe (g := p) hpw 2
      have pa3 := ua2.keep _ _ _ h3
      have fa3 := (HUy.out.trans ua2).ownGe (g := p) hpw 3
      clear ra1 ra2 oa1 oa2 ua1 ua2 va1 s2a
      obtain ⟨A1b, k1b, rfl, _, _⟩ := ob1.sl
      obtain ⟨A2b, k2b, rfl, hk2b, s2b⟩ := ob2.sl
      have HOb := Lib.hid (ob2.off hpy)
      have HS2b := Lib.hid s2b
      have H1b := Lib.hid rb1
      have H2b := Lib.hid rb2
      have T1b := Lib.hid (keep6 (Lib.hid vb1) SS.out)
      have T2b := Lib.hid (keep6 (Lib.hid ub2) SS.out)
      have V2b := Lib.hid ub2
      have pb0 := ub2.keep _ _ _ h0
      have fb0 := (HUy.out.trans ub2).ownGe (g := p) hpw 0
      have pb1 := ub2.keep _ _ _ h1
      have fb1 := (HUy.out.trans ub2).ownGe (g := p) hpw 1
      have pb2 := ub2.keep _ _ _ h2
      have fb2 := (HUy.out.trans ub2).ownGe (g := p) hpw 2
      have pb3 := ub2.keep _ _ _ h3
      have fb3 := (HUy.out.trans ub2).ownGe (g := p) hpw 3
      clear rb1 rb2 ob1 ob2 ub1 ub2 vb1 s2b
      obtain ⟨A1c, k1c, rfl, _, _⟩ := oc1.sl
      obtain ⟨A2c, k2c, rfl, hk2c, s2c⟩ := oc2.sl
      have HOc := Lib.hid (oc2.off hpy)
      have HS2c := Lib.hid s2c
      have H1c := Lib.hid rc1
      have H2c := Lib.hid rc2
      have T1c := Lib.hid (keep6 (Lib.hid vc1) SS.out)
      have T2c := Lib.hid (keep6 (Lib.hid uc2) SS.out)
      have V2c := Lib.hid uc2
      have pc0 := uc2.keep _ _ _ h0
      have fc0 := (HUy.out.trans uc2).ownGe (g := p) hpw 0
      have pc1 := uc2.keep _ _ _ h1
      have fc1 := (HUy.out.trans uc2).ownGe (g := p) hpw 1
      have pc2 := uc2.keep _ _ _ h2
      have fc2 := (HUy.out.trans uc2).ownGe (g := p) hpw 2
      have pc3 := uc2.keep _ _ _ h3
      have fc3 := (HUy.out.trans uc2).ownGe (g := p) hpw 3
      clear rc1 rc2 oc1 oc2 uc1 uc2 vc1 s2c
      clear q0 q1 q2 q3 i0 i1 h0 h1 h2 h3 g0 g1 g2 g3 j0 j1
      have n1 : p ≠ w6.heap.size := by omega
      have n2_ : p ≠ wr.heap.size := by omega
      go_region_held3 (fun w' => Up w w' ∧ w'.cell? ⟨w6.heap.size, 0, none⟩ = some (.int .i64 v) ∧ w'.cell? ⟨w6.heap.size, 1, none⟩ = some (.int .i64 c) ∧ w'.cell? ⟨w6.heap.size, 2, none⟩ = some (.int .i64 p0) ∧ w'.cell? ⟨w6.heap.size, 3, none⟩ = some (.slice (some ⟨g6, 0, none⟩) (m2 + 1) k6) ∧ w'.cell? ⟨wr.heap.size, 0, none⟩ = some (.int .i64 p0) ∧ w'.cell? ⟨wr.heap.size, 1, none⟩ = some (.int .i64 p1))
        (repeat (first | (with_reducible refine set6 ?_ hpw n1 n1 n1 n1 n2_ n2_) | (with_reducible exact SS.out) | (with_reducible exact T1a.out) | (with_reducible exact T2a.out) | (with_reducible exact T1b.out) | (with_reducible exact T2b.out) | (with_reducible exact T1c.out) | (with_reducible exact T2c.out) | (with_reducible refine keep6 (Lib.hid ((Up.refl _).alloc _ _)) ?_) | (with_reducible refine keep6 (Lib.hid (Up.refl _).drew) ?_)))
        (first
          | ((with_reducible refine step_append_run rfl (.tmp 75) (.tmp 76) _ rfl _ _ ?_ ?_ _ _ H1a.out ?_); rfl; rfl)
          | ((with_reducible refine step_append_run rfl (.tmp 77) (.tmp 79) _ rfl _ _ ?_ ?_ _ _ H2a.out ?_); rfl; rfl)
          | ((with_reducible refine step_append_run rfl (.tmp 75) (.tmp 76) _ rfl _ _ ?_ ?_ _ _ H1b.out ?_); rfl; rfl)
          | ((with_reducible refine step_append_run rfl (.tmp 77) (.tmp 79) _ rfl _ _ ?_ ?_ _ _ H2b.out ?_); rfl; rfl)
          | ((with_reducible refine step_append_run rfl (.tmp 75) (.tmp 76) _ rfl _ _ ?_ ?_ _ _ H1c.out ?_); rfl; rfl)
          | ((with_reducible refine step_append_run rfl (.tmp 77) (.tmp 79) _ rfl _ _ ?_ ?_ _ _ H2c.out ?_); rfl; rfl))
      · (try clear ‹Up w _ ∧ _›)
        obtain ⟨w8, hw8⟩ : ∃ y, y = ((((w7a.setCell ⟨p, 0, none⟩ (.int .i64 v)).setCell ⟨p, 1, none⟩ (.int .i64 c)).setCell ⟨p, 2, none⟩ (.int .i64 p0)).setCell ⟨p, 3, none⟩ (.slice (some ⟨g6, 0, none⟩) (m2 + 1) k6)) := ⟨_, rfl⟩
        rw [← hw8]
        have HU8 : Hid (Up w w8) := Lib.hid (by rw [hw8]; exact (HUy.out.trans V2a.out).set4 hpw)
        obtain ⟨c0, c1_, c2, c3⟩ : w8.cell? ⟨p, 0, none⟩ = some (.int .i64 v) ∧ w8.cell? ⟨p, 1, none⟩ = some (.int .i64 c) ∧ w8.cell? ⟨p, 2, none⟩ = some (.int .i64 p0) ∧ w8.cell? ⟨p, 3, none⟩ = some (.slice (some ⟨g6, 0, none⟩) (m2 + 1) k6) := by rw [hw8]; exact cells4 pa0 pa1 pa2 pa3
        have HA8 : Hid (Sl w8 (some ⟨g6, 0, none⟩) (m2 + 1) (K' ++ [(p0, p1)])) := Lib.hid (by rw [hw8]; exact (HAy.out.up V2a.out).off4 (fun b o e => by cases e; exact hg6) _ _ _ _)
        have HB8 : Hid (Sl w8 A2a (m2 + 1) (K' ++ [(p0, p1)])) := Lib.hid (by rw [hw8]; exact HS2a.out.off4 HOa.out _ _ _ _)
        have HM8 : Hid (Sl w8 (some ⟨b', o', none⟩) nm M) := Lib.hid (by rw [hw8]; exact (HMy.out.up V2a.out).off4 HOM.out _ _ _ _)
        have hlen : (K' ++ [(p0, p1)]).length = m2 + 1 := by rw [List.length_append, ← HEN.out]; rfl
        have HLN := Lib.hid hlen
        have KSI := Lib.hid (sameItems_t (m2 + 1) k6 k2a (some ⟨g6, 0, none⟩) A2a (K' ++ [(p0, p1)]) (by omega) w8 HA8.out HB8.out)
        clear hw8 hlen pa0 fa0 pa1 fa1 pa2 fa2 pa3 fa3 pb0 fb0 pb1 fb1 pb2 fb2 pb3 fb3 pc0 fc0 pc1 fc1 pc2 fc2 pc3 fc3
        go_wp2_with (go_at_call 22; (with_reducible refine KSI.out.mono ?_); rintro e w9 ⟨rfl, hu⟩; have HU9 := Lib.hid hu; clear hu)
        go_roundw
        case rel =>
          refine ⟨i + 1, by go_num, by omega, Lib.hid ⟨p0, K' ++ [(p0, p1)], some ⟨g6, 0, none⟩, A2a, k6, k2a, by rw [HLN.out], by rw [HLN.out]; exact hk6, by rw [HLN.out]; exact HA8.out.up HU9.out, by rw [HLN.out]; exact HB8.out.up HU9.out, HM8.out.up HU9.out, HST2.out, HX.out, HU9.out.keep _ _ _ c0, HU9.out.keep _ _ _ c1_, HU9.out.keep _ _ _ c2, by rw [HLN.out]; exact HU9.out.keep _ _ _ c3, HU8.out.trans HU9.out, HOa.out⟩⟩
        case measure => simp [intOf]; omega
      · (try clear ‹Up w _ ∧ _›)
        obtain ⟨w8, hw8⟩ : ∃ y, y = ((((w7b.setCell ⟨p, 0, none⟩ (.int .i64 v)).setCell ⟨p, 1, none⟩ (.int .i64 c)).setCell ⟨p, 2, none⟩ (.int .i64 p0)).setCell ⟨p, 3, none⟩ (.slice (some ⟨g6, 0, none⟩) (m2 + 1) k6)) := ⟨_, rfl⟩
        rw [← hw8]
        have HU8 : Hid (Up w w8) := Lib.hid (by rw [hw8]; exact (HUy.out.trans V2b.out).set4 hpw)
        obtain ⟨c0, c1_, c2, c3⟩ : w8.cell? ⟨p, 0, none⟩ = some (.int .i64 v) ∧ w8.cell? ⟨p, 1, none⟩ = some (.int .i64 c) ∧ w8.cell? ⟨p, 2, none⟩ = some (.int .i64 p0) ∧ w8.cell? ⟨p, 3, none⟩ = some (.slice (some ⟨g6, 0, none⟩) (m2 + 1) k6) := by rw [hw8]; exact cells4 pb0 pb1 pb2 pb3
        have HA8 : Hid (Sl w8 (some ⟨g6, 0, none⟩) (m2 + 1) (K' ++ [(p0, p1)])) := Lib.hid (by rw [hw8]; exact (HAy.out.up V2b.out).off4 (fun b o e => by cases e; exact hg6) _ _ _ _)
        have HB8 : Hid (Sl w8 A2b (m2 + 1) (K' ++ [(p0, p1)])) := Lib.hid (by rw [hw8]; exact HS2b.out.off4 HOb.out _ _ _ _)
        have HM8 : Hid (Sl w8 (some ⟨b', o', none⟩) nm M) := Lib.hid (by rw [hw8]; exact (HMy.out.up V2b.out).off4 HOM.out _ _ _ _)
        have hlen : (K' ++ [(p0, p1)]).length = m2 + 1 := by rw [List.length_append, ← HEN.out]; rfl
        have HLN := Lib.hid hlen
        have KSI := Lib.hid (sameItems_t (m2 + 1) k6 k2b (some ⟨g6, 0, none⟩) A2b (K' ++ [(p0, p1)]) (by omega) w8 HA8.out HB8.out)
        clear hw8 hlen pa0 fa0 pa1 fa1 pa2 fa2 pa3 fa3 pb0 fb0 pb1 fb1 pb2 fb2 pb3 fb3 pc0 fc0 pc1 fc1 pc2 fc2 pc3 fc3
        go_wp2_with (go_at_call 22; (with_reducible refine KSI.out.mono ?_); rintro e w9 ⟨rfl, hu⟩; have HU9 := Lib.hid hu; clear hu)
        go_roundw
        case rel =>
          refine ⟨i + 1, by go_num, by omega, Lib.hid ⟨p0, K' ++ [(p0, p1)], some ⟨g6, 0, none⟩, A2b, k6, k2b, by rw [HLN.out], by rw [HLN.out]; exact hk6, by rw [HLN.out]; exact HA8.out.up HU9.out, by rw [HLN.out]; exact HB8.out.up HU9.out, HM8.out.up HU9.out, HST2.out, HX.out, HU9.out.keep _ _ _ c0, HU9.out.keep _ _ _ c1_, HU9.out.keep _ _ _ c2, by rw [HLN.out]; exact HU9.out.keep _ _ _ c3, HU8.out.trans HU9.out, HOb.out⟩⟩
        case measure => simp [intOf]; omega
      · (try clear ‹Up w _ ∧ _›)
        obtain ⟨w8, hw8⟩ : ∃ y, y = ((((w7c.setCell ⟨p, 0, none⟩ (.int .i64 v)).setCell ⟨p, 1, none⟩ (.int .i64 c)).setCell ⟨p, 2, none⟩ (.int .i64 p0)).setCell ⟨p, 3, none⟩ (.slice (some ⟨g6, 0, none⟩) (m2 + 1) k6)) := ⟨_, rfl⟩
        rw [← hw8]
        have HU8 : Hid (Up w w8) := Lib.hid (by rw [hw8]; exact (HUy.out.trans V2c.out).set4 hpw)
        obtain ⟨c0, c1_, c2, c3⟩ : w8.cell? ⟨p, 0, none⟩ = some (.int .i64 v) ∧ w8.cell? ⟨p, 1, none⟩ = some (.int .i64 c) ∧ w8.cell? ⟨p, 2, none⟩ = some (.int .i64 p0) ∧ w8.cell? ⟨p, 3, none⟩ = some (.slice (some ⟨g6, 0, none⟩) (m2 + 1) k6) := by rw [hw8]; exact cells4 pc0 pc1 pc2 pc3
        have HA8 : Hid (Sl w8 (some ⟨g6, 0, none⟩) (m2 + 1) (K' ++ [(p0, p1)])) := Lib.hid (by rw [hw8]; exact (HAy.out.up V2c.out).off4 (fun b o e => by cases e; exact hg6) _ _ _ _)
        have HB8 : Hid (Sl w8 A2c (m2 + 1) (K' ++ [(p0, p1)])) := Lib.hid (by rw [hw8]; exact HS2c.out.off4 HOc.out _ _ _ _)
        have HM8 : Hid (Sl w8 (some ⟨b', o', none⟩) nm M) := Lib.hid (by rw [hw8]; exact (HMy.out.up V2c.out).off4 HOM.out _ _ _ _)
        have hlen : (K' ++ [(p0, p1)]).length = m2 + 1 := by rw [List.length_append, ← HEN.out]; rfl
        have HLN := Lib.hid hlen
        have KSI := Lib.hid (sameItems_t (m2 + 1) k6 k2c (some ⟨g6, 0, none⟩) A2c (K' ++ [(p0, p1)]) (by omega) w8 HA8.out HB8.out)
        clear hw8 hlen pa0 fa0 pa1 fa1 pa2 fa2 pa3 fa3 pb0 fb0 pb1 fb1 pb2 fb2 pb3 fb3 pc0 fc0 pc1 fc1 pc2 fc2 pc3 fc3
        go_wp2_with (go_at_call 22; (with_reducible refine KSI.out.mono ?_); rintro e w9 ⟨rfl, hu⟩; have HU9 := Lib.hid hu; clear hu)
        go_roundw
        case rel =>
          refine ⟨i + 1, by go_num, by omega, Lib.hid ⟨p0, K' ++ [(p0, p1)], some ⟨g6, 0, none⟩, A2c, k6, k2c, by rw [HLN.out], by rw [HLN.out]; exact hk6, by rw [HLN.out]; exact HA8.out.up HU9.out, by rw [HLN.out]; exact HB8.out.up HU9.out, HM8.out.up HU9.out, HST2.out, HX.out, HU9.out.keep _ _ _ c0, HU9.out.keep _ _ _ c1_, HU9.out.keep _ _ _ c2, by rw [HLN.out]; exact HU9.out.keep _ _ _ c3, HU8.out.trans HU9.out, HOc.out⟩⟩
        case measure => simp [intOf]; omega

set_option maxRecDepth 100000 in
theorem recentRuns_lifted (os : Os) (started : os.Started) (H : Type) (enc : TypeId × Value → H) :
    ReturnsInHanded {} Try.checked os 5 .any (Rows.recentRunsSpec.pre6 enc Try.prog Try.f5 Rows.recentRunsRow.domain false) (Rows.recentRunsSpec.post enc Try.prog Try.f5 false true false false) := by
  refine returnsInHanded_of_change_sized (C := Try.checked) recentRuns_own started (by kernel_rfl) Try.func5
    (ChangeSpec.witness6 (enc := enc) (C := Try.checked) false ⟨#[], #[.slice none 0 0, .int .i64 0, .int .i64 0], []⟩ 8 (by kernel_rfl) (by kernel_rfl) (by kernel_rfl) (by kernel_rfl)) ?_
  intro W base args ds gs before hval0 hW hcnd hsz0 _
  have hval : ∀ (j : Nat) t v, Try.f5.params[j]? = some t → args[j]? = some v → Value.okWide Try.prog W .any base t v := hval0
  have hW' := hW
  obtain ⟨p, q, hA0, hV, rfl, hfz, hnd⟩ := hW'
  have hA : DataW.TrodAll enc Try.prog W 0 (fun _ => true) true Try.f5.params.toList args.toList ds p := hA0
  rw [Try.params5] at hA hval
  obtain ⟨v0, vs0, d0, ds0, p0, q0, hargs, rfl, rfl, h0, r0⟩ := trodAll_cons hA
  obtain ⟨v1, vs1, d1, ds1, p1, q1, rfl, rfl, rfl, h1, r1⟩ := trodAll_cons r0
  obtain ⟨v2, vs2, d2, ds2, p2, q2, rfl, rfl, rfl, h2, r2⟩ := trodAll_cons r1
  obtain ⟨rfl, rfl, rfl⟩ := trodAll_nil r2
  obtain rfl : args = #[v0, v1, v2] := by cases args; simp_all
  obtain ⟨rfl, rfl⟩ := trodVars_none hV
  have hlt := fun x hx => hW.lt x hx
  have k0 := h0
  obtain ⟨n0, m0, A0, L0, rfl, hk0, hS0, hI0⟩ := open_items2 (hval 0 22 v0 rfl rfl) h0
  have k1 := h1
  obtain ⟨a1, rfl, rfl, rfl, w1⟩ := open_int Try.underlying2 (hval 1 2 v1 rfl rfl) h1
  have k2 := h2
  obtain ⟨a2, rfl, rfl, rfl, w2⟩ := open_int Try.underlying3 (hval 2 3 v2 rfl rfl) h2
  refine (recentRuns_walk n0 m0 A0 L0 hk0 hI0 a1 w1 a2 w2 W hS0).mono fun e W' ⟨he, hg⟩ => ?_
  subst he
  exact ⟨_, rfl, post_of_same (pv := []) hW (fun _ _ _ => (trodAll_cons_mk (shut_bool Try.underlying4 _) trodAll_mk0)) (fun sp hsp => (trodAll_cons_mk (stay (by kernel_rfl) (of_decide_eq_true (by kernel_rfl)) k0 hg hlt (fun x hx => by first | (simp at hx; done) | simp [hx]) hsp) (trodAll_cons_mk (stay (by kernel_rfl) (of_decide_eq_true (by kernel_rfl)) k1 hg hlt (fun x hx => by first | (simp at hx; done) | simp [hx]) hsp) (trodAll_cons_mk (stay (by kernel_rfl) (of_decide_eq_true (by kernel_rfl)) k2 hg hlt (fun x hx => by first | (simp at hx; done) | simp [hx]) hsp) trodAll_mk0)))) (fun _ _ => rfl) rfl
    (hg.grown.frame _) hg.grown.2.1 (ok_one (by kernel_rfl) rfl (okWide_bool_mk Try.underlying4 _))⟩

theorem recentRuns_over : Rows.recentRunsRow.holds Try.pinned (OpenSpec.ofChange Rows.recentRunsSpec) :=
  OpenClaim.holds_of_wide 5 Try.f5 rfl rfl rfl rfl rfl rfl rfl ⟨rfl, rfl, rfl, rfl, rfl⟩ rfl rfl rfl rfl rfl (by kernel_rfl) Try.func5 (by kernel_rfl)
    (of_decide_eq_true (by kernel_rfl)) (by unfold Func.isWrapper; first | (rw [if_pos (by decide +kernel)]; kernel_rfl) | (rw [if_neg (by decide +kernel)]; exact ⟨rfl, rfl⟩))
    (fun os started H enc _ => recentRuns_lifted os started H enc)

theorem recentRuns_holds : Rows.RecentRunsSaid :=
  recentRuns_over
#print axioms recentRuns_holds
end Go.Proofs.Ytflahclphdlolaa
