/- Proved: for every list of raw items, any width and any K the law SumCounts returns true: values 1 lead to the buckets of the counting histogram, and values 0 to no change. Conditions: none. -/
import Derived.Test.YtfdjhahnggdklaaRows
import Derived.Test.YtfdjhahnggdklaaZBAtMost
import Derived.Test.YtfdjhahnggdklaaZBProduct
import Derived.Test.YtfdjhahnggdklaaZBSmallm2
import Derived.Test.YtfdjhahnggdklaaZCClock
import Derived.Test.YtfdjhahnggdklaaZGBasem8
import Derived.Test.YtfdjhahnggdklaaZGLawm3
import Derived.Test.YtfdjhahnggdklaaZHEqm5
import Derived.Test.YtfdjhahnggdklaaZHGrowm2
import Derived.Test.YtfdjhahnggdklaaZHOrdm2
import Derived.Test.YtfdjhahnggdklaaZHRVal
import Derived.Test.YtfdjhahnggdklaaZHRowm3
import Derived.Test.YtfdjhahnggdklaaZHSamem5
import Derived.Test.YtfdjhahnggdklaaZHSmallm7
import Derived.Test.YtfdjhahnggdklaaZIBasem2
import Derived.Test.YtfdjhahnggdklaaZJAwk
import Derived.Test.YtfdjhahnggdklaaZJBase
import Derived.Test.YtfdjhahnggdklaaZJPlay
import Derived.Test.YtfdjhahnggdklaaZJPos
import Derived.Test.YtfdjhahnggdklaaZJSt
import Derived.Test.YtfdjhahnggdklaaZREasym4
import Derived.Test.YtfdjhahnggdklaaZWCmpm5
import Derived.Test.YtfdjhahnggdklaaZWGcd
import Derived.Test.YtfdjhahnggdklaaZWMathm9
import Derived.Test.YtfdjhahnggdklaaZWRDiv2
namespace Go.Proofs.Ytfdjhahnggdklaa
open Go.ChangeShapes Go.WideShapes Go.ChangeAt Go.RowKit Go.Joins
set_option linter.unusedVariables false

theorem sumCounts_own : ownKnob Try.prog.godebug = none := by kernel_rfl

set_option maxHeartbeats 16000000 in
set_option maxRecDepth 100000 in
theorem sumCounts_walk (n k : Nat) (A : Option Addr) (L : List It) (hk : n ≤ k) (hI : InI L) (a1 : Int) (_ : (Lit.int .i64 a1).wf = true) (a2 : Int) (_ : (Lit.int .i64 a2).wf = true) (w : World) (hS : Sl w A n L) :
    Calls Try.prog 6 #[.slice A n k, .int .i64 a1, .int .i64 a2] w fun e w' => e = .returned (.bool true) ∧ Up w w' := by
  have KA := Lib.hid awake12_up
  have HS := Lib.hid hS
  have KM1 := Lib.hid (fun W => modm_any a1 20 (by omega) (by omega) W)
  have KM2 := Lib.hid (fun W => int_any a2 4 (by omega) (by omega) W)
  have r0 : 0 ≤ a1 % 20 := Int.emod_nonneg _ (by omega)
  have r1 : a1 % 20 < 20 := Int.emod_lt_of_pos _ (by omega)
  have s0 : 0 ≤ a2 % 4 := Int.emod_nonneg _ (by omega)
  have s1 : a2 % 4 < 4 := Int.emod_lt_of_pos _ (by omega)
  generalize a1 % 20 = rr at *
  generalize a2 % 4 = ss at *
  obtain ⟨v, ev⟩ : ∃ v, 1 + rr = v := ⟨_, rfl⟩
  obtain ⟨q, eq_⟩ : ∃ v, 1 + ss = v := ⟨_, rfl⟩
  have v1 : 1 ≤ v := by omega
  have v25 : v ≤ 25 := by omega
  have q1 : 1 ≤ q := by omega
  have q4 : q ≤ 4 := by omega
  have hmay : mayC v q 1000 0 = true := mayC_ok (by omega) (by omega) v1 (by omega) (by omega) (by omega) (by omega) (by omega)
  have K1 := Lib.hid (fun W => new12_yes v q 1000 5 0 (mayS_yes hmay (by omega) (by omega)) W)
  have K1b := Lib.hid (fun W => new11_yes v q 1000 0 hmay W)
  have K2 := Lib.hid (fun W (h : Sl W A n L) => itemsJ_up n k A L v v1 v25 60 60 rfl (by omega) W h)
  have HMY := Lib.hid hmay
  clear hS hI hmay
  go_enter Try.func6, Try.ntmps6
  go_upto_region 4 with (first
    | (go_at_call 24; (with_reducible refine (KM1.out _).mono ?_); rintro e w' ⟨rfl, rfl⟩)
    | (go_at_call 22; (with_reducible refine (KM2.out _).mono ?_); rintro e w' ⟨rfl, rfl⟩)
    | (go_at_call 8; (with_reducible refine (K1.out _).mono ?_); rintro e w1 ⟨rfl, hu⟩; have HU1 := Lib.hid hu; clear hu)
    | (go_at_call 30; (with_reducible refine (K1b.out _).mono ?_); rintro e w3 ⟨rfl, hu⟩; have HU3 := Lib.hid ((HU1.out.alloc #[.int .i64 v, .int .i64 q, .int .i64 1000, .int .i64 5, .int .i64 0, .slice none 0 0] 24).trans hu); have HV3 : Hid (Vs w3 w1.heap.size v q 1000 5 0 [] none 0) := Lib.hid ((Vs.new Sl.none_ (Nat.le_refl _) (fun _ _ e => by cases e)).up hu); have x0 := HV3.out.c0; clear hu))
  have hp : w.heap.size ≤ w1.heap.size := HU1.out.size
  have hp2 : w.heap.size ≤ w3.heap.size := HU3.out.size
  have hpp : w1.heap.size < w3.heap.size := HV3.out.lt
  obtain ⟨w4, hw4⟩ : ∃ y, y = w3.alloc (.cells #[.int .i64 v, .int .i64 q, .int .i64 1000, .int .i64 0, .slice none 0 0] 56) := ⟨_, rfl⟩
  rw [← hw4]
  have HU4 : Hid (Up w w4) := Lib.hid (by rw [hw4]; exact HU3.out.alloc _ _)
  have HV4 : Hid (Vs w4 w1.heap.size v q 1000 5 0 [] none 0) := Lib.hid (by rw [hw4]; exact HV3.out.up ((Up.refl _).alloc _ _))
  have HC4 : Hid (Vc w4 w3.heap.size v q 1000 0 [] [] none 0) := Lib.hid (by rw [hw4]; exact Vc.new (Hs.start HMY.out) Sl.none_ (Nat.le_refl _) (fun _ _ e => by cases e))
  clear hw4 x0 HV3 HU3 HU1
  generalize w1.heap.size = p at *
  generalize w3.heap.size = p2 at *
  have hl4 : p2 < w4.heap.size := HC4.out.lt
  clear ev eq_ r0 r1 s0 s1 KM1 KM2 K1 K1b
  go_wp2_with (go_at_call 31; (with_reducible refine (K2.out _ (HS.out.up HU4.out)).mono ?_); rintro e w5 ⟨Am, nm, km, M0, z, rfl, hnm, hT, hO, hu⟩; have HT := Lib.hid hT.t; have HSM : Hid (Sl w5 Am nm M0) := Lib.hid (by obtain ⟨A9, k9, e9, _, h9⟩ := hO.sl; cases e9; exact h9); have HNm := Lib.hid (hO.nw.off (p := p) (by omega)); have HNm2 := Lib.hid (hO.nw.off hl4); have HU5 := Lib.hid (HU4.out.trans hu); have HV5 := Lib.hid (HV4.out.up hu); have HC5 := Lib.hid (HC4.out.up hu); clear hu hT hO)
  have HLM := Lib.hid HSM.out.1
  have hz0 := HT.out.1
  have hz1 : z ≤ 4080 := by have h1 := HT.out.2.1; have := HLM.out; omega
  have HR0 : Hid (RnB w w5 p p2 v q Am nm M0 z 0) := Lib.hid ⟨0, [], [], none, none, 0, 0, HV5.out, HC5.out, (fun _ _ e => by cases e), (fun _ _ e => by cases e), Nat.le_refl _, (fun h => (mdT_step HT.out (by rw [HLM.out]; exact h)).1), ⟨Int.le_refl _, hz0⟩, HSM.out, HU5.out⟩
  clear HV4 HV5 HC4 HC5 HSM HU5 HU4 K2 HS hl4
  go_loopw [42] (fun t wr => ∃ i : Nat, t = .int .i64 i ∧ i ≤ nm ∧ Hid (RnB w wr p p2 v q Am nm M0 z i)) (fun t _ => nm - (intOf t).toNat)
  case atStart => exact ⟨0, rfl, Nat.zero_le _, HR0⟩
  case round =>
    obtain ⟨i, rfl, hin, HQ⟩ := hrel
    by_cases hlt : i < nm
    case neg =>
      have HU : Hid (Up w wr) := Lib.hid (by obtain ⟨_, _, _, _, _, _, _, _, _, _, _, _, _, _, _, hu⟩ := HQ.out; exact hu)
      go_wp2_with (go_at_call 11; (with_reducible refine (KA.out _).mono ?_); rintro e w3 ⟨rfl, hu⟩; have HU3 := Lib.hid (HU.out.trans hu); clear hu)
      go_ret
      exact ⟨rfl, HU3.out⟩
    obtain ⟨now, X, M, A1, B1, k1, kb, hV, hC, hox, hoy, hMi, hnow, hnz, hSM, hUp⟩ := HQ.out
    obtain ⟨b', o', rfl, d0, d1⟩ := hSM.at_ hlt
    have hml : i < M0.length := by rw [HLM.out]; exact hlt
    obtain ⟨q1_, q2, q4_⟩ := mdT_step HT.out hml
    have hn1 := hnow hlt
    have HX : Hid (i + 1 < nm → (M0.getD i (0, 0)).1 ≤ (M0.getD (i + 1) (0, 0)).1) := Lib.hid (fun h => q4_ (by rw [HLM.out]; exact h))
    generalize (M0.getD i (0, 0)).1 = p0 at *
    generalize (M0.getD i (0, 0)).2 = p1 at *
    have HVr := Lib.hid hV
    have HCr := Lib.hid hC
    have HMr := Lib.hid hSM
    have HUr := Lib.hid hUp
    have HOX := Lib.hid hox
    have HOY := Lib.hid hoy
    have HH := Lib.hid hC.hs
    have hp0 : p0 ≤ 16777216 := by omega
    have KD := Lib.hid (fun W (hu : Up wr W) => advVS HH.out (by omega : (1 : Int) ≤ 5 ∧ (5 : Int) ≤ 1024) HVr.out.sl HVr.out.cap hu hn1 hp0)
    have KE := Lib.hid (fun W (sl : Sl W B1 X.length X) => advV HH.out sl HCr.out.cap (Up.refl W) hn1 hp0)
    have HH1 := Lib.hid (HH.out.adv hn1 hp0)
    generalize exL X (firZ p0 v) = X1 at *
    have ht1 := HH1.out.tot
    have hne : totB X1 ≠ 1000 := by omega
    have hr1 : totB X1 + 1 ≤ 1000 := by omega
    have HH2 := Lib.hid (HH1.out.add (y := p1) hne)
    have hf1 : X1.length ≤ 1000000 := by have := stC_few HH1.out.st; omega
    have K0 := Lib.hid (fun W A k (sl : Sl W A X1.length X1) (cap : X1.length ≤ k) => addVS (d := 0) HH1.out (by omega : (1 : Int) ≤ 5 ∧ (5 : Int) ≤ 1024) sl cap (Up.refl W) (Int.le_refl _) (by omega) (by omega))
    have K1 := Lib.hid (fun W A k (sl : Sl W A X1.length X1) (cap : X1.length ≤ k) => addVS (d := 1) HH1.out (by omega : (1 : Int) ≤ 5 ∧ (5 : Int) ≤ 1024) sl cap (Up.refl W) (by omega) (by omega) hr1)
    have KC := Lib.hid (fun W A k (sl : Sl W A X1.length X1) (cap : X1.length ≤ k) => addVc (y := p1) HH1.out sl cap (Up.refl W) hne)
    have KSX := Lib.hid (fun W A2 A3 k2 k3 (hA : Sl W A2 X1.length X1) (hB : Sl W A3 X1.length X1) => same12_t v q 1000 5 p0 X1.length k2 k3 A2 A3 X1 hf1 W hA hB)
    rw [itB_none] at K0
    rw [show itB q p0 (1 : Int).toNat X1 = puB q p0 X1 from rfl] at K1
    generalize puB q p0 X1 = X2 at *
    have hf2 : X2.length ≤ 1000000 := by have := stC_few HH2.out.st; omega
    have KSY := Lib.hid (fun W A2 A3 k2 k3 (hA : Sl W A2 X2.length X2) (hB : Sl W A3 X2.length X2) => sameB_t X2.length k2 k3 A2 A3 X2 hf2 W hA hB)
    have f2 : (i : Int) < nm := by omega
    have f3 : (0 : Int) ≤ i := by omega
    have hpr2 : p2 < wr.heap.size := hC.lt
    have hpr : p < wr.heap.size := hV.lt
    have HNmb := Lib.hid (show ∀ b o, some (⟨b', o', none⟩ : Addr) = some ⟨b, o, none⟩ → b ≠ p from HNm.out)
    have HNmc := Lib.hid (show ∀ b o, some (⟨b', o', none⟩ : Addr) = some ⟨b, o, none⟩ → b ≠ p2 from HNm2.out)
    clear hUp hV hC hSM HQ hn1 hnow q4_ hml hnz HH hox hoy ht1 hne hr1 hf1 hf2 hp0
    have x0 := HVr.out.c0
    have x1 := HVr.out.c1
    have x2 := HVr.out.c2
    have x3 := HVr.out.c3
    have x4 := HVr.out.c4
    have x5 := HVr.out.c5
    go_upto_region 10 with (go_at_call 13; (with_reducible refine (KD.out _ ((Up.refl _).alloc _ _)).mono ?_); rintro e w3 ⟨A3, k3, rfl, hk3, hnw, hS3, hu⟩; have hv := ((Up.refl wr).alloc #[.int .i64 p0, .int .i64 p1] 47).trans hu; have i0 := hu.keep wr.heap.size 0 (.int .i64 p0) (by simp [go_sem]); have i1 := hu.keep wr.heap.size 1 (.int .i64 p1) (by simp [go_sem]); have e0 := hv.keep _ _ _ x0; have e1 := hv.keep _ _ _ x1; have e2 := hv.keep _ _ _ x2; have e3 := hv.keep _ _ _ x3; have e4 := hv.keep _ _ _ x4; have e5 := hv.keep _ _ _ x5; have HU3 := Lib.hid (HUr.out.trans hv); have HE3 := Lib.hid hv; have HN3 := Lib.hid (hnw.off (p := p) (by simp; omega)); have HN3b := Lib.hid (hnw.off (p := p2) (by simp; omega)); have HS3 := Lib.hid hS3; have z0 := HU3.out.ownGe (g := p) hp 0; have z1 := HU3.out.ownGe (g := p) hp 1; have z2 := HU3.out.ownGe (g := p) hp 2; have z3 := HU3.out.ownGe (g := p) hp 3; have z4 := HU3.out.ownGe (g := p) hp 4; have z5 := HU3.out.ownGe (g := p) hp 5; clear hu hv hS3 hnw x0 x1 x2 x3 x4 x5)
    obtain ⟨w4, hw4⟩ : ∃ y, y = (((((w3.setCell ⟨p, 0, none⟩ (.int .i64 v)).setCell ⟨p, 1, none⟩ (.int .i64 q)).setCell ⟨p, 2, none⟩ (.int .i64 1000)).setCell ⟨p, 3, none⟩ (.int .i64 5)).setCell ⟨p, 4, none⟩ (.int .i64 p0)).setCell ⟨p, 5, none⟩ (.slice A3 X1.length k3) := ⟨_, rfl⟩
    rw [← hw4]
    have HU4 : Hid (Up w w4) := Lib.hid (by rw [hw4]; exact HU3.out.set6 hp)
    have HV4 : Hid (Vs w4 p v q 1000 5 p0 X1 A3 k3) := Lib.hid (by rw [hw4]; exact Vs.put e0 e1 e2 e3 e4 e5 HS3.out HN3.out hk3)
    have HC4 : Hid (Vc w4 p2 v q 1000 now X M B1 kb) := Lib.hid (by rw [hw4]; exact (HCr.out.up HE3.out).out6 (by omega) HOY.out _ _ _ _ _ _)
    have HM4 : Hid (Sl w4 (some ⟨b', o', none⟩) nm M0) := Lib.hid (by rw [hw4]; exact (HMr.out.up HE3.out).off6 HNmb.out _ _ _ _ _ _)
    have i0' : w4.cell? ⟨wr.heap.size, 0, none⟩ = some (.int .i64 p0) := by rw [hw4]; exact far6 i0 (by omega)
    have i1' : w4.cell? ⟨wr.heap.size, 1, none⟩ = some (.int .i64 p1) := by rw [hw4]; exact far6 i1 (by omega)
    clear hw4 e0 e1 e2 e3 e4 e5 z0 z1 z2 z3 z4 z5 i0 i1 HS3 HE3 HVr HCr HMr HU3 HUr KD HN3
    have y0 := HC4.out.c0
    have y1 := HC4.out.c1
    have y2 := HC4.out.c2
    have y3 := HC4.out.c3
    have y4 := HC4.out.c4
    have hq4 : wr.heap.size < w4.heap.size := World.block_lt_of_cell? _ _ i0'
    go_upto_region 13 with (go_at_call 32; (with_reducible refine (KE.out _ HC4.out.sl).mono ?_); rintro e w5 ⟨A4, k4, rfl, hk4, hnw, hS4, _, hu⟩; have i0 := hu.keep _ _ _ i0'; have i1 := hu.keep _ _ _ i1'; have d0 := hu.keep _ _ _ y0; have d1 := hu.keep _ _ _ y1; have d2 := hu.keep _ _ _ y2; have d3 := hu.keep _ _ _ y3; have d4 := hu.keep _ _ _ y4; have HU5 := Lib.hid (HU4.out.trans hu); have HE5 := Lib.hid hu; have HN4 := Lib.hid (hnw.off (p := p2) (by omega)); have HN4b := Lib.hid (hnw.off (p := p) (by omega)); have HS4 := Lib.hid hS4; have z0 := HU5.out.ownGe (g := p2) hp2 0; have z1 := HU5.out.ownGe (g := p2) hp2 1; have z2 := HU5.out.ownGe (g := p2) hp2 2; have z3 := HU5.out.ownGe (g := p2) hp2 3; have z4 := HU5.out.ownGe (g := p2) hp2 4; clear hu hS4 hnw y0 y1 y2 y3 y4 i0' i1')
    obtain ⟨w6, hw6⟩ : ∃ y, y = ((((w5.setCell ⟨p2, 0, none⟩ (.int .i64 v)).setCell ⟨p2, 1, none⟩ (.int .i64 q)).setCell ⟨p2, 2, none⟩ (.int .i64 1000)).setCell ⟨p2, 3, none⟩ (.int .i64 p0)).setCell ⟨p2, 4, none⟩ (.slice A4 X1.length k4) := ⟨_, rfl⟩
    rw [← hw6]
    have HU6 : Hid (Up w w6) := Lib.hid (by rw [hw6]; exact HU5.out.set5 hp2)
    have HV6 : Hid (Vs w6 p v q 1000 5 p0 X1 A3 k3) := Lib.hid (by rw [hw6]; exact (HV4.out.up HE5.out).out5 (by omega) HN3b.out _ _ _ _ _)
    have HC6 : Hid (Vc w6 p2 v q 1000 p0 X1 M A4 k4) := Lib.hid (by rw [hw6]; exact Vc.put d0 d1 d2 d3 d4 HH1.out HS4.out HN4.out hk4)
    have HM6 : Hid (Sl w6 (some ⟨b', o', none⟩) nm M0) := Lib.hid (by rw [hw6]; exact (HM4.out.up HE5.out).off5 HNmc.out _ _ _ _ _)
    have i0' : w6.cell? ⟨wr.heap.size, 0, none⟩ = some (.int .i64 p0) := by rw [hw6]; exact far5 i0 (by omega)
    clear hw6 d0 d1 d2 d3 d4 z0 z1 z2 z3 z4 i0 i1 HS4 HE5 HV4 HC4 HM4 HU4 HU5 KE HN4
    have x0 := HV6.out.c0
    have x1 := HV6.out.c1
    have x2 := HV6.out.c2
    have x3 := HV6.out.c3
    have x4 := HV6.out.c4
    have x5 := HV6.out.c5
    have hq6 : wr.heap.size < w6.heap.size := World.block_lt_of_cell? _ _ i0'
    have hp6 : p < w6.heap.size := HV6.out.lt
    go_upto_region 15 with (go_at_call 15; (with_reducible refine (K0.out _ A3 k3 (HV6.out.sl.up ((Up.refl _).alloc _ _)) HV6.out.cap).mono ?_); rintro e w7 ⟨A5, k5, rfl, hk5, hnw, hS5, hu⟩; have hv := ((Up.refl w6).alloc #[.int .i64 v, .int .i64 q, .int .i64 1000, .int .i64 5, .int .i64 p0, .slice A3 X1.length k3] 24).trans hu; have e0 := hv.keep _ _ _ x0; have e1 := hv.keep _ _ _ x1; have e2 := hv.keep _ _ _ x2; have e3 := hv.keep _ _ _ x3; have e4 := hv.keep _ _ _ x4; have e5 := hv.keep _ _ _ x5; have b0 := hu.keep w6.heap.size 0 (.int .i64 v) (by simp [go_sem]); have b1 := hu.keep w6.heap.size 1 (.int .i64 q) (by simp [go_sem]); have b2 := hu.keep w6.heap.size 2 (.int .i64 1000) (by simp [go_sem]); have b3 := hu.keep w6.heap.size 3 (.int .i64 5) (by simp [go_sem]); have b4 := hu.keep w6.heap.size 4 (.int .i64 p0) (by simp [go_sem]); have b5 := hu.keep w6.heap.size 5 (.slice A3 X1.length k3) (by simp [go_sem]); have HU7 := Lib.hid (HU6.out.trans hv); have HE7 := Lib.hid hv; have HN5 := Lib.hid (hnw.off (p := p) (by simp; omega)); have HN5b := Lib.hid (hnw.off (p := p2) (by simp; omega)); have HN5c := Lib.hid (hnw.off (p := w6.heap.size) (by simp)); have HS5 := Lib.hid hS5; have z0 := HU7.out.ownGe (g := p) hp 0; have z1 := HU7.out.ownGe (g := p) hp 1; have z2 := HU7.out.ownGe (g := p) hp 2; have z3 := HU7.out.ownGe (g := p) hp 3; have z4 := HU7.out.ownGe (g := p) hp 4; have z5 := HU7.out.ownGe (g := p) hp 5; clear hu hv hS5 hnw x0 x1 x2 x3 x4 x5)
    obtain ⟨w8, hw8⟩ : ∃ y, y = (((((w7.setCell ⟨p, 0, none⟩ (.int .i64 v)).setCell ⟨p, 1, none⟩ (.int .i64 q)).setCell ⟨p, 2, none⟩ (.int .i64 1000)).setCell ⟨p, 3, none⟩ (.int .i64 5)).setCell ⟨p, 4, none⟩ (.int .i64 p0)).setCell ⟨p, 5, none⟩ (.slice A5 X1.length k5) := ⟨_, rfl⟩
    rw [← hw8]
    have HU8 : Hid (Up w w8) := Lib.hid (by rw [hw8]; exact HU7.out.set6 hp)
    have HV8 : Hid (Vs w8 p v q 1000 5 p0 X1 A5 k5) := Lib.hid (by rw [hw8]; exact Vs.put e0 e1 e2 e3 e4 e5 HS5.out HN5.out hk5)
    have HC8 : Hid (Vc w8 p2 v q 1000 p0 X1 M A4 k4) := Lib.hid (by rw [hw8]; exact (HC6.out.up HE7.out).out6 (by omega) HN4b.out _ _ _ _ _ _)
    have HM8 : Hid (Sl w8 (some ⟨b', o', none⟩) nm M0) := Lib.hid (by rw [hw8]; exact (HM6.out.up HE7.out).off6 HNmb.out _ _ _ _ _ _)
    have HB8 : Hid (Sl w8 A3 X1.length X1) := Lib.hid (by rw [hw8]; exact (HV6.out.sl.up HE7.out).off6 HV6.out.off _ _ _ _ _ _)
    have c0_ : w8.cell? ⟨w6.heap.size, 0, none⟩ = some (.int .i64 v) := by rw [hw8]; exact far6 b0 (by omega)
    have c1_ : w8.cell? ⟨w6.heap.size, 1, none⟩ = some (.int .i64 q) := by rw [hw8]; exact far6 b1 (by omega)
    have c2_ : w8.cell? ⟨w6.heap.size, 2, none⟩ = some (.int .i64 1000) := by rw [hw8]; exact far6 b2 (by omega)
    have c3_ : w8.cell? ⟨w6.heap.size, 3, none⟩ = some (.int .i64 5) := by rw [hw8]; exact far6 b3 (by omega)
    have c4_ : w8.cell? ⟨w6.heap.size, 4, none⟩ = some (.int .i64 p0) := by rw [hw8]; exact far6 b4 (by omega)
    have c5_ : w8.cell? ⟨w6.heap.size, 5, none⟩ = some (.slice A3 X1.length k3) := by rw [hw8]; exact far6 b5 (by omega)
    clear hw8 e0 e1 e2 e3 e4 e5 z0 z1 z2 z3 z4 z5 b0 b1 b2 b3 b4 b5 HS5 HE7 HV6 HC6 HM6 HU6 HU7 HN5 i0' K0
    have x0 := HV8.out.c0
    have x1 := HV8.out.c1
    have x2 := HV8.out.c2
    have x3 := HV8.out.c3
    have x4 := HV8.out.c4
    have x5 := HV8.out.c5
    have hl8 : w6.heap.size < w8.heap.size := World.block_lt_of_cell? _ _ c0_
    have hp8 : p < w8.heap.size := HV8.out.lt
    have hp28 : p2 < w8.heap.size := HC8.out.lt
    generalize w6.heap.size = pb at *
    go_upto_region 18 with (first
      | (go_at_call 10; (with_reducible refine (KSX.out _ A5 A3 k5 k3 HV8.out.sl HB8.out).mono ?_); rintro e w9 ⟨rfl, hu⟩; have HV9 := Lib.hid (HV8.out.up hu); have HC9 := Lib.hid (HC8.out.up hu); have HM9 := Lib.hid (HM8.out.up hu); have HU9 := Lib.hid (HU8.out.trans hu); have t0 := HV9.out.c0; have t1 := HV9.out.c1; have t2 := HV9.out.c2; have t3 := HV9.out.c3; have t4 := HV9.out.c4; have t5 := HV9.out.c5; have hp9 : p < w9.heap.size := HV9.out.lt; have hp29 : p2 < w9.heap.size := HC9.out.lt; clear hu x0 x1 x2 x3 x4 x5 c0_ c1_ c2_ c3_ c4_ c5_ HB8)
      | (go_at_call 15; (with_reducible refine (K1.out _ A5 k5 HV9.out.sl HV9.out.cap).mono ?_); rintro e w10 ⟨A6, k6, rfl, hk6, hnw, hS6, hu⟩; have e0 := hu.keep _ _ _ t0; have e1 := hu.keep _ _ _ t1; have e2 := hu.keep _ _ _ t2; have e3 := hu.keep _ _ _ t3; have e4 := hu.keep _ _ _ t4; have e5 := hu.keep _ _ _ t5; have HU10 := Lib.hid (HU9.out.trans hu); have HE10 := Lib.hid hu; have HN6 := Lib.hid (hnw.off (p := p) hp9); have HN6b := Lib.hid (hnw.off (p := p2) hp29); have HS6 := Lib.hid hS6; have z0 := HU10.out.ownGe (g := p) hp 0; have z1 := HU10.out.ownGe (g := p) hp 1; have z2 := HU10.out.ownGe (g := p) hp 2; have z3 := HU10.out.ownGe (g := p) hp 3; have z4 := HU10.out.ownGe (g := p) hp 4; have z5 := HU10.out.ownGe (g := p) hp 5; clear hu hS6 hnw t0 t1 t2 t3 t4 t5))
    obtain ⟨w11, hw11⟩ : ∃ y, y = (((((w10.setCell ⟨p, 0, none⟩ (.int .i64 v)).setCell ⟨p, 1, none⟩ (.int .i64 q)).setCell ⟨p, 2, none⟩ (.int .i64 1000)).setCell ⟨p, 3, none⟩ (.int .i64 5)).setCell ⟨p, 4, none⟩ (.int .i64 p0)).setCell ⟨p, 5, none⟩ (.slice A6 X2.length k6) := ⟨_, rfl⟩
    rw [← hw11]
    have HU11 : Hid (Up w w11) := Lib.hid (by rw [hw11]; exact HU10.out.set6 hp)
    have HV11 : Hid (Vs w11 p v q 1000 5 p0 X2 A6 k6) := Lib.hid (by rw [hw11]; exact Vs.put e0 e1 e2 e3 e4 e5 HS6.out HN6.out hk6)
    have HC11 : Hid (Vc w11 p2 v q 1000 p0 X1 M A4 k4) := Lib.hid (by rw [hw11]; exact (HC9.out.up HE10.out).out6 (by omega) HN4b.out _ _ _ _ _ _)
    have HM11 : Hid (Sl w11 (some ⟨b', o', none⟩) nm M0) := Lib.hid (by rw [hw11]; exact (HM9.out.up HE10.out).off6 HNmb.out _ _ _ _ _ _)
    clear hw11 e0 e1 e2 e3 e4 e5 z0 z1 z2 z3 z4 z5 HS6 HE10 HV9 HC9 HM9 HU9 HU10 HU8 HV8 HC8 HM8 HN6 K1
    have y0 := HC11.out.c0
    have y1 := HC11.out.c1
    have y2 := HC11.out.c2
    have y3 := HC11.out.c3
    have y4 := HC11.out.c4
    have hp11 : p < w11.heap.size := HV11.out.lt
    have hp211 : p2 < w11.heap.size := HC11.out.lt
    go_upto_region 19 with (go_at_call 33; (with_reducible refine (KC.out _ A4 k4 HC11.out.sl HC11.out.cap).mono ?_); rintro e w12 ⟨A7, k7, rfl, hk7, hnw, hS7, hu⟩; have d0 := hu.keep _ _ _ y0; have d1 := hu.keep _ _ _ y1; have d2 := hu.keep _ _ _ y2; have d3 := hu.keep _ _ _ y3; have d4 := hu.keep _ _ _ y4; have HU12 := Lib.hid (HU11.out.trans hu); have HE12 := Lib.hid hu; have HN7 := Lib.hid (hnw.off (p := p2) hp211); have HN7b := Lib.hid (hnw.off (p := p) hp11); have HS7 := Lib.hid hS7; have z0 := HU12.out.ownGe (g := p2) hp2 0; have z1 := HU12.out.ownGe (g := p2) hp2 1; have z2 := HU12.out.ownGe (g := p2) hp2 2; have z3 := HU12.out.ownGe (g := p2) hp2 3; have z4 := HU12.out.ownGe (g := p2) hp2 4; clear hu hS7 hnw y0 y1 y2 y3 y4)
    obtain ⟨w13, hw13⟩ : ∃ y, y = ((((w12.setCell ⟨p2, 0, none⟩ (.int .i64 v)).setCell ⟨p2, 1, none⟩ (.int .i64 q)).setCell ⟨p2, 2, none⟩ (.int .i64 1000)).setCell ⟨p2, 3, none⟩ (.int .i64 p0)).setCell ⟨p2, 4, none⟩ (.slice A7 X2.length k7) := ⟨_, rfl⟩
    rw [← hw13]
    have HU13 : Hid (Up w w13) := Lib.hid (by rw [hw13]; exact HU12.out.set5 hp2)
    have HV13 : Hid (Vs w13 p v q 1000 5 p0 X2 A6 k6) := Lib.hid (by rw [hw13]; exact (HV11.out.up HE12.out).out5 (by omega) HN6b.out _ _ _ _ _)
    have HC13 : Hid (Vc w13 p2 v q 1000 p0 X2 (M ++ [(p0, p1)]) A7 k7) := Lib.hid (by rw [hw13]; exact Vc.put d0 d1 d2 d3 d4 HH2.out HS7.out HN7.out hk7)
    have HM13 : Hid (Sl w13 (some ⟨b', o', none⟩) nm M0) := Lib.hid (by rw [hw13]; exact (HM11.out.up HE12.out).off5 HNmc.out _ _ _ _ _)
    clear hw13 d0 d1 d2 d3 d4 z0 z1 z2 z3 z4 HS7 HE12 HV11 HC11 HM11 HU11 HU12 HN7 KC
    have x5 := HV13.out.c5
    have y4 := HC13.out.c4
    go_wp2_with (go_at_call 34; (with_reducible refine (KSY.out _ A6 A7 k6 k7 HV13.out.sl HC13.out.sl).mono ?_); rintro e w14 ⟨rfl, hu⟩; have HV14 := Lib.hid (HV13.out.up hu); have HC14 := Lib.hid (HC13.out.up hu); have HM14 := Lib.hid (HM13.out.up hu); have HU14 := Lib.hid (HU13.out.trans hu); clear hu)
    go_roundw
    case rel => exact ⟨i + 1, by go_num, by omega, Lib.hid ⟨p0, X2, M ++ [(p0, p1)], A6, A7, k6, k7, HV14.out, HC14.out, HN6b.out, HN7b.out, by rw [List.length_append]; simp only [List.length_cons, List.length_nil]; omega, HX.out, ⟨q1_, q2⟩, HM14.out, HU14.out⟩⟩
    case measure => simp [intOf]; omega

set_option maxRecDepth 100000 in
theorem sumCounts_lifted (os : Os) (started : os.Started) (H : Type) (enc : TypeId × Value → H) :
    ReturnsInHanded {} Try.checked os 6 .any (Rows.sumCountsSpec.pre6 enc Try.prog Try.f6 Rows.sumCountsRow.domain false) (Rows.sumCountsSpec.post enc Try.prog Try.f6 false true false false) := by
  refine returnsInHanded_of_change_sized (C := Try.checked) sumCounts_own started (by kernel_rfl) Try.func6
    (ChangeSpec.witness6 (enc := enc) (C := Try.checked) false ⟨#[], #[.slice none 0 0, .int .i64 0, .int .i64 0], []⟩ 8 (by kernel_rfl) (by kernel_rfl) (by kernel_rfl) (by kernel_rfl)) ?_
  intro W base args ds gs before hval0 hW hcnd hsz0 _
  have hval : ∀ (j : Nat) t v, Try.f6.params[j]? = some t → args[j]? = some v → Value.okWide Try.prog W .any base t v := hval0
  have hW' := hW
  obtain ⟨p, q, hA0, hV, rfl, hfz, hnd⟩ := hW'
  have hA : DataW.TrodAll enc Try.prog W 0 (fun _ => true) true Try.f6.params.toList args.toList ds p := hA0
  rw [Try.params6] at hA hval
  obtain ⟨v0, vs0, d0, ds0, p0, q0, hargs, rfl, rfl, h0, r0⟩ := trodAll_cons hA
  obtain ⟨v1, vs1, d1, ds1, p1, q1, rfl, rfl, rfl, h1, r1⟩ := trodAll_cons r0
  obtain ⟨v2, vs2, d2, ds2, p2, q2, rfl, rfl, rfl, h2, r2⟩ := trodAll_cons r1
  obtain ⟨rfl, rfl, rfl⟩ := trodAll_nil r2
  obtain rfl : args = #[v0, v1, v2] := by cases args; simp_all
  obtain ⟨rfl, rfl⟩ := trodVars_none hV
  have hlt := fun x hx => hW.lt x hx
  have k0 := h0
  obtain ⟨n0, m0, A0, L0, rfl, hk0, hS0, hI0⟩ := open_items2 (hval 0 41 v0 rfl rfl) h0
  have k1 := h1
  obtain ⟨a1, rfl, rfl, rfl, w1⟩ := open_int Try.underlying2 (hval 1 2 v1 rfl rfl) h1
  have k2 := h2
  obtain ⟨a2, rfl, rfl, rfl, w2⟩ := open_int Try.underlying3 (hval 2 3 v2 rfl rfl) h2
  refine (sumCounts_walk n0 m0 A0 L0 hk0 hI0 a1 w1 a2 w2 W hS0).mono fun e W' ⟨he, hg⟩ => ?_
  subst he
  exact ⟨_, rfl, post_of_same (pv := []) hW (fun _ _ _ => (trodAll_cons_mk (shut_bool Try.underlying4 _) trodAll_mk0)) (fun sp hsp => (trodAll_cons_mk (stay (by kernel_rfl) (of_decide_eq_true (by kernel_rfl)) k0 hg hlt (fun x hx => by first | (simp at hx; done) | simp [hx]) hsp) (trodAll_cons_mk (stay (by kernel_rfl) (of_decide_eq_true (by kernel_rfl)) k1 hg hlt (fun x hx => by first | (simp at hx; done) | simp [hx]) hsp) (trodAll_cons_mk (stay (by kernel_rfl) (of_decide_eq_true (by kernel_rfl)) k2 hg hlt (fun x hx => by first | (simp at hx; done) | simp [hx]) hsp) trodAll_mk0)))) (fun _ _ => rfl) rfl
    (hg.grown.frame _) hg.grown.2.1 (ok_one (by kernel_rfl) rfl (okWide_bool_mk Try.underlying4 _))⟩

theorem sumCounts_over : Rows.sumCountsRow.holds Try.pinned (OpenSpec.ofChange Rows.sumCountsSpec) :=
  OpenClaim.holds_of_wide 6 Try.f6 rfl rfl rfl rfl rfl rfl rfl ⟨rfl, rfl, rfl, rfl, rfl⟩ rfl rfl rfl rfl rfl (by kernel_rfl) Try.func6 (by kernel_rfl)
    (of_decide_eq_true (by kernel_rfl)) (by unfold Func.isWrapper; first | (rw [if_pos (by decide +kernel)]; kernel_rfl) | (rw [if_neg (by decide +kernel)]; exact ⟨rfl, rfl⟩))
    (fun os started H enc _ => sumCounts_lifted os started H enc)

theorem sumCounts_holds : Rows.SumCountsSaid :=
  sumCounts_over
#print axioms sumCounts_holds
end Go.Proofs.Ytfdjhahnggdklaa
