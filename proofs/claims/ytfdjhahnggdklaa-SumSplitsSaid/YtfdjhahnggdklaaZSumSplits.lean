/- Proved: for every list of raw items, any width and any two values the law SumSplits returns true: a value is the sum of its parts, added at the same tick. Conditions: none. -/
import Derived.Test.YtfdjhahnggdklaaRows
import Derived.Test.YtfdjhahnggdklaaZBAtMost
import Derived.Test.YtfdjhahnggdklaaZBProduct
import Derived.Test.YtfdjhahnggdklaaZBSmallm2
import Derived.Test.YtfdjhahnggdklaaZCClock
import Derived.Test.YtfdjhahnggdklaaZGBasem8
import Derived.Test.YtfdjhahnggdklaaZGLawm3
import Derived.Test.YtfdjhahnggdklaaZHEqm5
import Derived.Test.YtfdjhahnggdklaaZHGrowm2
import Derived.Test.YtfdjhahnggdklaaZHOrdm2
import Derived.Test.YtfdjhahnggdklaaZHRVal
import Derived.Test.YtfdjhahnggdklaaZHRowm3
import Derived.Test.YtfdjhahnggdklaaZHSamem5
import Derived.Test.YtfdjhahnggdklaaZHSmallm7
import Derived.Test.YtfdjhahnggdklaaZIBasem2
import Derived.Test.YtfdjhahnggdklaaZJAwk
import Derived.Test.YtfdjhahnggdklaaZJBase
import Derived.Test.YtfdjhahnggdklaaZJMath
import Derived.Test.YtfdjhahnggdklaaZJPlay
import Derived.Test.YtfdjhahnggdklaaZJPos
import Derived.Test.YtfdjhahnggdklaaZJSt
import Derived.Test.YtfdjhahnggdklaaZREasym4
import Derived.Test.YtfdjhahnggdklaaZWCmpm5
import Derived.Test.YtfdjhahnggdklaaZWGcd
import Derived.Test.YtfdjhahnggdklaaZWMathm9
import Derived.Test.YtfdjhahnggdklaaZWRDiv2
namespace Go.Proofs.Ytfdjhahnggdklaa
open Go.ChangeShapes Go.WideShapes Go.ChangeAt Go.RowKit Go.Joins
set_option linter.unusedVariables false

theorem sumSplits_own : ownKnob Try.prog.godebug = none := by kernel_rfl

set_option maxHeartbeats 16000000 in
set_option maxRecDepth 100000 in
theorem sumSplits_walk (n k : Nat) (A : Option Addr) (L : List It) (hk : n ≤ k) (hI : InI L) (a1 : Int) (_ : (Lit.int .i64 a1).wf = true) (a2 : Int) (_ : (Lit.int .i64 a2).wf = true) (a3 : Int) (_ : (Lit.int .i64 a3).wf = true) (w : World) (hS : Sl w A n L) :
    Calls Try.prog 7 #[.slice A n k, .int .i64 a1, .int .i64 a2, .int .i64 a3] w fun e w' => e = .returned (.bool true) ∧ Up w w' := by
  have KA := Lib.hid awake12_up
  have HS := Lib.hid hS
  have KM1 := Lib.hid (fun W => modm_any a1 20 (by omega) (by omega) W)
  have KM2 := Lib.hid (fun W => modm_any a2 200 (by omega) (by omega) W)
  have KM3 := Lib.hid (fun W => modm_any a3 200 (by omega) (by omega) W)
  have r0 : 0 ≤ a1 % 20 := Int.emod_nonneg _ (by omega)
  have r1 : a1 % 20 < 20 := Int.emod_lt_of_pos _ (by omega)
  have s0 : 0 ≤ a2 % 200 := Int.emod_nonneg _ (by omega)
  have s1 : a2 % 200 < 200 := Int.emod_lt_of_pos _ (by omega)
  have t0 : 0 ≤ a3 % 200 := Int.emod_nonneg _ (by omega)
  have t1 : a3 % 200 < 200 := Int.emod_lt_of_pos _ (by omega)
  generalize a1 % 20 = rr at *
  generalize a2 % 200 = ga at *
  generalize a3 % 200 = gb at *
  obtain ⟨v, ev⟩ : ∃ v, 1 + rr = v := ⟨_, rfl⟩
  have v1 : 1 ≤ v := by omega
  have v25 : v ≤ 25 := by omega
  have hmay : mayC v 2 65536 0 = true := mayC_ok (by omega) (by omega) v1 (by omega) (by omega) (by omega) (by omega) (by omega)
  have K1 := Lib.hid (fun W => new12_yes v 2 65536 400 0 (mayS_yes hmay (by omega) (by omega)) W)
  have K2 := Lib.hid (fun W (h : Sl W A n L) => positive_up n k A L v v1 v25 30 30 rfl (by omega) 400 (by omega) (by omega) W h)
  have HMY := Lib.hid hmay
  clear hS hI hmay
  go_enter Try.func7, Try.ntmps7
  go_upto_region 3 with (first
    | (go_at_call 24; (with_reducible refine (KM1.out _).mono ?_); rintro e w' ⟨rfl, rfl⟩)
    | (go_at_call 24; (with_reducible refine (KM2.out _).mono ?_); rintro e w' ⟨rfl, rfl⟩)
    | (go_at_call 24; (with_reducible refine (KM3.out _).mono ?_); rintro e w' ⟨rfl, rfl⟩)
    | (go_at_call 8; (with_reducible refine (K1.out _).mono ?_); rintro e w1 ⟨rfl, hu⟩; have HU1 := Lib.hid hu; clear hu))
  have hp : w.heap.size ≤ w1.heap.size := HU1.out.size
  obtain ⟨w2, hw2⟩ : ∃ y, y = w1.alloc (.cells #[.int .i64 v, .int .i64 2, .int .i64 65536, .int .i64 400, .int .i64 0, .slice none 0 0] 24) := ⟨_, rfl⟩
  rw [← hw2]
  have HU2 : Hid (Up w w2) := Lib.hid (by rw [hw2]; exact HU1.out.alloc _ _)
  have HV2 : Hid (Vs w2 w1.heap.size v 2 65536 400 0 [] none 0) := Lib.hid (by rw [hw2]; exact Vs.new Sl.none_ (Nat.le_refl _) (fun _ _ e => by cases e))
  clear hw2
  generalize w1.heap.size = p at *
  have hpl : p < w2.heap.size := HV2.out.lt
  clear ev r0 r1 KM1 KM2 KM3 K1
  go_wp2_with (go_at_call 23; (with_reducible refine (K2.out _ (HS.out.up HU2.out)).mono ?_); rintro e w3 ⟨Am, nm, km, M0, z, rfl, hnm, hT, hVm, hN, hO, hu⟩; have HT := Lib.hid hT; have HVm := Lib.hid hVm; have HSM := Lib.hid hO; have HLM := Lib.hid hO.1; have HNm := Lib.hid (hN.off hpl); have HU3 := Lib.hid (HU2.out.trans hu); have HV3 := Lib.hid (HV2.out.up hu); clear hu hT hVm hN hO)
  have hz0 := HT.out.1
  have hz1 : z ≤ 4080 := by have h1 := HT.out.2.1; have := HLM.out; omega
  have HR0 : Hid (RnP w w3 p v Am nm M0 z 0) := Lib.hid ⟨0, [], [], none, 0, HV3.out, Hs.start HMY.out, (fun x hx => by cases hx), Nat.le_refl _, (fun h => (mdT_step HT.out (by rw [HLM.out]; exact h)).1), ⟨Int.le_refl _, hz0⟩, HSM.out, HU3.out⟩
  clear HV2 HV3 HSM HU3 HU2 K2 HS hpl
  go_loopw [10, 34] (fun s t wr => ∃ i : Nat, s = .int .i64 0 ∧ t = .int .i64 i ∧ i ≤ nm ∧ Hid (RnP w wr p v Am nm M0 z i)) (fun _ t _ => nm - (intOf t).toNat)
  case atStart => exact ⟨0, rfl, rfl, Nat.zero_le _, HR0⟩
  case round =>
    obtain ⟨i, rfl, rfl, hin, HQ⟩ := hrel
    obtain ⟨now, X, M, A1, k1, hV, hHs, hMv, hMi, hnow, hnz, hSM, hUp⟩ := HQ.out
    have HU := Lib.hid hUp
    have HV := Lib.hid hV
    have HH := Lib.hid hHs
    have HMv := Lib.hid hMv
    have HSM := Lib.hid hSM
    have n0 := hnz.1
    have n1 := hnz.2
    have x0 := hV.c0
    have x1 := hV.c1
    have x2 := hV.c2
    have x3 := hV.c3
    have x4 := hV.c4
    have x5 := hV.c5
    have hpr : p < wr.heap.size := hV.lt
    by_cases hlt : i < nm
    case neg =>
      have htot := HH.out.tots hMv
      have hr1 : totB X + ga ≤ 65536 := by omega
      have hs1 := HH.out.value (y := ga) s0 hr1
      have hs1t := (stC_many HH.out.st ga.toNat (by omega)).2
      have hr2 : totB (itB 2 now ga.toNat X) + gb ≤ 65536 := by omega
      have hs2 := hs1.value (y := gb) t0 hr2
      have KB1 := Lib.hid (fun W (hu : Up wr W) => addVS (d := ga) HH.out (by omega : (1 : Int) ≤ 400 ∧ (400 : Int) ≤ 1024) HV.out.sl HV.out.cap hu s0 (by omega) hr1)
      have KB2 := Lib.hid (fun W A k (sl : Sl W A (itB 2 now ga.toNat X).length (itB 2 now ga.toNat X)) (cap : (itB 2 now ga.toNat X).length ≤ k) => addVS (d := gb) hs1 (by omega : (1 : Int) ≤ 400 ∧ (400 : Int) ≤ 1024) sl cap (Up.refl W) t0 (by omega) hr2)
      have KB3 := Lib.hid (fun W (hu : Up wr W) => addVS (d := ga + gb) HH.out (by omega : (1 : Int) ≤ 400 ∧ (400 : Int) ≤ 1024) HV.out.sl HV.out.cap hu (by omega) (by omega) (by omega))
      have e23 : itB 2 now (ga + gb).toNat X = itB 2 now gb.toNat (itB 2 now ga.toNat X) := by rw [show (ga + gb).toNat = ga.toNat + gb.toNat by omega]; exact itB_add _ _ _ _ _
      rw [e23] at KB3
      have hfw : (itB 2 now gb.toNat (itB 2 now ga.toNat X)).length ≤ 50000 := by have := stC_few hs2.st; omega
      generalize itB 2 now gb.toNat (itB 2 now ga.toNat X) = Xb at *
      generalize itB 2 now ga.toNat X = Xa at *
      have KS := Lib.hid (fun W A2 A3 k2 k3 (hA : Sl W A2 Xb.length Xb) (hB : Sl W A3 Xb.length Xb) => same12_t v 2 65536 400 now Xb.length k2 k3 A2 A3 Xb (by omega) W hA hB)
      have w5_ : IntKind.i64.wrap (ga + gb) = ga + gb := IntWalk.i64_in _ (by omega)
      clear htot hr1 hs1 hs1t hr2 hs2 e23 hfw HQ hV hHs hMv hnow hnz hSM hUp HT HVm HR0
      go_upto_region 13 with (first
        | (go_at_call 15; (with_reducible refine (KB1.out _ (Up.refl _)).mono ?_); rintro e wa ⟨A2, k2, rfl, hcy, hny, hsy, hu⟩; have HVa := Lib.hid (HV.out.up hu); have HUa := Lib.hid (HU.out.trans hu); have HCa := Lib.hid hu; have HSY := Lib.hid hsy; have hsa : wr.heap.size ≤ wa.heap.size := hu.size; clear hu hsy hny)
        | (go_at_call 15; (with_reducible refine (KB2.out _ A2 k2 (HSY.out.up ((Up.refl _).alloc _ _)) hcy).mono ?_); rintro e wb ⟨A3, k3, rfl, hc2, hn2, hs2, hu⟩; have hv := ((Up.refl wa).alloc #[.int .i64 v, .int .i64 2, .int .i64 65536, .int .i64 400, .int .i64 now, .slice A2 Xa.length k2] 24).trans hu; have HVb := Lib.hid (HVa.out.up hv); have HUb := Lib.hid (HUa.out.trans hv); have HCb := Lib.hid (HCa.out.trans hv); have HS2 := Lib.hid hs2; have HN2 := Lib.hid (hn2.off (p := wa.heap.size) (by simp)); have m0 := hu.keep wa.heap.size 0 (.int .i64 v) (by simp [go_sem]); have m1 := hu.keep wa.heap.size 1 (.int .i64 2) (by simp [go_sem]); have m2 := hu.keep wa.heap.size 2 (.int .i64 65536) (by simp [go_sem]); have m3 := hu.keep wa.heap.size 3 (.int .i64 400) (by simp [go_sem]); have m4 := hu.keep wa.heap.size 4 (.int .i64 now) (by simp [go_sem]); have m5 := hu.keep wa.heap.size 5 (.slice A2 Xa.length k2) (by simp [go_sem]); have z0 := HUb.out.ownGe (g := wa.heap.size) HUa.out.size 0; have z1 := HUb.out.ownGe (g := wa.heap.size) HUa.out.size 1; have z2 := HUb.out.ownGe (g := wa.heap.size) HUa.out.size 2; have z3 := HUb.out.ownGe (g := wa.heap.size) HUa.out.size 3; have z4 := HUb.out.ownGe (g := wa.heap.size) HUa.out.size 4; have z5 := HUb.out.ownGe (g := wa.heap.size) HUa.out.size 5; clear hu hv hs2 hn2))
      obtain ⟨w9, hw9⟩ : ∃ y, y = (((((wb.setCell ⟨wa.heap.size, 0, none⟩ (.int .i64 v)).setCell ⟨wa.heap.size, 1, none⟩ (.int .i64 2)).setCell ⟨wa.heap.size, 2, none⟩ (.int .i64 65536)).setCell ⟨wa.heap.size, 3, none⟩ (.int .i64 400)).setCell ⟨wa.heap.size, 4, none⟩ (.int .i64 now)).setCell ⟨wa.heap.size, 5, none⟩ (.slice A3 Xb.length k3) := ⟨_, rfl⟩
      rw [← hw9]
      have HVy : Hid (Vs w9 wa.heap.size v 2 65536 400 now Xb A3 k3) := Lib.hid (by rw [hw9]; exact Vs.put m0 m1 m2 m3 m4 m5 HS2.out HN2.out hc2)
      have HVx : Hid (Vs w9 p v 2 65536 400 now X A1 k1) := Lib.hid (by
        rw [hw9]
        rcases Nat.eq_zero_or_pos X.length with h0 | h0
        · exact ⟨far6 HVb.out.c0 (by omega), far6 HVb.out.c1 (by omega), far6 HVb.out.c2 (by omega), far6 HVb.out.c3 (by omega), far6 HVb.out.c4 (by omega), far6 HVb.out.c5 (by omega), ⟨HVb.out.sl.1, fun h => absurd h (by omega)⟩, HVb.out.off, HVb.out.cap⟩
        · obtain ⟨b, o, e, hb⟩ := HV.out.sl.out h0
          exact HVb.out.out6 (by omega) (fun b' o' e' => by rw [e] at e'; injection e' with e'; injection e' with e1 e2; omega) _ _ _ _ _ _)
      have HU9 : Hid (Up w w9) := Lib.hid (by rw [hw9]; exact HUb.out.set6 HUa.out.size)
      have HC9 : Hid (Up wr w9) := Lib.hid (by rw [hw9]; exact HCb.out.set6 hsa)
      clear hw9 x0 x1 x2 x3 x4 x5 m0 m1 m2 m3 m4 m5 HVb HVa HS2 HSY z0 z1 z2 z3 z4 z5
      have x0 := HVx.out.c0
      have x1 := HVx.out.c1
      have x2 := HVx.out.c2
      have x3 := HVx.out.c3
      have x4 := HVx.out.c4
      have x5 := HVx.out.c5
      have y0 := HVy.out.c0
      have y1 := HVy.out.c1
      have y2 := HVy.out.c2
      have y3 := HVy.out.c3
      have y4 := HVy.out.c4
      have y5 := HVy.out.c5
      have hl9 : wa.heap.size < w9.heap.size := HVy.out.lt
      generalize wa.heap.size = py at *
      go_wp2_with (first
        | (go_at_call 15; (with_reducible refine (KB3.out _ HC9.out).mono ?_); rintro e wd ⟨A4, k4, rfl, hc3, hn3, hs3, hu⟩; have HUd := Lib.hid (HU9.out.trans hu); have HSY := Lib.hid (HVy.out.up hu); have HS3 := Lib.hid hs3; have u0 := hu.keep _ _ _ y0; have u1 := hu.keep _ _ _ y1; have u2 := hu.keep _ _ _ y2; have u3 := hu.keep _ _ _ y3; have u4 := hu.keep _ _ _ y4; have u5 := hu.keep _ _ _ y5; have hld : py < wd.heap.size := World.block_lt_of_cell? _ _ u0; clear hu hs3 hn3 y0 y1 y2 y3 y4 y5)
        | (go_at_call 10; (with_reducible refine (KS.out _ A3 A4 k3 k4 (HSY.out.sl.up ((Up.refl _).alloc _ _)) (HS3.out.up ((Up.refl _).alloc _ _))).mono ?_); rintro e we ⟨rfl, hu⟩; have HUe := Lib.hid ((HUd.out.alloc _ _).trans hu); clear hu)
        | (go_at_call 11; (with_reducible refine (KA.out _).mono ?_); rintro e wf ⟨rfl, hu⟩; have HUf := Lib.hid (HUe.out.trans hu); clear hu))
      go_ret
      exact ⟨rfl, HUf.out⟩
    obtain ⟨b', o', rfl, d0, d1⟩ := hSM.at_ hlt
    have hml : i < M0.length := by rw [HLM.out]; exact hlt
    obtain ⟨q1, q2, q4⟩ := mdT_step HT.out hml
    have hn1 := hnow hlt
    obtain ⟨v0, v1_⟩ := HVm.out i hlt
    have HX : Hid (i + 1 < nm → (M0.getD i (0, 0)).1 ≤ (M0.getD (i + 1) (0, 0)).1) := Lib.hid (fun h => q4 (by rw [HLM.out]; exact h))
    generalize (M0.getD i (0, 0)).1 = p0 at *
    generalize (M0.getD i (0, 0)).2 = p1 at *
    have KD := Lib.hid (fun W (hu : Up wr W) => advVS hHs (by omega : (1 : Int) ≤ 400 ∧ (400 : Int) ≤ 1024) hV.sl hV.cap hu hn1 (by omega : p0 ≤ 16777216))
    have HH1 := Lib.hid (hHs.adv hn1 (show p0 ≤ 16777216 by omega))
    generalize exL X (firZ p0 v) = X1 at *
    have htot := HH1.out.tots hMv
    have f2 : (i : Int) < nm := by omega
    have f3 : (0 : Int) ≤ i := by omega
    clear hUp hV hHs hMv hSM HQ hn1 hnow q4 hml hnz HH
    go_wp2_with (go_at_call 13; (with_reducible refine (KD.out _ ((Up.refl _).alloc _ _)).mono ?_); rintro e w3 ⟨A2, k2, rfl, hk2, hnw, hS2, hu⟩; have hv := ((Up.refl wr).alloc #[.int .i64 p0, .int .i64 p1] 47).trans hu; have e0 := hv.keep _ _ _ x0; have e1 := hv.keep _ _ _ x1; have e2 := hv.keep _ _ _ x2; have e3 := hv.keep _ _ _ x3; have e4 := hv.keep _ _ _ x4; have e5 := hv.keep _ _ _ x5; have y0 := hu.keep wr.heap.size 0 (.int .i64 p0) (by simp [go_sem]); have y1 := hu.keep wr.heap.size 1 (.int .i64 p1) (by simp [go_sem]); have HU3 := Lib.hid (HU.out.trans hv); have HV3 := Lib.hid hv; have HA2 := Lib.hid (hnw.off (p := p) (by simp; omega)); have HS2 := Lib.hid hS2; have z0 := HU3.out.ownGe (g := p) hp 0; have z1 := HU3.out.ownGe (g := p) hp 1; have z2 := HU3.out.ownGe (g := p) hp 2; have z3 := HU3.out.ownGe (g := p) hp 3; have z4 := HU3.out.ownGe (g := p) hp 4; have z5 := HU3.out.ownGe (g := p) hp 5; clear hu hv hS2 hnw x0 x1 x2 x3 x4 x5)
    obtain ⟨w4, hw4⟩ : ∃ y, y = (((((w3.setCell ⟨p, 0, none⟩ (.int .i64 v)).setCell ⟨p, 1, none⟩ (.int .i64 2)).setCell ⟨p, 2, none⟩ (.int .i64 65536)).setCell ⟨p, 3, none⟩ (.int .i64 400)).setCell ⟨p, 4, none⟩ (.int .i64 p0)).setCell ⟨p, 5, none⟩ (.slice A2 X1.length k2) := ⟨_, rfl⟩
    rw [← hw4]
    have HU4 : Hid (Up w w4) := Lib.hid (by rw [hw4]; exact HU3.out.set6 hp)
    have HV4 : Hid (Vs w4 p v 2 65536 400 p0 X1 A2 k2) := Lib.hid (by rw [hw4]; exact Vs.put e0 e1 e2 e3 e4 e5 HS2.out HA2.out hk2)
    have y0' : w4.cell? ⟨wr.heap.size, 0, none⟩ = some (.int .i64 p0) := by rw [hw4]; exact far6 y0 (by omega)
    have y1' : w4.cell? ⟨wr.heap.size, 1, none⟩ = some (.int .i64 p1) := by rw [hw4]; exact far6 y1 (by omega)
    have HSM4 : Hid (Sl w4 (some ⟨b', o', none⟩) nm M0) := Lib.hid (by rw [hw4]; exact (HSM.out.up HV3.out).off6 HNm.out _ _ _ _ _ _)
    clear hw4 e0 e1 e2 e3 e4 e5 z0 z1 z2 z3 z4 z5 y0 y1 HS2 HV3 HV HSM HA2 HU3
    have c0_ := HV4.out.c0
    have c1_ := HV4.out.c1
    have c2_ := HV4.out.c2
    have c3_ := HV4.out.c3
    have c4_ := HV4.out.c4
    have c5_ := HV4.out.c5
    have hp4 : p < w4.heap.size := HV4.out.lt
    have hroom : totB X1 + p1 ≤ 65536 := by omega
    have KD2 := Lib.hid (fun W (hu : Up w4 W) => addVS HH1.out (by omega : (1 : Int) ≤ 400 ∧ (400 : Int) ≤ 1024) HV4.out.sl HV4.out.cap hu v0 v1_ hroom)
    have HH2 := Lib.hid (HH1.out.value v0 hroom)
    generalize itB 2 p0 p1.toNat X1 = X2 at *
    clear hroom htot
    go_wp2_with (go_at_call 15; (with_reducible refine (KD2.out _ (Up.refl _)).mono ?_); rintro e w5 ⟨A3, k3, rfl, hk3, hnw3, hS3, hu⟩; have HS3 := Lib.hid hS3; have HA3 := Lib.hid (hnw3.off (p := p) hp4); have HU5 := Lib.hid (HU4.out.trans hu); have HSM5 := Lib.hid (HSM4.out.up hu); have m0 := hu.keep _ _ _ c0_; have m1 := hu.keep _ _ _ c1_; have m2 := hu.keep _ _ _ c2_; have m3 := hu.keep _ _ _ c3_; have m4 := hu.keep _ _ _ c4_; have m5 := hu.keep _ _ _ c5_; have z0 := HU5.out.ownGe (g := p) hp 0; have z1 := HU5.out.ownGe (g := p) hp 1; have z2 := HU5.out.ownGe (g := p) hp 2; have z3 := HU5.out.ownGe (g := p) hp 3; have z4 := HU5.out.ownGe (g := p) hp 4; have z5 := HU5.out.ownGe (g := p) hp 5; clear hu hS3 hnw3 c0_ c1_ c2_ c3_ c4_ c5_ y0' y1')
    go_roundw
    case rel =>
      exact ⟨i + 1, rfl, by go_num, by omega, Lib.hid ⟨p0, X2, M ++ [(p0, p1)], A3, k3, Vs.put m0 m1 m2 m3 m4 m5 HS3.out HA3.out hk3, HH2.out, (fun x hx => by
        rcases List.mem_append.1 hx with g | g
        · exact HMv.out x g
        · simp only [List.mem_singleton] at g; subst g; exact ⟨v0, v1_⟩), by rw [List.length_append]; simp only [List.length_cons, List.length_nil]; omega, HX.out, ⟨q1, q2⟩, HSM5.out.off6 HNm.out _ _ _ _ _ _, HU5.out.set6 hp⟩⟩
    case measure => simp [intOf]; omega

set_option maxRecDepth 100000 in
theorem sumSplits_lifted (os : Os) (started : os.Started) (H : Type) (enc : TypeId × Value → H) :
    ReturnsInHanded {} Try.checked os 7 .any (Rows.sumSplitsSpec.pre6 enc Try.prog Try.f7 Rows.sumSplitsRow.domain false) (Rows.sumSplitsSpec.post enc Try.prog Try.f7 false true false false) := by
  refine returnsInHanded_of_change_sized (C := Try.checked) sumSplits_own started (by kernel_rfl) Try.func7
    (ChangeSpec.witness6 (enc := enc) (C := Try.checked) false ⟨#[], #[.slice none 0 0, .int .i64 0, .int .i64 0, .int .i64 0], []⟩ 8 (by kernel_rfl) (by kernel_rfl) (by kernel_rfl) (by kernel_rfl)) ?_
  intro W base args ds gs before hval0 hW hcnd hsz0 _
  have hval : ∀ (j : Nat) t v, Try.f7.params[j]? = some t → args[j]? = some v → Value.okWide Try.prog W .any base t v := hval0
  have hW' := hW
  obtain ⟨p, q, hA0, hV, rfl, hfz, hnd⟩ := hW'
  have hA : DataW.TrodAll enc Try.prog W 0 (fun _ => true) true Try.f7.params.toList args.toList ds p := hA0
  rw [Try.params7] at hA hval
  obtain ⟨v0, vs0, d0, ds0, p0, q0, hargs, rfl, rfl, h0, r0⟩ := trodAll_cons hA
  obtain ⟨v1, vs1, d1, ds1, p1, q1, rfl, rfl, rfl, h1, r1⟩ := trodAll_cons r0
  obtain ⟨v2, vs2, d2, ds2, p2, q2, rfl, rfl, rfl, h2, r2⟩ := trodAll_cons r1
  obtain ⟨v3, vs3, d3, ds3, p3, q3, rfl, rfl, rfl, h3, r3⟩ := trodAll_cons r2
  obtain ⟨rfl, rfl, rfl⟩ := trodAll_nil r3
  obtain rfl : args = #[v0, v1, v2, v3] := by cases args; simp_all
  obtain ⟨rfl, rfl⟩ := trodVars_none hV
  have hlt := fun x hx => hW.lt x hx
  have k0 := h0
  obtain ⟨n0, m0, A0, L0, rfl, hk0, hS0, hI0⟩ := open_items2 (hval 0 41 v0 rfl rfl) h0
  have k1 := h1
  obtain ⟨a1, rfl, rfl, rfl, w1⟩ := open_int Try.underlying2 (hval 1 2 v1 rfl rfl) h1
  have k2 := h2
  obtain ⟨a2, rfl, rfl, rfl, w2⟩ := open_int Try.underlying2 (hval 2 2 v2 rfl rfl) h2
  have k3 := h3
  obtain ⟨a3, rfl, rfl, rfl, w3⟩ := open_int Try.underlying2 (hval 3 2 v3 rfl rfl) h3
  refine (sumSplits_walk n0 m0 A0 L0 hk0 hI0 a1 w1 a2 w2 a3 w3 W hS0).mono fun e W' ⟨he, hg⟩ => ?_
  subst he
  exact ⟨_, rfl, post_of_same (pv := []) hW (fun _ _ _ => (trodAll_cons_mk (shut_bool Try.underlying4 _) trodAll_mk0)) (fun sp hsp => (trodAll_cons_mk (stay (by kernel_rfl) (of_decide_eq_true (by kernel_rfl)) k0 hg hlt (fun x hx => by first | (simp at hx; done) | simp [hx]) hsp) (trodAll_cons_mk (stay (by kernel_rfl) (of_decide_eq_true (by kernel_rfl)) k1 hg hlt (fun x hx => by first | (simp at hx; done) | simp [hx]) hsp) (trodAll_cons_mk (stay (by kernel_rfl) (of_decide_eq_true (by kernel_rfl)) k2 hg hlt (fun x hx => by first | (simp at hx; done) | simp [hx]) hsp) (trodAll_cons_mk (stay (by kernel_rfl) (of_decide_eq_true (by kernel_rfl)) k3 hg hlt (fun x hx => by first | (simp at hx; done) | simp [hx]) hsp) trodAll_mk0))))) (fun _ _ => rfl) rfl
    (hg.grown.frame _) hg.grown.2.1 (ok_one (by kernel_rfl) rfl (okWide_bool_mk Try.underlying4 _))⟩

theorem sumSplits_over : Rows.sumSplitsRow.holds Try.pinned (OpenSpec.ofChange Rows.sumSplitsSpec) :=
  OpenClaim.holds_of_wide 7 Try.f7 rfl rfl rfl rfl rfl rfl rfl ⟨rfl, rfl, rfl, rfl, rfl⟩ rfl rfl rfl rfl rfl (by kernel_rfl) Try.func7 (by kernel_rfl)
    (of_decide_eq_true (by kernel_rfl)) (by unfold Func.isWrapper; first | (rw [if_pos (by decide +kernel)]; kernel_rfl) | (rw [if_neg (by decide +kernel)]; exact ⟨rfl, rfl⟩))
    (fun os started H enc _ => sumSplits_lifted os started H enc)

theorem sumSplits_holds : Rows.SumSplitsSaid :=
  sumSplits_over
#print axioms sumSplits_holds
end Go.Proofs.Ytfdjhahnggdklaa
