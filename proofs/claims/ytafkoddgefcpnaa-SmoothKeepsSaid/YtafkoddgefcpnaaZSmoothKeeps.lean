/- Proved: for every list of raw items and any numbers the law SmoothKeeps returns true: the smooth histogram of any items is valid after each step. Conditions: none. -/
import Derived.Test.YtafkoddgefcpnaaRows
import Derived.Test.YtafkoddgefcpnaaZKPlayq303
namespace Go.Proofs.Ytafkoddgefcpnaa
open Go.ChangeShapes Go.WideShapes Go.ChangeAt Go.RowKit Go.Joins
set_option linter.unusedVariables false

theorem smoothKeeps_own : ownKnob Try.prog.godebug = none := by kernel_rfl

set_option maxHeartbeats 16000000 in
set_option maxRecDepth 100000 in
theorem smoothKeeps_walk (n k : Nat) (A : Option Addr) (L : List It) (hk : n ≤ k) (hI : InI L) (a1 : Int) (_ : (Lit.int .i64 a1).wf = true) (a2 : Int) (_ : (Lit.int .i64 a2).wf = true) (a3 : Int) (_ : (Lit.int .i64 a3).wf = true) (a4 : Int) (_ : (Lit.int .i64 a4).wf = true) (w : World) (hS : Sl w A n L) :
    Calls Try.prog 9 #[.slice A n k, .int .i64 a1, .int .i64 a2, .int .i64 a3, .int .i64 a4] w fun e w' => e = .returned (.bool true) ∧ Up w w' := by
  have KA := Lib.hid awake13_up
  have HS := Lib.hid hS
  have KW := Lib.hid (window_any a2 a3 a4)
  have KI4 := Lib.hid (fun W => int_any a1 4 (by omega) (by omega) W)
  have r0 : 0 ≤ a1 % 4 := Int.emod_nonneg _ (by omega)
  have r1 : a1 % 4 < 4 := Int.emod_lt_of_pos _ (by omega)
  generalize a1 % 4 = rr at *
  obtain ⟨g, eg⟩ : ∃ y, 1 + rr = y := ⟨_, rfl⟩
  have hg : 1 ≤ g ∧ g ≤ 4 := by omega
  have g0_ := hg.1
  have g1_ := hg.2
  have K1 := Lib.hid (fun v q d (hm : mayC v q d 0 = true) W => new13_yes g v q d 0 (mayM_yes hg hm) W)
  clear hS hI
  go_enter Try.func9, Try.ntmps9
  go_upto_region 4 with (first
    | (go_at_call 31; (with_reducible refine (KW.out _).mono ?_); rintro e w0 ⟨v, q, d, rfl, hv, hq, hd, rfl⟩; have hmay : mayC v q d 0 = true := (mayC_ok (by omega) (by omega) hv.1 (by omega) hd.1 hd.2 hq.1 (by omega)))
    | (go_at_call 30; (with_reducible refine (KI4.out _).mono ?_); rintro e w0 ⟨rfl, rfl⟩)
    | (go_at_call 13; (with_reducible refine (K1.out v q d hmay _).mono ?_); rintro e w1 ⟨rfl, hu⟩; have HU1 := Lib.hid hu; clear hu))
  have K2 := Lib.hid (fun W (h : Sl W A n L) => items13_up n k A L v hv.1 hv.2 60 60 rfl (by omega) g hg W h)
  have hp : w.heap.size ≤ w1.heap.size := HU1.out.size
  obtain ⟨w2, hw2⟩ : ∃ y, y = w1.alloc (.cells #[.int .i64 g, .int .i64 v, .int .i64 q, .int .i64 d, .int .i64 0, .int .i64 0, .slice none 0 0] 26) := ⟨_, rfl⟩
  rw [← hw2]
  have HU2 : Hid (Up w w2) := Lib.hid (by rw [hw2]; exact HU1.out.alloc _ _)
  have HV2 : Hid (Vm w2 w1.heap.size g v q d 0 0 [] none 0) := Lib.hid (by rw [hw2]; exact Vm.new SG.none_ (Nat.le_refl _) (fun _ _ e => by cases e))
  clear hw2
  generalize w1.heap.size = p at *
  have hpl : p < w2.heap.size := HV2.out.lt
  have HM := Lib.hid hmay
  have hv1 := hv.1
  have hv2 := hv.2
  have hq1 := hq.1
  have hq2 := hq.2
  have hd1 := hd.1
  have hd2 := hd.2
  have HG := Lib.hid hg
  clear hv hq hd hg hmay KW K1 KI4 eg r0 r1
  go_wp2_with (go_at_call 32; (with_reducible refine (K2.out _ (HS.out.up HU2.out)).mono ?_); rintro e w3 ⟨Am, nm, km, M0, z, rfl, hnm, hT, hVm, hN, hO, hu⟩; have HT := Lib.hid hT; have HVm := Lib.hid hVm; have HSM := Lib.hid hO; have HLM := Lib.hid hO.1; have HNm := Lib.hid (hN.off hpl); have HU3 := Lib.hid (HU2.out.trans hu); have HV3 := Lib.hid (HV2.out.up hu); have hp3 : p < w3.heap.size := Nat.lt_of_lt_of_le hpl hu.size; clear hu hT hVm hN hO)
  have HBM : Hid (∀ b o, 0 < nm → Am = some ⟨b, o, none⟩ → b < w3.heap.size) := Lib.hid (fun b o h0 e => by
    obtain ⟨b2, o2, e2, h2⟩ := HSM.out.out h0
    rw [e] at e2
    injection e2 with e2
    injection e2 with e3 e4
    omega)
  have hz0 := HT.out.1
  have hz1 : z ≤ 51 * 60 := by have h1 := HT.out.2.1; have := HLM.out; omega
  have HR0 : Hid (RnN w w3 p g v q d Am nm M0 z 0) := Lib.hid ⟨0, [], [], none, 0, HV3.out, Sm.start HG.out HM.out, Nat.le_refl _, (fun h => (mdT_step HT.out (by rw [HLM.out]; exact h)).1), ⟨Int.le_refl _, hz0⟩, HSM.out, HU3.out⟩
  clear HV2 HV3 HSM HU3 HU2 K2 HS hpl
  go_loopw [43] (fun t wr => ∃ i : Nat, t = .int .i64 i ∧ i ≤ nm ∧ Hid (RnN w wr p g v q d Am nm M0 z i)) (fun t _ => nm - (intOf t).toNat)
  case atStart => exact ⟨0, rfl, Nat.zero_le _, HR0⟩
  case round =>
    obtain ⟨i, rfl, hin, HQ⟩ := hrel
    obtain ⟨now, X, M, A1, k1, hV, hHs, hMi, hnow, hnz, hSM, hUp⟩ := HQ.out
    have HU := Lib.hid hUp
    have HV := Lib.hid hV
    have HSM := Lib.hid hSM
    have n0 := hnz.1
    have n1 := hnz.2
    by_cases hlt : i < nm
    case neg =>
      clear HQ hV hHs hnow hnz hSM hUp HV HSM
      go_wp2_with (go_at_call 20; (with_reducible refine (KA.out _).mono ?_); rintro e w4 ⟨rfl, hu⟩; have HU4 := Lib.hid (HU.out.trans hu); clear hu)
      go_ret
      exact ⟨rfl, HU4.out⟩
    obtain ⟨b', o', rfl, d0, d1⟩ := hSM.at_ hlt
    have hml : i < M0.length := by rw [HLM.out]; exact hlt
    obtain ⟨q1, q2, q4⟩ := mdT_step HT.out hml
    have hn1 := hnow hlt
    have HVl := Lib.hid (HVm.out i hlt)
    have HX : Hid (i + 1 < nm → (M0.getD i (0, 0)).1 ≤ (M0.getD (i + 1) (0, 0)).1) := Lib.hid (fun h => q4 (by rw [HLM.out]; exact h))
    generalize (M0.getD i (0, 0)).1 = p0 at *
    generalize (M0.getD i (0, 0)).2 = p1 at *
    have KD := Lib.hid (fun W (hu : Up wr W) => advVM hHs hV.sl hV.cap hu hn1 (by omega : p0 ≤ 16777216))
    have HH1 := Lib.hid (hHs.adv hn1 (show p0 ≤ 16777216 by omega))
    generalize drM p0 v X = X1 at *
    have f2 : (i : Int) < nm := by omega
    have f3 : (0 : Int) ≤ i := by omega
    have hpr : p < wr.heap.size := hV.lt
    have x0 := hV.c0
    have x1 := hV.c1
    have x2 := hV.c2
    have x3 := hV.c3
    have x4 := hV.c4
    have x5 := hV.c5
    have x6 := hV.c6
    clear hUp hV hHs hSM HQ hn1 hnow q4 hml hnz
    go_wp2_with (go_at_call 24; (with_reducible refine (KD.out _ ((Up.refl _).alloc _ _)).mono ?_); rintro e w3 ⟨A2, k2, rfl, hk2, hnw, hS2, hu⟩; have hv := ((Up.refl wr).alloc #[.int .i64 p0, .int .i64 p1] 51).trans hu; have e0 := hv.keep _ _ _ x0; have e1 := hv.keep _ _ _ x1; have e2 := hv.keep _ _ _ x2; have e3 := hv.keep _ _ _ x3; have e4 := hv.keep _ _ _ x4; have e5 := hv.keep _ _ _ x5; have e6 := hv.keep _ _ _ x6; have y0 := hu.keep wr.heap.size 0 (.int .i64 p0) (by simp [go_sem]); have y1 := hu.keep wr.heap.size 1 (.int .i64 p1) (by simp [go_sem]); have HU3 := Lib.hid (HU.out.trans hv); have HV3 := Lib.hid hv; have HA2 := Lib.hid (hnw.off (p := p) (by simp; omega)); have HS2 := Lib.hid hS2; have hs3 : wr.heap.size < w3.heap.size := World.block_lt_of_cell? _ _ y0; have z0 := HU3.out.ownGe (g := p) hp 0; have z1 := HU3.out.ownGe (g := p) hp 1; have z2 := HU3.out.ownGe (g := p) hp 2; have z3 := HU3.out.ownGe (g := p) hp 3; have z4 := HU3.out.ownGe (g := p) hp 4; have z5 := HU3.out.ownGe (g := p) hp 5; have z6 := HU3.out.ownGe (g := p) hp 6; clear hu hv hS2 hnw x0 x1 x2 x3 x4 x5 x6)
    obtain ⟨w4, hw4⟩ : ∃ y, y = ((((((w3.setCell ⟨p, 0, none⟩ (.int .i64 g)).setCell ⟨p, 1, none⟩ (.int .i64 v)).setCell ⟨p, 2, none⟩ (.int .i64 q)).setCell ⟨p, 3, none⟩ (.int .i64 d)).setCell ⟨p, 4, none⟩ (.int .i64 p0)).setCell ⟨p, 5, none⟩ (.int .i64 M.length)).setCell ⟨p, 6, none⟩ (.slice A2 X1.length k2) := ⟨_, rfl⟩
    rw [← hw4]
    have HU4 : Hid (Up w w4) := Lib.hid (by rw [hw4]; exact HU3.out.set7 hp)
    have HV4 : Hid (Vm w4 p g v q d p0 M.length X1 A2 k2) := Lib.hid (by rw [hw4]; exact Vm.put e0 e1 e2 e3 e4 e5 e6 HS2.out HA2.out hk2)
    have y1' : w4.cell? ⟨wr.heap.size, 1, none⟩ = some (.int .i64 p1) := by rw [hw4]; exact far7 y1 (by omega)
    have HSM4 : Hid (Sl w4 (some ⟨b', o', none⟩) nm M0) := Lib.hid (by rw [hw4]; exact (HSM.out.up HV3.out).off7 HNm.out _ _ _ _ _ _ _)
    clear hw4 e0 e1 e2 e3 e4 e5 e6 z0 z1 z2 z3 z4 z5 z6 y0 y1 HS2 HV3 HV HSM HA2 HU3
    have c0_ := HV4.out.c0
    have c1_ := HV4.out.c1
    have c2_ := HV4.out.c2
    have c3_ := HV4.out.c3
    have c4_ := HV4.out.c4
    have c5_ := HV4.out.c5
    have c6_ := HV4.out.c6
    have hq4 : wr.heap.size < w4.heap.size := World.block_lt_of_cell? _ _ y1'
    have hp4 : p < w4.heap.size := HV4.out.lt
    have hl1 := HH1.out.len
    have hl2 := HH1.out.2.1
    have KV1 := Lib.hid (fun W (hu : Up w4 W) => validate13_up g v q d p0 M.length X1.length k2 A2 X1 (by omega) W (HV4.out.sl.up hu))
    have KV2 := Lib.hid (fun W (hu : Up w4 W) => rvalidate13_up g v q d p0 M.length X1.length k2 A2 X1 (by omega) W (HV4.out.sl.up hu))
    rw [stME_yes HH1.out.st] at KV1 KV2
    clear hl1 hl2
    cases hfull : fuM d M.length X1
    case true =>
      have KD2 := Lib.hid (fun W (hu : Up w4 W) => addVM_full HH1.out HV4.out.sl HV4.out.cap hu HVl.out hfull)
      clear hfull
      go_upto_region 14 with (first
        | (go_at_call 22; (with_reducible refine (KV1.out _ (Up.refl _)).mono ?_); rintro e w5 ⟨rfl, hu⟩; have HC5 := Lib.hid hu; have s0 := hu.keep _ _ _ c0_; have s1 := hu.keep _ _ _ c1_; have s2 := hu.keep _ _ _ c2_; have s3 := hu.keep _ _ _ c3_; have s4 := hu.keep _ _ _ c4_; have s5 := hu.keep _ _ _ c5_; have s6 := hu.keep _ _ _ c6_; have ya := hu.keep _ _ _ y1'; have hq5 : wr.heap.size < w5.heap.size := World.block_lt_of_cell? _ _ ya; have hp5 : p < w5.heap.size := World.block_lt_of_cell? _ _ s0; clear c0_ c1_ c2_ c3_ c4_ c5_ c6_ y1'; clear hu)
        | (go_at_call 23; (with_reducible refine (KV2.out _ HC5.out).mono ?_); rintro e w6 ⟨rfl, hu⟩; have HC6 := Lib.hid (HC5.out.trans hu); have r0 := hu.keep _ _ _ s0; have r1 := hu.keep _ _ _ s1; have r2 := hu.keep _ _ _ s2; have r3 := hu.keep _ _ _ s3; have r4 := hu.keep _ _ _ s4; have r5 := hu.keep _ _ _ s5; have r6 := hu.keep _ _ _ s6; have yb := hu.keep _ _ _ ya; have hq6 : wr.heap.size < w6.heap.size := World.block_lt_of_cell? _ _ yb; have hp6 : p < w6.heap.size := World.block_lt_of_cell? _ _ r0; clear s0 s1 s2 s3 s4 s5 s6 ya; clear hu)
        | (go_at_call 26; (with_reducible refine (KD2.out _ HC6.out).mono ?_); rintro e w7 ⟨rfl, hu⟩; have HC7 := Lib.hid (HC6.out.trans hu); have m0 := hu.keep _ _ _ r0; have m1 := hu.keep _ _ _ r1; have m2 := hu.keep _ _ _ r2; have m3 := hu.keep _ _ _ r3; have m4 := hu.keep _ _ _ r4; have m5 := hu.keep _ _ _ r5; have m6 := hu.keep _ _ _ r6; have hp7 : p < w7.heap.size := World.block_lt_of_cell? _ _ m0; clear hu r0 r1 r2 r3 r4 r5 r6 yb))
      go_upto_region 15 with fail
      go_wp2_with (first
        | (go_at_call 22; (with_reducible refine (KV1.out _ (HC7.out.alloc _ _)).mono ?_); rintro e w8 ⟨rfl, hu⟩; have hv := ((Up.refl w7).alloc #[.int .i64 0, .int .i64 0, .int .i64 0, .int .i64 0, .int .i64 0, .int .i64 0, .slice none 0 0] 26).trans hu; have HC8 := Lib.hid (HC7.out.trans hv); have o0_ := hv.keep _ _ _ m0; have o1_ := hv.keep _ _ _ m1; have o2_ := hv.keep _ _ _ m2; have o3_ := hv.keep _ _ _ m3; have o4_ := hv.keep _ _ _ m4; have o5_ := hv.keep _ _ _ m5; have o6_ := hv.keep _ _ _ m6; have hp8 : p < w8.heap.size := World.block_lt_of_cell? _ _ o0_; clear hu hv m0 m1 m2 m3 m4 m5 m6)
        | (go_at_call 23; (with_reducible refine (KV2.out _ HC8.out).mono ?_); rintro e w9 ⟨rfl, hu⟩; have HC9 := Lib.hid (HC8.out.trans hu); clear hu))
      go_roundw
      case rel => exact ⟨i + 1, by go_num, by omega, Lib.hid ⟨p0, X1, M, A2, k2, HV4.out.up HC9.out, HH1.out, by omega, HX.out, ⟨q1, q2⟩, HSM4.out.up HC9.out, HU4.out.trans HC9.out⟩⟩
      case measure => simp [intOf]; omega
    case false =>
      have KD2 := Lib.hid (fun W (hu : Up w4 W) => addVM HH1.out HV4.out.sl HV4.out.cap hu HVl.out hfull)
      have HH2 := Lib.hid (HH1.out.add HVl.out hfull (by omega))
      generalize adM g q M.length p0 p1 X1 = X2 at *
      clear hfull
      go_upto_region 14 with (first
        | (go_at_call 22; (with_reducible refine (KV1.out _ (Up.refl _)).mono ?_); rintro e w5 ⟨rfl, hu⟩; have HC5 := Lib.hid hu; have s0 := hu.keep _ _ _ c0_; have s1 := hu.keep _ _ _ c1_; have s2 := hu.keep _ _ _ c2_; have s3 := hu.keep _ _ _ c3_; have s4 := hu.keep _ _ _ c4_; have s5 := hu.keep _ _ _ c5_; have s6 := hu.keep _ _ _ c6_; have ya := hu.keep _ _ _ y1'; have hq5 : wr.heap.size < w5.heap.size := World.block_lt_of_cell? _ _ ya; have hp5 : p < w5.heap.size := World.block_lt_of_cell? _ _ s0; clear c0_ c1_ c2_ c3_ c4_ c5_ c6_ y1'; clear hu)
        | (go_at_call 23; (with_reducible refine (KV2.out _ HC5.out).mono ?_); rintro e w6 ⟨rfl, hu⟩; have HC6 := Lib.hid (HC5.out.trans hu); have r0 := hu.keep _ _ _ s0; have r1 := hu.keep _ _ _ s1; have r2 := hu.keep _ _ _ s2; have r3 := hu.keep _ _ _ s3; have r4 := hu.keep _ _ _ s4; have r5 := hu.keep _ _ _ s5; have r6 := hu.keep _ _ _ s6; have yb := hu.keep _ _ _ ya; have hq6 : wr.heap.size < w6.heap.size := World.block_lt_of_cell? _ _ yb; have hp6 : p < w6.heap.size := World.block_lt_of_cell? _ _ r0; clear s0 s1 s2 s3 s4 s5 s6 ya; clear hu)
        | (go_at_call 26; (with_reducible refine (KD2.out _ HC6.out).mono ?_); rintro e w7 ⟨A5, k5_, rfl, hk5, hnw5, hS5, hu⟩; have HS5 := Lib.hid hS5; have HA5 := Lib.hid (hnw5.off (p := p) hp6); have HC7 := Lib.hid (HC6.out.trans hu); have m0 := hu.keep _ _ _ r0; have m1 := hu.keep _ _ _ r1; have m2 := hu.keep _ _ _ r2; have m3 := hu.keep _ _ _ r3; have m4 := hu.keep _ _ _ r4; have m5 := hu.keep _ _ _ r5; have m6 := hu.keep _ _ _ r6; have hp7 : p < w7.heap.size := World.block_lt_of_cell? _ _ m0; clear hu hS5 hnw5 r0 r1 r2 r3 r4 r5 r6 yb))
      obtain ⟨w8, hw8⟩ : ∃ y, y = w7.alloc (.cells #[.int .i64 g, .int .i64 v, .int .i64 q, .int .i64 d, .int .i64 p0, .int .i64 ((M.length : Int) + 1), .slice A5 X2.length k5_] 26) := ⟨_, rfl⟩
      rw [← hw8]
      have hv8 : Up w7 w8 := by rw [hw8]; exact (Up.refl _).alloc _ _
      obtain ⟨b0, b1, b2, b3, b4, b5, b6⟩ : w8.cell? ⟨w7.heap.size, 0, none⟩ = some (.int .i64 g) ∧ w8.cell? ⟨w7.heap.size, 1, none⟩ = some (.int .i64 v) ∧ w8.cell? ⟨w7.heap.size, 2, none⟩ = some (.int .i64 q) ∧ w8.cell? ⟨w7.heap.size, 3, none⟩ = some (.int .i64 d) ∧ w8.cell? ⟨w7.heap.size, 4, none⟩ = some (.int .i64 p0) ∧ w8.cell? ⟨w7.heap.size, 5, none⟩ = some (.int .i64 ((M.length : Int) + 1)) ∧ w8.cell? ⟨w7.heap.size, 6, none⟩ = some (.slice A5 X2.length k5_) := by rw [hw8]; simp [go_sem]
      have hs8 : w7.heap.size < w8.heap.size := World.block_lt_of_cell? _ _ b0
      have HC8 := Lib.hid (HC7.out.trans hv8)
      have HS8 := Lib.hid (HS5.out.up hv8)
      have t0 := hv8.keep _ _ _ m0
      have t1 := hv8.keep _ _ _ m1
      have t2 := hv8.keep _ _ _ m2
      have t3 := hv8.keep _ _ _ m3
      have t4 := hv8.keep _ _ _ m4
      have t5 := hv8.keep _ _ _ m5
      have t6 := hv8.keep _ _ _ m6
      have fz0 := (HU4.out.trans HC8.out).ownGe (g := p) hp 0
      have fz1 := (HU4.out.trans HC8.out).ownGe (g := p) hp 1
      have fz2 := (HU4.out.trans HC8.out).ownGe (g := p) hp 2
      have fz3 := (HU4.out.trans HC8.out).ownGe (g := p) hp 3
      have fz4 := (HU4.out.trans HC8.out).ownGe (g := p) hp 4
      have fz5 := (HU4.out.trans HC8.out).ownGe (g := p) hp 5
      have fz6 := (HU4.out.trans HC8.out).ownGe (g := p) hp 6
      clear hw8 hv8 m0 m1 m2 m3 m4 m5 m6
      go_upto_region 15 with fail
      obtain ⟨w9, hw9⟩ : ∃ y, y = ((((((w8.setCell ⟨p, 0, none⟩ (.int .i64 g)).setCell ⟨p, 1, none⟩ (.int .i64 v)).setCell ⟨p, 2, none⟩ (.int .i64 q)).setCell ⟨p, 3, none⟩ (.int .i64 d)).setCell ⟨p, 4, none⟩ (.int .i64 p0)).setCell ⟨p, 5, none⟩ (.int .i64 ((M.length : Int) + 1))).setCell ⟨p, 6, none⟩ (.slice A5 X2.length k5_) := ⟨_, rfl⟩
      rw [← hw9]
      have hlen : ((M ++ [(p0, p1)]).length : Int) = (M.length : Int) + 1 := by rw [List.length_append]; rfl
      have HV9 : Hid (Vm w9 p g v q d p0 (M ++ [(p0, p1)]).length X2 A5 k5_) := Lib.hid (by
        rw [hw9, hlen]
        exact Vm.put t0 t1 t2 t3 t4 t5 t6 HS8.out HA5.out hk5)
      have HM9 : Hid (Sl w9 (some ⟨b', o', none⟩) nm M0) := Lib.hid (by rw [hw9]; exact (HSM4.out.up HC8.out).off7 HNm.out _ _ _ _ _ _ _)
      have HU9 : Hid (Up w w9) := Lib.hid (by rw [hw9]; exact (HU4.out.trans HC8.out).set7 hp)
      have hl1 := HH2.out.len
      have hl2 := HH2.out.2.1
      have KV3 := Lib.hid (fun W (hu : Up w9 W) => validate13_up g v q d p0 (M ++ [(p0, p1)]).length X2.length k5_ A5 X2 (by omega) W (HV9.out.sl.up hu))
      have KV4 := Lib.hid (fun W (hu : Up w9 W) => rvalidate13_up g v q d p0 (M ++ [(p0, p1)]).length X2.length k5_ A5 X2 (by omega) W (HV9.out.sl.up hu))
      rw [stME_yes HH2.out.st] at KV3 KV4
      have HL9 := Lib.hid hlen
      rw [hlen] at KV3 KV4
      clear hw9 t0 t1 t2 t3 t4 t5 t6 fz0 fz1 fz2 fz3 fz4 fz5 fz6 b0 b1 b2 b3 b4 b5 b6 hl1 hl2 hlen
      have c0 := HV9.out.c0
      have c1 := HV9.out.c1
      have c2 := HV9.out.c2
      have c3 := HV9.out.c3
      have c4 := HV9.out.c4
      have c5 := HV9.out.c5
      have c6 := HV9.out.c6
      have hp9 : p < w9.heap.size := HV9.out.lt
      rw [HL9.out] at c5
      go_wp2_with (first
        | (go_at_call 22; (with_reducible refine (KV3.out _ (Up.refl _)).mono ?_); rintro e w10 ⟨rfl, hu⟩; have HC10 := Lib.hid hu; have o0_ := hu.keep _ _ _ c0; have o1_ := hu.keep _ _ _ c1; have o2_ := hu.keep _ _ _ c2; have o3_ := hu.keep _ _ _ c3; have o4_ := hu.keep _ _ _ c4; have o5_ := hu.keep _ _ _ c5; have o6_ := hu.keep _ _ _ c6; have hp10 : p < w10.heap.size := World.block_lt_of_cell? _ _ o0_; clear hu c0 c1 c2 c3 c4 c5 c6)
        | (go_at_call 23; (with_reducible refine (KV4.out _ HC10.out).mono ?_); rintro e w11 ⟨rfl, hu⟩; have HC11 := Lib.hid (HC10.out.trans hu); clear hu))
      go_roundw
      case rel => exact ⟨i + 1, by go_num, by omega, Lib.hid ⟨p0, X2, M ++ [(p0, p1)], A5, k5_, HV9.out.up HC11.out, HH2.out, by rw [List.length_append]; simp only [List.length_cons, List.length_nil]; omega, HX.out, ⟨q1, q2⟩, HM9.out.up HC11.out, HU9.out.trans HC11.out⟩⟩
      case measure => simp [intOf]; omega

set_option maxRecDepth 100000 in
theorem smoothKeeps_lifted (os : Os) (started : os.Started) (H : Type) (enc : TypeId × Value → H) :
    ReturnsInHanded {} Try.checked os 9 .any (Rows.smoothKeepsSpec.pre6 enc Try.prog Try.f9 Rows.smoothKeepsRow.domain false) (Rows.smoothKeepsSpec.post enc Try.prog Try.f9 false true false false) := by
  refine returnsInHanded_of_change_sized (C := Try.checked) smoothKeeps_own started (by kernel_rfl) Try.func9
    (ChangeSpec.witness6 (enc := enc) (C := Try.checked) false ⟨#[], #[.slice none 0 0, .int .i64 0, .int .i64 0, .int .i64 0, .int .i64 0], []⟩ 8 (by kernel_rfl) (by kernel_rfl) (by kernel_rfl) (by kernel_rfl)) ?_
  intro W base args ds gs before hval0 hW hcnd hsz0 _
  have hval : ∀ (j : Nat) t v, Try.f9.params[j]? = some t → args[j]? = some v → Value.okWide Try.prog W .any base t v := hval0
  have hW' := hW
  obtain ⟨p, q, hA0, hV, rfl, hfz, hnd⟩ := hW'
  have hA : DataW.TrodAll enc Try.prog W 0 (fun _ => true) true Try.f9.params.toList args.toList ds p := hA0
  rw [Try.params9] at hA hval
  obtain ⟨v0, vs0, d0, ds0, p0, q0, hargs, rfl, rfl, h0, r0⟩ := trodAll_cons hA
  obtain ⟨v1, vs1, d1, ds1, p1, q1, rfl, rfl, rfl, h1, r1⟩ := trodAll_cons r0
  obtain ⟨v2, vs2, d2, ds2, p2, q2, rfl, rfl, rfl, h2, r2⟩ := trodAll_cons r1
  obtain ⟨v3, vs3, d3, ds3, p3, q3, rfl, rfl, rfl, h3, r3⟩ := trodAll_cons r2
  obtain ⟨v4, vs4, d4, ds4, p4, q4, rfl, rfl, rfl, h4, r4⟩ := trodAll_cons r3
  obtain ⟨rfl, rfl, rfl⟩ := trodAll_nil r4
  obtain rfl : args = #[v0, v1, v2, v3, v4] := by cases args; simp_all
  obtain ⟨rfl, rfl⟩ := trodVars_none hV
  have hlt := fun x hx => hW.lt x hx
  have k0 := h0
  obtain ⟨n0, m0, A0, L0, rfl, hk0, hS0, hI0⟩ := open_items2 (hval 0 45 v0 rfl rfl) h0
  have k1 := h1
  obtain ⟨a1, rfl, rfl, rfl, w1⟩ := open_int Try.underlying3 (hval 1 3 v1 rfl rfl) h1
  have k2 := h2
  obtain ⟨a2, rfl, rfl, rfl, w2⟩ := open_int Try.underlying2 (hval 2 2 v2 rfl rfl) h2
  have k3 := h3
  obtain ⟨a3, rfl, rfl, rfl, w3⟩ := open_int Try.underlying3 (hval 3 3 v3 rfl rfl) h3
  have k4 := h4
  obtain ⟨a4, rfl, rfl, rfl, w4⟩ := open_int Try.underlying3 (hval 4 3 v4 rfl rfl) h4
  refine (smoothKeeps_walk n0 m0 A0 L0 hk0 hI0 a1 w1 a2 w2 a3 w3 a4 w4 W hS0).mono fun e W' ⟨he, hg⟩ => ?_
  subst he
  exact ⟨_, rfl, post_of_same (pv := []) hW (fun _ _ _ => (trodAll_cons_mk (shut_bool Try.underlying4 _) trodAll_mk0)) (fun sp hsp => (trodAll_cons_mk (stay (by kernel_rfl) (of_decide_eq_true (by kernel_rfl)) k0 hg hlt (fun x hx => by first | (simp at hx; done) | simp [hx]) hsp) (trodAll_cons_mk (stay (by kernel_rfl) (of_decide_eq_true (by kernel_rfl)) k1 hg hlt (fun x hx => by first | (simp at hx; done) | simp [hx]) hsp) (trodAll_cons_mk (stay (by kernel_rfl) (of_decide_eq_true (by kernel_rfl)) k2 hg hlt (fun x hx => by first | (simp at hx; done) | simp [hx]) hsp) (trodAll_cons_mk (stay (by kernel_rfl) (of_decide_eq_true (by kernel_rfl)) k3 hg hlt (fun x hx => by first | (simp at hx; done) | simp [hx]) hsp) (trodAll_cons_mk (stay (by kernel_rfl) (of_decide_eq_true (by kernel_rfl)) k4 hg hlt (fun x hx => by first | (simp at hx; done) | simp [hx]) hsp) trodAll_mk0)))))) (fun _ _ => rfl) rfl
    (hg.grown.frame _) hg.grown.2.1 (ok_one (by kernel_rfl) rfl (okWide_bool_mk Try.underlying4 _))⟩

theorem smoothKeeps_over : Rows.smoothKeepsRow.holds Try.pinned (OpenSpec.ofChange Rows.smoothKeepsSpec) :=
  OpenClaim.holds_of_wide 9 Try.f9 rfl rfl rfl rfl rfl rfl rfl ⟨rfl, rfl, rfl, rfl, rfl⟩ rfl rfl rfl rfl rfl (by kernel_rfl) Try.func9 (by kernel_rfl)
    (of_decide_eq_true (by kernel_rfl)) (by unfold Func.isWrapper; first | (rw [if_pos (by decide +kernel)]; kernel_rfl) | (rw [if_neg (by decide +kernel)]; exact ⟨rfl, rfl⟩))
    (fun os started H enc _ => smoothKeeps_lifted os started H enc)

theorem smoothKeeps_holds : Rows.SmoothKeepsSaid :=
  smoothKeeps_over
end Go.Proofs.Ytafkoddgefcpnaa
