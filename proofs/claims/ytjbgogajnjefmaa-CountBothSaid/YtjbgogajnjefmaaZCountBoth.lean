/- Proved: for every two lists of raw items and any numbers the law CountBoth returns true: the bounds of two merged histograms hold for the items of both, and are narrow. Conditions: none. -/
import Derived.Test.YtjbgogajnjefmaaRows
import Derived.Test.YtjbgogajnjefmaaZBAtMost
import Derived.Test.YtjbgogajnjefmaaZBProduct
import Derived.Test.YtjbgogajnjefmaaZBSmallm2
import Derived.Test.YtjbgogajnjefmaaZBValidm2
import Derived.Test.YtjbgogajnjefmaaZBWhole
import Derived.Test.YtjbgogajnjefmaaZBWithin
import Derived.Test.YtjbgogajnjefmaaZFMade
import Derived.Test.YtjbgogajnjefmaaZGBasem10
import Derived.Test.YtjbgogajnjefmaaZGLawm6
import Derived.Test.YtjbgogajnjefmaaZHOrdm3
import Derived.Test.YtjbgogajnjefmaaZHRVal
import Derived.Test.YtjbgogajnjefmaaZHRowm3
import Derived.Test.YtjbgogajnjefmaaZHSamem5
import Derived.Test.YtjbgogajnjefmaaZIAskm3
import Derived.Test.YtjbgogajnjefmaaZIBasem2
import Derived.Test.YtjbgogajnjefmaaZIMade
import Derived.Test.YtjbgogajnjefmaaZIMrgm2
import Derived.Test.YtjbgogajnjefmaaZIRun
import Derived.Test.YtjbgogajnjefmaaZRArithm2
import Derived.Test.YtjbgogajnjefmaaZREasym3
import Derived.Test.YtjbgogajnjefmaaZWGcd
import Derived.Test.YtjbgogajnjefmaaZWMathm11
import Derived.Test.YtjbgogajnjefmaaZWRDiv2
import Derived.Test.YtjbgogajnjefmaaZWShortm6
namespace Go.Proofs.Ytjbgogajnjefmaa
open Go.ChangeShapes Go.WideShapes Go.ChangeAt Go.RowKit Go.Joins
set_option linter.unusedVariables false

theorem countBoth_own : ownKnob Try.prog.godebug = none := by kernel_rfl

set_option maxHeartbeats 16000000 in
set_option maxRecDepth 100000 in
theorem countBoth_walk (n k : Nat) (A : Option Addr) (L : List It) (hk : n ≤ k) (hI : InI L) (n2 k2 : Nat) (A2 : Option Addr) (L2 : List It) (hk2 : n2 ≤ k2) (hI2 : InI L2) (a2 : Int) (_ : (Lit.int .i64 a2).wf = true) (a3 : Int) (_ : (Lit.int .i64 a3).wf = true) (a4 : Int) (_ : (Lit.int .i64 a4).wf = true) (w : World) (hS : Sl w A n L) (hS2 : Sl w A2 n2 L2) :
    Calls Try.prog 6 #[.slice A n k, .slice A2 n2 k2, .int .i64 a2, .int .i64 a3, .int .i64 a4] w fun e w' => e = .returned (.bool true) ∧ Up w w' := by
  have KA := Lib.hid awake11_up
  have HS := Lib.hid hS
  have HS2 := Lib.hid hS2
  have KM1 := Lib.hid (fun W => modm_any a2 20 (by omega) (by omega) W)
  have KM2 := Lib.hid (fun W => int_any a3 4 (by omega) (by omega) W)
  have KM3 := Lib.hid (fun W => int_any a4 4 (by omega) (by omega) W)
  have r0 : 0 ≤ a2 % 20 := Int.emod_nonneg _ (by omega)
  have r1 : a2 % 20 < 20 := Int.emod_lt_of_pos _ (by omega)
  have s0 : 0 ≤ a3 % 4 := Int.emod_nonneg _ (by omega)
  have s1 : a3 % 4 < 4 := Int.emod_lt_of_pos _ (by omega)
  have t0 : 0 ≤ a4 % 4 := Int.emod_nonneg _ (by omega)
  have t1 : a4 % 4 < 4 := Int.emod_lt_of_pos _ (by omega)
  generalize a2 % 20 = rr at *
  generalize a3 % 4 = ga at *
  generalize a4 % 4 = gb at *
  obtain ⟨v, ev⟩ : ∃ v, 1 + rr = v := ⟨_, rfl⟩
  obtain ⟨q, eq_⟩ : ∃ v, 1 + ga = v := ⟨_, rfl⟩
  obtain ⟨j, ej⟩ : ∃ v, 1 + gb = v := ⟨_, rfl⟩
  have v1 : 1 ≤ v := by omega
  have v25 : v ≤ 25 := by omega
  have q1 : 1 ≤ q := by omega
  have q4 : q ≤ 4 := by omega
  have j1 : 1 ≤ j := by omega
  have j4 : j ≤ 4 := by omega
  have hmq : mayC v q 1000 0 = true := mayC_ok (by omega) (by omega) v1 (by omega) (by omega) (by omega) (by omega) (by omega)
  have hmj : mayC v j 1000 0 = true := mayC_ok (by omega) (by omega) v1 (by omega) (by omega) (by omega) (by omega) (by omega)
  have K1 := Lib.hid (fun W => new11_yes v q 1000 0 hmq W)
  have K1b := Lib.hid (fun W => new11_yes v j 1000 0 hmj W)
  have K2 := Lib.hid (fun W (h : Sl W A n L) => itemsJ_up n k A L v v1 v25 80 80 rfl (by omega) W h)
  have K2b := Lib.hid (fun W (h : Sl W A2 n2 L2) => itemsJ_up n2 k2 A2 L2 v v1 v25 80 80 rfl (by omega) W h)
  have K3 := Lib.hid (fun z nm km Am M0 W (h1 : nm ≤ 80) (h2 : mdQ M0 z) (h3 : M0.length = nm) (h : Sl W Am nm M0) => run11_up v q 1000 z nm km Am M0 hmq v25 (by omega) (by have := h2.2.1; omega) h2 W h)
  have K3b := Lib.hid (fun z nm km Am M0 W (h1 : nm ≤ 80) (h2 : mdQ M0 z) (h3 : M0.length = nm) (h : Sl W Am nm M0) => run11_up v j 1000 z nm km Am M0 hmj v25 (by omega) (by have := h2.2.1; omega) h2 W h)
  clear hS hS2 hI hI2 hmq hmj
  go_enter Try.func6, Try.ntmps6
  go_upto_region 4 with (first
    | (go_at_call 24; (with_reducible refine (KM1.out _).mono ?_); rintro e w' ⟨rfl, rfl⟩)
    | (go_at_call 30; (with_reducible refine (KM2.out _).mono ?_); rintro e w' ⟨rfl, rfl⟩)
    | (go_at_call 30; (with_reducible refine (KM3.out _).mono ?_); rintro e w' ⟨rfl, rfl⟩)
    | (go_at_call 8; (with_reducible refine (K1.out _).mono ?_); rintro e w1 ⟨rfl, hu⟩; have HU1 := Lib.hid hu; clear hu)
    | (go_at_call 8; (with_reducible refine (K1b.out _).mono ?_); rintro e w3 ⟨rfl, hu⟩; have hv := ((Up.refl w1).alloc #[.int .i64 v, .int .i64 q, .int .i64 1000, .int .i64 0, .slice none 0 0] 24).trans hu; have HU3 := Lib.hid (HU1.out.trans hv); have x0 := hu.keep w1.heap.size 0 (.int .i64 v) (by simp [go_sem]); have x1 := hu.keep w1.heap.size 1 (.int .i64 q) (by simp [go_sem]); have x2 := hu.keep w1.heap.size 2 (.int .i64 1000) (by simp [go_sem]); have x3 := hu.keep w1.heap.size 3 (.int .i64 0) (by simp [go_sem]); have x4 := hu.keep w1.heap.size 4 (.slice none 0 0) (by simp [go_sem]); clear hu hv))
  have hp : w.heap.size ≤ w1.heap.size := HU1.out.size
  have hp2 : w.heap.size ≤ w3.heap.size := HU3.out.size
  have hpp : w1.heap.size < w3.heap.size := World.block_lt_of_cell? _ _ x0
  obtain ⟨w4, hw4⟩ : ∃ y, y = w3.alloc (.cells #[.int .i64 v, .int .i64 j, .int .i64 1000, .int .i64 0, .slice none 0 0] 24) := ⟨_, rfl⟩
  rw [← hw4]
  have HU4 : Hid (Up w w4) := Lib.hid (by rw [hw4]; exact HU3.out.alloc _ _)
  have hu4 : Up w3 w4 := by rw [hw4]; exact (Up.refl _).alloc _ _
  obtain ⟨e0, e1, e2, e3, e4⟩ : w4.cell? ⟨w3.heap.size, 0, none⟩ = some (.int .i64 v) ∧ w4.cell? ⟨w3.heap.size, 1, none⟩ = some (.int .i64 j) ∧ w4.cell? ⟨w3.heap.size, 2, none⟩ = some (.int .i64 1000) ∧ w4.cell? ⟨w3.heap.size, 3, none⟩ = some (.int .i64 0) ∧ w4.cell? ⟨w3.heap.size, 4, none⟩ = some (.slice none 0 0) := by rw [hw4]; simp [go_sem]
  have c0 := hu4.keep _ _ _ x0
  have c1_ := hu4.keep _ _ _ x1
  have c2 := hu4.keep _ _ _ x2
  have c3 := hu4.keep _ _ _ x3
  have c4 := hu4.keep _ _ _ x4
  clear hw4 hu4 x0 x1 x2 x3 x4
  generalize w1.heap.size = p at *
  generalize w3.heap.size = p2 at *
  have hpl : p2 < w4.heap.size := World.block_lt_of_cell? _ _ e0
  go_cut [15, 16] (fun s t wx => ∃ (now : Int) (X M : List It) (A1 B : Option Addr) (k1 kb : Nat), s = .slice B M.length kb ∧ t = .bool true ∧ Hid (Vc wx p v q 1000 now X M A1 k1 ∧ (∀ b o, A1 = some ⟨b, o, none⟩ → b ≠ p2) ∧ (0 ≤ now ∧ now ≤ 10200) ∧ Up w wx ∧ Sl wx B M.length M ∧ (∀ b o, B = some ⟨b, o, none⟩ → b ≠ p) ∧ (∀ b o, B = some ⟨b, o, none⟩ → b ≠ p2) ∧ M.length ≤ 80 ∧ wx.cell? ⟨p2, 0, none⟩ = some (.int .i64 v) ∧ wx.cell? ⟨p2, 1, none⟩ = some (.int .i64 j) ∧ wx.cell? ⟨p2, 2, none⟩ = some (.int .i64 1000) ∧ wx.cell? ⟨p2, 3, none⟩ = some (.int .i64 0) ∧ wx.cell? ⟨p2, 4, none⟩ = some (.slice none 0 0)))
  case first =>
    go_region_with (first
      | (go_at_call 23; (with_reducible refine (K2.out _ (HS.out.up HU4.out.drew)).mono ?_); rintro e w5 ⟨Am, nm, km, M0, z, rfl, hnm, hP, hO, hu⟩; obtain ⟨A9, k9, e9, _, h9⟩ := hO.sl; cases e9; have HP := Lib.hid hP; have HSM := Lib.hid h9; have HLM := Lib.hid h9.1; clear h9; have HU5 := Lib.hid (HU4.out.drew.trans hu); have d0 := hu.keep _ _ _ c0; have d1 := hu.keep _ _ _ c1_; have d2 := hu.keep _ _ _ c2; have d3 := hu.keep _ _ _ c3; have d4 := hu.keep _ _ _ c4; have f0 := hu.keep _ _ _ e0; have f1 := hu.keep _ _ _ e1; have f2 := hu.keep _ _ _ e2; have f3 := hu.keep _ _ _ e3; have f4 := hu.keep _ _ _ e4; clear hu hP hO)
      | (go_at_call 22; (with_reducible refine (K3.out z nm km Am M0 _ hnm HP.out HLM.out HSM.out).mono ?_); rintro e w6 ⟨now, X, M, A1, B1, k1, kb, rfl, hH, hnz, hml, hk1, hA, hB, hSX, hSM, hu⟩; have HU6 := Lib.hid (HU5.out.trans hu); have HH := Lib.hid hH; have HA := Lib.hid hA; have HB := Lib.hid hB; have HSX := Lib.hid hSX; have HSB := Lib.hid hSM; have g0 := hu.keep _ _ _ d0; have g1 := hu.keep _ _ _ d1; have g2 := hu.keep _ _ _ d2; have g3 := hu.keep _ _ _ d3; have g4 := hu.keep _ _ _ d4; have h0 := hu.keep _ _ _ f0; have h1 := hu.keep _ _ _ f1; have h2 := hu.keep _ _ _ f2; have h3 := hu.keep _ _ _ f3; have h4 := hu.keep _ _ _ f4; have hpl3 : p2 < w5.heap.size := World.block_lt_of_cell? _ _ f0; have z0 := HU6.out.ownGe (g := p) hp 0; have z1 := HU6.out.ownGe (g := p) hp 1; have z2 := HU6.out.ownGe (g := p) hp 2; have z3 := HU6.out.ownGe (g := p) hp 3; have z4 := HU6.out.ownGe (g := p) hp 4; clear hu hA hB hSX hSM))
    all_goals
      go_wp2_with fail
      go_meet
      refine ⟨now, X, M, A1, B1, k1, kb, rfl, rfl, Lib.hid ⟨Vc.put g0 g1 g2 g3 g4 HH.out HSX.out (HA.out.off (by omega)) hk1, HA.out.off (by omega), ⟨?_, ?_⟩, HU6.out.set5 hp, HSB.out.off5 (HB.out.off (by omega)) _ _ _ _ _, HB.out.off (by omega), HB.out.off (by omega), by omega, far5 h0 (by omega), far5 h1 (by omega), far5 h2 (by omega), far5 h3 (by omega), far5 h4 (by omega)⟩⟩
      · have := (mayC_facts (stC_true HH.out.st).1).1.1; exact this
      · have h1 := HP.out.2.1
        have := HLM.out
        omega
  case rest =>
  obtain ⟨now, X, M, A1, B1, k1, kb, rfl, rfl, HX⟩ := hcut
  have HV := Lib.hid HX.out.1
  have HUc := Lib.hid HX.out.2.2.2.1
  obtain ⟨c0, c1_, c2, c3, c4⟩ := HX.out.2.2.2.2.2.2.2.2
  have hpl : p2 < wc.heap.size := World.block_lt_of_cell? _ _ c0
  clear e0 e1 e2 e3 e4
  go_upto_region 5 with fail
  go_cut [17, 18] (fun s t wx => ∃ (now2 : Int) (Y M2 : List It) (A5 B2 : Option Addr) (k5 kb2 : Nat), s = .slice B2 M2.length kb2 ∧ t = .bool true ∧ Hid (Vc wx p v q 1000 now X M A1 k1 ∧ Vc wx p2 v j 1000 now2 Y M2 A5 k5 ∧ (∀ b o, A1 = some ⟨b, o, none⟩ → b ≠ p2) ∧ (∀ b o, A5 = some ⟨b, o, none⟩ → b ≠ p) ∧ (0 ≤ now ∧ now ≤ 10200) ∧ (0 ≤ now2 ∧ now2 ≤ 10200) ∧ Up w wx ∧ Sl wx B1 M.length M ∧ Sl wx B2 M2.length M2 ∧ ((∀ b o, B1 = some ⟨b, o, none⟩ → b ≠ p) ∧ (∀ b o, B1 = some ⟨b, o, none⟩ → b ≠ p2)) ∧ ((∀ b o, B2 = some ⟨b, o, none⟩ → b ≠ p) ∧ (∀ b o, B2 = some ⟨b, o, none⟩ → b ≠ p2)) ∧ M.length ≤ 80 ∧ M2.length ≤ 80))
  case first =>
    go_region_with (first
      | (go_at_call 23; (with_reducible refine (K2b.out _ (HS2.out.up HUc.out.drew)).mono ?_); rintro e w5 ⟨Am, nm, km, M0, z, rfl, hnm, hP, hO, hu⟩; obtain ⟨A9, k9, e9, _, h9⟩ := hO.sl; cases e9; have HP := Lib.hid hP; have HSM := Lib.hid h9; have HLM := Lib.hid h9.1; clear h9; have hv := (Up.refl wc).drew.trans hu; have HV5 := Lib.hid hv; have HU5 := Lib.hid (HUc.out.trans hv); have d0 := hu.keep _ _ _ c0; have d1 := hu.keep _ _ _ c1_; have d2 := hu.keep _ _ _ c2; have d3 := hu.keep _ _ _ c3; have d4 := hu.keep _ _ _ c4; clear hu hv hP hO)
      | (go_at_call 22; (with_reducible refine (K3b.out z nm km Am M0 _ hnm HP.out HLM.out HSM.out).mono ?_); rintro e w6 ⟨now2, Y, M2, A5, B2, k5, kb2, rfl, hH, hnz, hml, hk1, hA, hB, hSX, hSM, hu⟩; have HU6 := Lib.hid (HU5.out.trans hu); have HV6 := Lib.hid (HV5.out.trans hu); have HH := Lib.hid hH; have HA := Lib.hid hA; have HB := Lib.hid hB; have HSX := Lib.hid hSX; have HSB := Lib.hid hSM; have g0 := hu.keep _ _ _ d0; have g1 := hu.keep _ _ _ d1; have g2 := hu.keep _ _ _ d2; have g3 := hu.keep _ _ _ d3; have g4 := hu.keep _ _ _ d4; have hpl3 : p2 < w5.heap.size := World.block_lt_of_cell? _ _ d0; have z0 := HU6.out.ownGe (g := p2) hp2 0; have z1 := HU6.out.ownGe (g := p2) hp2 1; have z2 := HU6.out.ownGe (g := p2) hp2 2; have z3 := HU6.out.ownGe (g := p2) hp2 3; have z4 := HU6.out.ownGe (g := p2) hp2 4; clear hu hA hB hSX hSM))
    all_goals
      go_wp2_with fail
      go_meet
      refine ⟨now2, Y, M2, A5, B2, k5, kb2, rfl, rfl, Lib.hid ⟨((HV.out.up HV6.out).far (by omega) HX.out.2.1 _ _ _ _ _), Vc.put g0 g1 g2 g3 g4 HH.out HSX.out (HA.out.off (by omega)) hk1, HX.out.2.1, HA.out.off (by omega), HX.out.2.2.1, ⟨?_, ?_⟩, HU6.out.set5 hp2, (HX.out.2.2.2.2.1.up HV6.out).off5 HX.out.2.2.2.2.2.2.1 _ _ _ _ _, HSB.out.off5 (HB.out.off (by omega)) _ _ _ _ _, ⟨HX.out.2.2.2.2.2.1, HX.out.2.2.2.2.2.2.1⟩, ⟨HB.out.off (by omega), HB.out.off (by omega)⟩, HX.out.2.2.2.2.2.2.2.1, by omega⟩⟩
      · have := (mayC_facts (stC_true HH.out.st).1).1.1; exact this
      · have h1 := HP.out.2.1
        have := HLM.out
        omega
  case rest =>
  clear c0 c1_ c2 c3 c4 HX HV HUc hpl
  obtain ⟨now2, Y, M2, A5, B2, k5, kb2, rfl, rfl, HX⟩ := hcut
  clear K1 K1b K2 K2b K3 K3b HS HS2 KM1 KM2 KM3
  obtain ⟨mx, emx⟩ : ∃ y, max now now2 = y := ⟨_, rfl⟩
  have HM := Lib.hid emx
  have x3 := HX.out.1.c3
  have y3 := HX.out.2.1.c3
  go_upto_region 8 with fail
  go_cut [19] (fun s wx => s = .int .i64 mx ∧ Hid (Vc wx p v q 1000 now X M A1 k1 ∧ Vc wx p2 v j 1000 now2 Y M2 A5 k5 ∧ (∀ b o, A1 = some ⟨b, o, none⟩ → b ≠ p2) ∧ (∀ b o, A5 = some ⟨b, o, none⟩ → b ≠ p) ∧ (0 ≤ now ∧ now ≤ 10200) ∧ (0 ≤ now2 ∧ now2 ≤ 10200) ∧ Up w wx ∧ Sl wx B1 M.length M ∧ Sl wx B2 M2.length M2 ∧ ((∀ b o, B1 = some ⟨b, o, none⟩ → b ≠ p) ∧ (∀ b o, B1 = some ⟨b, o, none⟩ → b ≠ p2)) ∧ ((∀ b o, B2 = some ⟨b, o, none⟩ → b ≠ p) ∧ (∀ b o, B2 = some ⟨b, o, none⟩ → b ≠ p2)) ∧ M.length ≤ 80 ∧ M2.length ≤ 80))
  case first =>
    clear emx
    go_wp2_with fail
    all_goals
      go_meet
      refine ⟨?_, HX⟩
      have h9 := HM.out
      first | (rw [show mx = now by omega]; done) | (rw [show mx = now2 by omega]; done) | (rw [h9]; done) | (rw [← h9]; done)
  case rest =>
  clear x3 y3 HX
  obtain ⟨rfl, HX⟩ := hcut
  have m0 : 0 ≤ mx ∧ now ≤ mx ∧ now2 ≤ mx ∧ mx ≤ 10200 := by
    have h1 := HX.out.2.2.2.2.1
    have h2 := HX.out.2.2.2.2.2.1
    omega
  clear emx HM
  have m1 := m0.1
  have m2 := m0.2.2.2
  have HUc := Lib.hid HX.out.2.2.2.2.2.2.1
  have HVx := Lib.hid HX.out.1
  have HVy := Lib.hid HX.out.2.1
  have OA1 := Lib.hid HX.out.2.2.1
  have OA5 := Lib.hid HX.out.2.2.2.1
  have HB1 := Lib.hid HX.out.2.2.2.2.2.2.2.1
  have HB2 := Lib.hid HX.out.2.2.2.2.2.2.2.2.1
  have OB1 := Lib.hid HX.out.2.2.2.2.2.2.2.2.2.1
  have OB2 := Lib.hid HX.out.2.2.2.2.2.2.2.2.2.2.1
  have hM1 := HX.out.2.2.2.2.2.2.2.2.2.2.2.1
  have hM2 := HX.out.2.2.2.2.2.2.2.2.2.2.2.2
  have HH1 := Lib.hid (HX.out.1.hs.adv (td := mx) m0.2.1 (by omega))
  have HH2 := Lib.hid (HX.out.2.1.hs.adv (td := mx) m0.2.2.1 (by omega))
  have KD1 := Lib.hid (fun W (hu : Up wc W) => advV (td := mx) HX.out.1.hs HX.out.1.sl HX.out.1.cap hu m0.2.1 (by omega))
  have KD2 := Lib.hid (fun W (sl : Sl W A5 Y.length Y) => advV (td := mx) HX.out.2.1.hs sl HX.out.2.1.cap (Up.refl W) m0.2.2.1 (by omega))
  clear HX m0
  generalize exL X (firZ mx v) = X3 at *
  generalize exL Y (firZ mx v) = Y3 at *
  have hf1 : X3.length ≤ 50000 := by have := stC_few HH1.out.st; omega
  have hf2 : Y3.length ≤ 50000 := by have := stC_few HH2.out.st; omega
  have x0 := HVx.out.c0
  have x1 := HVx.out.c1
  have x2 := HVx.out.c2
  have x3 := HVx.out.c3
  have x4 := HVx.out.c4
  have y0 := HVy.out.c0
  have y1 := HVy.out.c1
  have y2 := HVy.out.c2
  have y3 := HVy.out.c3
  have y4 := HVy.out.c4
  have hpl : p2 < wc.heap.size := HVy.out.lt
  have hpl1 : p < wc.heap.size := HVx.out.lt
  go_upto_region 10 with (first
    | (go_at_call 13; (with_reducible refine (KD1.out _ (Up.refl _)).mono ?_); rintro e wa ⟨A3, k3, rfl, hc3, hn3, hs3, _, hu⟩; have HUa := Lib.hid (HUc.out.trans hu); have HCa := Lib.hid hu; have HS3 := Lib.hid hs3; have HN3 := Lib.hid hn3; have f0 := hu.keep _ _ _ x0; have f1 := hu.keep _ _ _ x1; have f2 := hu.keep _ _ _ x2; have f3 := hu.keep _ _ _ x3; have f4 := hu.keep _ _ _ x4; have z0 := HUa.out.ownGe (g := p) hp 0; have z1 := HUa.out.ownGe (g := p) hp 1; have z2 := HUa.out.ownGe (g := p) hp 2; have z3 := HUa.out.ownGe (g := p) hp 3; have z4 := HUa.out.ownGe (g := p) hp 4; clear hu hs3 hn3 x0 x1 x2 x3 x4 y0 y1 y2 y3 y4))
  obtain ⟨w9, hw9⟩ : ∃ y, y = ((((wa.setCell ⟨p, 0, none⟩ (.int .i64 v)).setCell ⟨p, 1, none⟩ (.int .i64 q)).setCell ⟨p, 2, none⟩ (.int .i64 1000)).setCell ⟨p, 3, none⟩ (.int .i64 mx)).setCell ⟨p, 4, none⟩ (.slice A3 X3.length k3) := ⟨_, rfl⟩
  rw [← hw9]
  have hz9 : w9.heap.size = wa.heap.size := by rw [hw9]; simp [World.setCell]
  have hza := HCa.out.size
  have HVx9 : Hid (Vc w9 p v q 1000 mx X3 M A3 k3) := Lib.hid (by rw [hw9]; exact Vc.put f0 f1 f2 f3 f4 HH1.out HS3.out (HN3.out.off hpl1) hc3)
  have HVy9 : Hid (Vc w9 p2 v j 1000 now2 Y M2 A5 k5) := Lib.hid (by rw [hw9]; exact (HVy.out.up HCa.out).far (by omega) OA5.out _ _ _ _ _)
  have HB19 : Hid (Sl w9 B1 M.length M) := Lib.hid (by rw [hw9]; exact (HB1.out.up HCa.out).off5 OB1.out.1 _ _ _ _ _)
  have HB29 : Hid (Sl w9 B2 M2.length M2) := Lib.hid (by rw [hw9]; exact (HB2.out.up HCa.out).off5 OB2.out.1 _ _ _ _ _)
  have HU9 : Hid (Up w w9) := Lib.hid (by rw [hw9]; exact HUa.out.set5 hp)
  have OA3 : Hid (∀ b o, A3 = some ⟨b, o, none⟩ → b ≠ p2) := Lib.hid (HN3.out.off hpl)
  clear hw9 f0 f1 f2 f3 f4 z0 z1 z2 z3 z4 HVx HVy HB1 HB2 HUa HUc HCa HN3 HS3 OA1 KD1
  have y0 := HVy9.out.c0
  have y1 := HVy9.out.c1
  have y2 := HVy9.out.c2
  have y3 := HVy9.out.c3
  have y4 := HVy9.out.c4
  have hpl9 : p2 < w9.heap.size := HVy9.out.lt
  go_upto_region 11 with (first
    | (go_at_call 13; (with_reducible refine (KD2.out _ HVy9.out.sl).mono ?_); rintro e wd ⟨A4, k4, rfl, hc4, hn4, hs4, _, hu⟩; have HUd := Lib.hid (HU9.out.trans hu); have HCd := Lib.hid hu; have HS4 := Lib.hid hs4; have HN4 := Lib.hid hn4; have f0 := hu.keep _ _ _ y0; have f1 := hu.keep _ _ _ y1; have f2 := hu.keep _ _ _ y2; have f3 := hu.keep _ _ _ y3; have f4 := hu.keep _ _ _ y4; have z0 := HUd.out.ownGe (g := p2) hp2 0; have z1 := HUd.out.ownGe (g := p2) hp2 1; have z2 := HUd.out.ownGe (g := p2) hp2 2; have z3 := HUd.out.ownGe (g := p2) hp2 3; have z4 := HUd.out.ownGe (g := p2) hp2 4; clear hu hs4 hn4 y0 y1 y2 y3 y4))
  obtain ⟨w10, hw10⟩ : ∃ y, y = ((((wd.setCell ⟨p2, 0, none⟩ (.int .i64 v)).setCell ⟨p2, 1, none⟩ (.int .i64 j)).setCell ⟨p2, 2, none⟩ (.int .i64 1000)).setCell ⟨p2, 3, none⟩ (.int .i64 mx)).setCell ⟨p2, 4, none⟩ (.slice A4 Y3.length k4) := ⟨_, rfl⟩
  rw [← hw10]
  have HVx10 : Hid (Vc w10 p v q 1000 mx X3 M A3 k3) := Lib.hid (by rw [hw10]; exact (HVx9.out.up HCd.out).far (by omega) OA3.out _ _ _ _ _)
  have HVy10 : Hid (Vc w10 p2 v j 1000 mx Y3 M2 A4 k4) := Lib.hid (by rw [hw10]; exact Vc.put f0 f1 f2 f3 f4 HH2.out HS4.out (HN4.out.off hpl9) hc4)
  have HB110 : Hid (Sl w10 B1 M.length M) := Lib.hid (by rw [hw10]; exact (HB19.out.up HCd.out).off5 OB1.out.2 _ _ _ _ _)
  have HB210 : Hid (Sl w10 B2 M2.length M2) := Lib.hid (by rw [hw10]; exact (HB29.out.up HCd.out).off5 OB2.out.2 _ _ _ _ _)
  have HU10 : Hid (Up w w10) := Lib.hid (by rw [hw10]; exact HUd.out.set5 hp2)
  clear hw10 f0 f1 f2 f3 f4 z0 z1 z2 z3 z4 HVx9 HVy9 HB19 HB29 HUd HU9 HCd HN4 HS4 OA3 OA5 OB1 OB2 KD2 hz9 hza
  have KG := Lib.hid (fun W (h1 : Sl W A3 X3.length X3) (h2 : Sl W A4 Y3.length Y3) => merge11_up v q 1000 mx X3.length k3 A3 X3 hf1 v j 1000 mx Y3.length k4 A4 Y3 hf2 W h1 h2)
  rw [HH1.out.st, HH2.out.st, show mgV true true (decide (v = v) && decide (mx = mx)) X3 Y3 = .tuple #[suV X3 Y3, .int .i64 0] by simp [mgV]] at KG
  unfold suV at KG
  have KL1 := Lib.hid (fun W (h : Sl W B1 M.length M) => mliveI_up M.length kb B1 M mx v (by omega) m1 (by omega) v1 v25 W h)
  have KL2 := Lib.hid (fun W (h : Sl W B2 M2.length M2) => mliveI_up M2.length kb2 B2 M2 mx v (by omega) m1 (by omega) v1 v25 W h)
  obtain ⟨h1, h2, h3, h4, h5⟩ := HH1.out.holds
  obtain ⟨i1, i2, i3, i4, i5⟩ := HH2.out.holds
  obtain ⟨u1, u2, u3, u4, u5⟩ := qu_facts HH1.out.st
  obtain ⟨t1_, t2, t3, t4, t5⟩ := qu_facts HH2.out.st
  have HLN := Lib.hid (lvN_ml M mx v)
  have HLM := Lib.hid (lvN_ml M2 mx v)
  have hl1 := lvN_le (M.map (fun x => x.1)) mx v
  have hl2 := lvN_le (M2.map (fun x => x.1)) mx v
  rw [List.length_map] at hl1 hl2
  generalize lvN (M.map (fun x => x.1)) mx v = lvn at *
  generalize lvN (M2.map (fun x => x.1)) mx v = lvm at *
  generalize mid (qlo0 X3) (totB X3) = mX at *
  generalize mid (qlo0 Y3) (totB Y3) = mY at *
  generalize qlo0 X3 = lX at *
  generalize qlo0 Y3 = lY at *
  generalize totB X3 = tX at *
  generalize totB Y3 = tY at *
  generalize mlL M mx v = ML1 at *
  generalize mlL M2 mx v = ML2 at *
  obtain ⟨b0, eb0⟩ : ∃ y, lX + lY = y := ⟨_, rfl⟩
  obtain ⟨b1, eb1⟩ : ∃ y, mX + mY = y := ⟨_, rfl⟩
  obtain ⟨b2, eb2⟩ : ∃ y, tX + tY = y := ⟨_, rfl⟩
  obtain ⟨lv, elv⟩ : ∃ y : Int, (lvn : Int) + (lvm : Int) = y := ⟨_, rfl⟩
  rw [eb0, eb1, eb2] at KG
  have hbv : bvB b0 1 b1 1 b2 1 = true := bvB_mk (valid_one _) (valid_one _) (valid_one _) ((le_of_cmpR (valid_one _) (valid_one _)).2 (by omega)) ((le_of_cmpR (valid_one _) (valid_one _)).2 (by omega))
  have KH := Lib.hid (fun W => bholds_up b0 1 b1 1 b2 1 lv 1 ⟨by omega, by omega⟩ ⟨by omega, by omega⟩ ⟨by omega, by omega⟩ ⟨by omega, by omega⟩ ⟨by omega, by omega⟩ ⟨by omega, by omega⟩ ⟨by omega, by omega⟩ ⟨by omega, by omega⟩ W)
  rw [ho_one hbv (by omega) (by omega)] at KH
  have KI := Lib.hid (fun mn (hm : mn = q ∧ q ≤ j ∨ mn = j ∧ j ≤ q) W => (show Calls Try.prog 28 #[.agg #[.int .i64 b0, .int .i64 1, .int .i64 b1, .int .i64 1, .int .i64 b2, .int .i64 1], .int .i64 mn, .agg #[.int .i64 lv, .int .i64 1]] W fun e w' => e = .returned (.bool true) ∧ Up W w' by
    have hd1 : mn * (tX - lX) ≤ q * (tX - lX) := Int.mul_le_mul_of_nonneg_right (by omega) (by omega)
    have hd2 : mn * (tY - lY) ≤ j * (tY - lY) := Int.mul_le_mul_of_nonneg_right (by omega) (by omega)
    have hd3 : mn * (b2 - b0) = mn * (tX - lX) + mn * (tY - lY) := by rw [← Int.mul_add]; congr 1; omega
    have := within_up b0 1 b1 1 b2 1 mn lv 1 ⟨by omega, by omega⟩ ⟨by omega, by omega⟩ ⟨by omega, by omega⟩ ⟨by omega, by omega⟩ ⟨by omega, by omega⟩ ⟨by omega, by omega⟩ ⟨by omega, by omega⟩ ⟨by omega, by omega⟩ ⟨by omega, by omega⟩ W
    rw [wi_one hbv (by omega) (by omega) (by omega)] at this
    exact this))
  have KR := Lib.hid (fun W => rofr_up lv W)
  have k5_ : IntKind.i64.wrap ((lvn : Int) + (lvm : Int)) = lv := by rw [elv]; exact IntWalk.i64_in _ (by omega)
  have k6_ : wrap64 ((lvn : Int) + (lvm : Int)) = lv := by rw [elv]; unfold wrap64; omega
  have elv9 := Lib.hid elv
  have x0 := HVx10.out.c0
  have x1 := HVx10.out.c1
  have x2 := HVx10.out.c2
  have x3 := HVx10.out.c3
  have x4 := HVx10.out.c4
  have y0 := HVy10.out.c0
  have y1 := HVy10.out.c1
  have y2 := HVy10.out.c2
  have y3 := HVy10.out.c3
  have y4 := HVy10.out.c4
  clear h1 h2 h3 h4 h5 i1 i2 i3 i4 i5 u1 u2 u3 u4 u5 t1_ t2 t3 t4 t5 hbv eb0 eb1 eb2 elv HH1 HH2 hl1 hl2
  go_upto_region 13 with (first
    | (go_at_call 31; (with_reducible refine (KG.out _ HVx10.out.sl HVy10.out.sl).mono ?_); rintro e we ⟨rfl, hu⟩; have HUe := Lib.hid (HU10.out.trans hu); have HCe := Lib.hid hu; clear hu x0 x1 x2 x3 x4 y0 y1 y2 y3 y4)
    | (go_at_call 26; (with_reducible refine (KL1.out _ (HB110.out.up (HCe.out.alloc _ _))).mono ?_); rintro e wf ⟨C1, n7, k7, rfl, hn7, hO7, hu⟩; obtain ⟨A9, k9, e9, _, h9⟩ := hO7.sl; cases e9; obtain rfl : n7 = lvn := h9.1.symm.trans HLN.out; have hv := ((Up.refl we).alloc #[.int .i64 b0, .int .i64 1, .int .i64 b1, .int .i64 1, .int .i64 b2, .int .i64 1] 37).trans hu; have HUf := Lib.hid (HUe.out.trans hv); have HCf := Lib.hid (HCe.out.trans hv); have u0 := hu.keep we.heap.size 0 (.int .i64 b0) (by simp [go_sem]); have u1 := hu.keep we.heap.size 1 (.int .i64 1) (by simp [go_sem]); have u2 := hu.keep we.heap.size 2 (.int .i64 b1) (by simp [go_sem]); have u3 := hu.keep we.heap.size 3 (.int .i64 1) (by simp [go_sem]); have u4 := hu.keep we.heap.size 4 (.int .i64 b2) (by simp [go_sem]); have u5 := hu.keep we.heap.size 5 (.int .i64 1) (by simp [go_sem]); clear hu hv hO7 h9)
    | (go_at_call 26; (with_reducible refine (KL2.out _ (HB210.out.up HCf.out)).mono ?_); rintro e wg ⟨C2, n8, k8, rfl, hn8, hO8, hu⟩; obtain ⟨A9, k9, e9, _, h9⟩ := hO8.sl; cases e9; obtain rfl : n8 = lvm := h9.1.symm.trans HLM.out; have HUg := Lib.hid (HUf.out.trans hu); have v0_ := hu.keep _ _ _ u0; have v1_ := hu.keep _ _ _ u1; have v2_ := hu.keep _ _ _ u2; have v3_ := hu.keep _ _ _ u3; have v4_ := hu.keep _ _ _ u4; have v5_ := hu.keep _ _ _ u5; clear hu hO8 h9 u0 u1 u2 u3 u4 u5)
    | (go_at_call 25; (with_reducible refine (KR.out _).mono ?_); rintro e wh ⟨rfl, hu⟩; have HUh := Lib.hid (HUg.out.trans hu); have l0 := hu.keep _ _ _ v0_; have l1 := hu.keep _ _ _ v1_; have l2 := hu.keep _ _ _ v2_; have l3 := hu.keep _ _ _ v3_; have l4 := hu.keep _ _ _ v4_; have l5 := hu.keep _ _ _ v5_; clear hu v0_ v1_ v2_ v3_ v4_ v5_))
  obtain ⟨wi, hwi⟩ : ∃ y, y = wh.alloc (.cells #[.int .i64 lv, .int .i64 1] 35) := ⟨_, rfl⟩
  rw [← hwi]
  have hui : Up wh wi := by rw [hwi]; exact (Up.refl _).alloc _ _
  have g6 : wi.cell? ⟨wh.heap.size, 0, none⟩ = some (.int .i64 lv) := by rw [hwi]; simp [go_sem]
  have g7 : wi.cell? ⟨wh.heap.size, 1, none⟩ = some (.int .i64 1) := by rw [hwi]; simp [go_sem]
  have HUi := Lib.hid (HUh.out.trans hui)
  have g0 := hui.keep _ _ _ l0
  have g1 := hui.keep _ _ _ l1
  have g2 := hui.keep _ _ _ l2
  have g3 := hui.keep _ _ _ l3
  have g4 := hui.keep _ _ _ l4
  have g5 := hui.keep _ _ _ l5
  clear hwi hui l0 l1 l2 l3 l4 l5
  generalize we.heap.size = pb at *
  generalize wh.heap.size = pr at *
  go_wp2_with (first
    | (go_at_call 27; (with_reducible refine (KH.out _).mono ?_); rintro e wj ⟨rfl, hu⟩; have HUj := Lib.hid (HUi.out.trans hu); have i0 := hu.keep _ _ _ g0; have i1 := hu.keep _ _ _ g1; have i2 := hu.keep _ _ _ g2; have i3 := hu.keep _ _ _ g3; have i4 := hu.keep _ _ _ g4; have i5 := hu.keep _ _ _ g5; have i6 := hu.keep _ _ _ g6; have i7 := hu.keep _ _ _ g7; clear hu g0 g1 g2 g3 g4 g5 g6 g7)
    | (go_at_call 28; (with_reducible refine (KI.out _ (by omega) _).mono ?_); rintro e wk ⟨rfl, hu⟩; have HUk := Lib.hid (HUj.out.trans hu); clear hu)
    | (go_at_call 11; (with_reducible refine (KA.out _).mono ?_); rintro e wl ⟨rfl, hu⟩; have HUl := Lib.hid (HUk.out.trans hu); clear hu))
  all_goals
    go_ret
    exact ⟨rfl, HUl.out⟩

set_option maxRecDepth 100000 in
theorem countBoth_lifted (os : Os) (started : os.Started) (H : Type) (enc : TypeId × Value → H) :
    ReturnsInHanded {} Try.checked os 6 .any (Rows.countBothSpec.pre6 enc Try.prog Try.f6 Rows.countBothRow.domain false) (Rows.countBothSpec.post enc Try.prog Try.f6 false true false false) := by
  refine returnsInHanded_of_change_sized (C := Try.checked) countBoth_own started (by kernel_rfl) Try.func6
    (ChangeSpec.witness6 (enc := enc) (C := Try.checked) false ⟨#[], #[.slice none 0 0, .slice none 0 0, .int .i64 0, .int .i64 0, .int .i64 0], []⟩ 8 (by kernel_rfl) (by kernel_rfl) (by kernel_rfl) (by kernel_rfl)) ?_
  intro W base args ds gs before hval0 hW hcnd hsz0 _
  have hval : ∀ (j : Nat) t v, Try.f6.params[j]? = some t → args[j]? = some v → Value.okWide Try.prog W .any base t v := hval0
  have hW' := hW
  obtain ⟨p, q, hA0, hV, rfl, hfz, hnd⟩ := hW'
  have hA : DataW.TrodAll enc Try.prog W 0 (fun _ => true) true Try.f6.params.toList args.toList ds p := hA0
  rw [Try.params6] at hA hval
  obtain ⟨v0, vs0, d0, ds0, p0, q0, hargs, rfl, rfl, h0, r0⟩ := trodAll_cons hA
  obtain ⟨v1, vs1, d1, ds1, p1, q1, rfl, rfl, rfl, h1, r1⟩ := trodAll_cons r0
  obtain ⟨v2, vs2, d2, ds2, p2, q2, rfl, rfl, rfl, h2, r2⟩ := trodAll_cons r1
  obtain ⟨v3, vs3, d3, ds3, p3, q3, rfl, rfl, rfl, h3, r3⟩ := trodAll_cons r2
  obtain ⟨v4, vs4, d4, ds4, p4, q4, rfl, rfl, rfl, h4, r4⟩ := trodAll_cons r3
  obtain ⟨rfl, rfl, rfl⟩ := trodAll_nil r4
  obtain rfl : args = #[v0, v1, v2, v3, v4] := by cases args; simp_all
  obtain ⟨rfl, rfl⟩ := trodVars_none hV
  have hlt := fun x hx => hW.lt x hx
  have k0 := h0
  obtain ⟨n0, m0, A0, L0, rfl, hk0, hS0, hI0⟩ := open_items2 (hval 0 42 v0 rfl rfl) h0
  have k1 := h1
  obtain ⟨n1, m1, A1, L1, rfl, hk1, hS1, hI1⟩ := open_items2 (hval 1 42 v1 rfl rfl) h1
  have k2 := h2
  obtain ⟨a2, rfl, rfl, rfl, w2⟩ := open_int Try.underlying2 (hval 2 2 v2 rfl rfl) h2
  have k3 := h3
  obtain ⟨a3, rfl, rfl, rfl, w3⟩ := open_int Try.underlying3 (hval 3 3 v3 rfl rfl) h3
  have k4 := h4
  obtain ⟨a4, rfl, rfl, rfl, w4⟩ := open_int Try.underlying3 (hval 4 3 v4 rfl rfl) h4
  refine (countBoth_walk n0 m0 A0 L0 hk0 hI0 n1 m1 A1 L1 hk1 hI1 a2 w2 a3 w3 a4 w4 W hS0 hS1).mono fun e W' ⟨he, hg⟩ => ?_
  subst he
  exact ⟨_, rfl, post_of_same (pv := []) hW (fun _ _ _ => (trodAll_cons_mk (shut_bool Try.underlying4 _) trodAll_mk0)) (fun sp hsp => (trodAll_cons_mk (stay (by kernel_rfl) (of_decide_eq_true (by kernel_rfl)) k0 hg hlt (fun x hx => by first | (simp at hx; done) | simp [hx]) hsp) (trodAll_cons_mk (stay (by kernel_rfl) (of_decide_eq_true (by kernel_rfl)) k1 hg hlt (fun x hx => by first | (simp at hx; done) | simp [hx]) hsp) (trodAll_cons_mk (stay (by kernel_rfl) (of_decide_eq_true (by kernel_rfl)) k2 hg hlt (fun x hx => by first | (simp at hx; done) | simp [hx]) hsp) (trodAll_cons_mk (stay (by kernel_rfl) (of_decide_eq_true (by kernel_rfl)) k3 hg hlt (fun x hx => by first | (simp at hx; done) | simp [hx]) hsp) (trodAll_cons_mk (stay (by kernel_rfl) (of_decide_eq_true (by kernel_rfl)) k4 hg hlt (fun x hx => by first | (simp at hx; done) | simp [hx]) hsp) trodAll_mk0)))))) (fun _ _ => rfl) rfl
    (hg.grown.frame _) hg.grown.2.1 (ok_one (by kernel_rfl) rfl (okWide_bool_mk Try.underlying4 _))⟩

theorem countBoth_over : Rows.countBothRow.holds Try.pinned (OpenSpec.ofChange Rows.countBothSpec) :=
  OpenClaim.holds_of_wide 6 Try.f6 rfl rfl rfl rfl rfl rfl rfl ⟨rfl, rfl, rfl, rfl, rfl⟩ rfl rfl rfl rfl rfl (by kernel_rfl) Try.func6 (by kernel_rfl)
    (of_decide_eq_true (by kernel_rfl)) (by unfold Func.isWrapper; first | (rw [if_pos (by decide +kernel)]; kernel_rfl) | (rw [if_neg (by decide +kernel)]; exact ⟨rfl, rfl⟩))
    (fun os started H enc _ => countBoth_lifted os started H enc)

theorem countBoth_holds : Rows.CountBothSaid :=
  countBoth_over
#print axioms countBoth_holds
end Go.Proofs.Ytjbgogajnjefmaa
