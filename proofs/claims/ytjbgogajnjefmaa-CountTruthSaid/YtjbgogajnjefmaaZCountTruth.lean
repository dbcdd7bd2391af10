/- Proved: for every list of raw items and any numbers the law CountTruth returns true: the number of live items lies between the bounds, which are narrow, with few buckets, and a histogram is full when the chapter says so. Conditions: none. -/
import Derived.Test.YtjbgogajnjefmaaRows
import Derived.Test.YtjbgogajnjefmaaZBAtMost
import Derived.Test.YtjbgogajnjefmaaZBProduct
import Derived.Test.YtjbgogajnjefmaaZBValidm2
import Derived.Test.YtjbgogajnjefmaaZBWhole
import Derived.Test.YtjbgogajnjefmaaZBWithin
import Derived.Test.YtjbgogajnjefmaaZFMade
import Derived.Test.YtjbgogajnjefmaaZGBasem10
import Derived.Test.YtjbgogajnjefmaaZGLawm6
import Derived.Test.YtjbgogajnjefmaaZHOrdm3
import Derived.Test.YtjbgogajnjefmaaZHRVal
import Derived.Test.YtjbgogajnjefmaaZHRowm3
import Derived.Test.YtjbgogajnjefmaaZHSamem5
import Derived.Test.YtjbgogajnjefmaaZIAskm3
import Derived.Test.YtjbgogajnjefmaaZIBasem2
import Derived.Test.YtjbgogajnjefmaaZIMade
import Derived.Test.YtjbgogajnjefmaaZIMrgm2
import Derived.Test.YtjbgogajnjefmaaZIRun
import Derived.Test.YtjbgogajnjefmaaZRArithm2
import Derived.Test.YtjbgogajnjefmaaZREasym3
import Derived.Test.YtjbgogajnjefmaaZWGcd
import Derived.Test.YtjbgogajnjefmaaZWMathm11
import Derived.Test.YtjbgogajnjefmaaZWRDiv2
import Derived.Test.YtjbgogajnjefmaaZWShortm6
namespace Go.Proofs.Ytjbgogajnjefmaa
open Go.ChangeShapes Go.WideShapes Go.ChangeAt Go.RowKit Go.Joins
set_option linter.unusedVariables false

theorem countTruth_own : ownKnob Try.prog.godebug = none := by kernel_rfl

set_option maxHeartbeats 16000000 in
set_option maxRecDepth 100000 in
theorem countTruth_walk (n k : Nat) (A : Option Addr) (L : List It) (hk : n ≤ k) (hI : InI L) (a1 : Int) (_ : (Lit.int .i64 a1).wf = true) (a2 : Int) (_ : (Lit.int .i64 a2).wf = true) (a3 : Int) (_ : (Lit.int .i64 a3).wf = true) (a4 : Int) (_ : (Lit.int .i64 a4).wf = true) (w : World) (hS : Sl w A n L) :
    Calls Try.prog 5 #[.slice A n k, .int .i64 a1, .int .i64 a2, .int .i64 a3, .int .i64 a4] w fun e w' => e = .returned (.bool true) ∧ Up w w' := by
  have KA := Lib.hid awake11_up
  have HS := Lib.hid hS
  have KW := Lib.hid (window_any a1 a2 a3)
  have K1 := Lib.hid (fun v q d (hm : mayC v q d 0 = true) W => new11_yes v q d 0 hm W)
  clear hS hI
  go_enter Try.func5, Try.ntmps5
  go_upto_region 3 with (first
    | (go_at_call 21; (with_reducible refine (KW.out _).mono ?_); rintro e w0 ⟨v, q, d, rfl, hv, hq, hd, rfl⟩; have hmay : mayC v q d 0 = true := (mayC_ok (by omega) (by omega) hv.1 (by omega) hd.1 hd.2 hq.1 (by omega)))
    | (go_at_call 8; (with_reducible refine (K1.out v q d hmay _).mono ?_); rintro e w1 ⟨rfl, hu⟩; have HU1 := Lib.hid hu; clear hu))
  have K2 := Lib.hid (fun W (h : Sl W A n L) => itemsJ_up n k A L v hv.1 hv.2 150 150 rfl (by omega) W h)
  have K3 := Lib.hid (fun z nm km Am M0 W (h1 : nm ≤ 150) (h2 : mdQ M0 z) (h3 : M0.length = nm) (h : Sl W Am nm M0) => run11_up v q d z nm km Am M0 hmay hv.2 (by omega) (by have := h2.2.1; omega) h2 W h)
  have hp : w.heap.size ≤ w1.heap.size := HU1.out.size
  obtain ⟨w2, hw2⟩ : ∃ y, y = w1.alloc (.cells #[.int .i64 v, .int .i64 q, .int .i64 d, .int .i64 0, .slice none 0 0] 24) := ⟨_, rfl⟩
  rw [← hw2]
  have HU2 : Hid (Up w w2) := Lib.hid (by rw [hw2]; exact HU1.out.alloc _ _)
  obtain ⟨c0, c1_, c2, c3, c4⟩ : w2.cell? ⟨w1.heap.size, 0, none⟩ = some (.int .i64 v) ∧ w2.cell? ⟨w1.heap.size, 1, none⟩ = some (.int .i64 q) ∧ w2.cell? ⟨w1.heap.size, 2, none⟩ = some (.int .i64 d) ∧ w2.cell? ⟨w1.heap.size, 3, none⟩ = some (.int .i64 0) ∧ w2.cell? ⟨w1.heap.size, 4, none⟩ = some (.slice none 0 0) := by rw [hw2]; simp [go_sem]
  clear hw2
  generalize w1.heap.size = p at *
  have hpl : p < w2.heap.size := World.block_lt_of_cell? _ _ c0
  have hv1 := hv.1
  have hv2 := hv.2
  have hq1 := hq.1
  have hq2 := hq.2
  have hd1 := hd.1
  have hd2 := hd.2
  clear hv hq hd hmay KW K1
  go_cut [13, 14] (fun s t wx => ∃ (now : Int) (X M : List It) (A1 B : Option Addr) (k1 kb : Nat), s = .slice B M.length kb ∧ t = .bool true ∧ Hid (Vc wx p v q d now X M A1 k1 ∧ 0 ≤ now ∧ now ≤ 10200 ∧ Up w wx ∧ Sl wx B M.length M ∧ (∀ b o, B = some ⟨b, o, none⟩ → b ≠ p) ∧ M.length ≤ 150))
  case first =>
    go_region_with (first
      | (go_at_call 23; (with_reducible refine (K2.out _ (HS.out.up HU2.out.drew)).mono ?_); rintro e w3 ⟨Am, nm, km, M0, z, rfl, hnm, hP, hO, hu⟩; obtain ⟨A9, k9, e9, _, h9⟩ := hO.sl; cases e9; have HP := Lib.hid hP; have HSM := Lib.hid h9; have HLM := Lib.hid h9.1; clear h9; have HU3 := Lib.hid (HU2.out.drew.trans hu); have d0 := hu.keep _ _ _ c0; have d1 := hu.keep _ _ _ c1_; have d2 := hu.keep _ _ _ c2; have d3 := hu.keep _ _ _ c3; have d4 := hu.keep _ _ _ c4; clear hu hP hO)
      | (go_at_call 22; (with_reducible refine (K3.out z nm km Am M0 _ hnm HP.out HLM.out HSM.out).mono ?_); rintro e w4 ⟨now, X, M, A1, B1, k1, kb, rfl, hH, hnz, hml, hk1, hA, hB, hSX, hSM, hu⟩; have HU4 := Lib.hid (HU3.out.trans hu); have HH := Lib.hid hH; have HA := Lib.hid hA; have HB := Lib.hid hB; have HSX := Lib.hid hSX; have HSB := Lib.hid hSM; have g0 := hu.keep _ _ _ d0; have g1 := hu.keep _ _ _ d1; have g2 := hu.keep _ _ _ d2; have g3 := hu.keep _ _ _ d3; have g4 := hu.keep _ _ _ d4; have hpl3 : p < w3.heap.size := World.block_lt_of_cell? _ _ d0; have z0 := HU4.out.ownGe (g := p) hp 0; have z1 := HU4.out.ownGe (g := p) hp 1; have z2 := HU4.out.ownGe (g := p) hp 2; have z3 := HU4.out.ownGe (g := p) hp 3; have z4 := HU4.out.ownGe (g := p) hp 4; clear hu hA hB hSX hSM))
    all_goals
      go_wp2_with fail
      go_meet
      refine ⟨now, X, M, A1, B1, k1, kb, rfl, rfl, Lib.hid ⟨Vc.put g0 g1 g2 g3 g4 HH.out HSX.out (HA.out.off (by omega)) hk1, ?_, ?_, HU4.out.set5 hp, HSB.out.off5 (HB.out.off (by omega)) _ _ _ _ _, HB.out.off (by omega), by omega⟩⟩
      · have := (mayC_facts (stC_true HH.out.st).1).1.1; exact this
      · have h1 := HP.out.2.1
        have := HLM.out
        omega
  case rest =>
  obtain ⟨now, X, M, A1, B1, k1, kb, rfl, rfl, HX⟩ := hcut
  clear K2 K3 HS
  have g0 : 0 ≤ a4 % (2 * v + 2) := Int.emod_nonneg _ (by omega)
  have g1 : a4 % (2 * v + 2) < 2 * v + 2 := Int.emod_lt_of_pos _ (by omega)
  have KM := Lib.hid (fun W => modm_any a4 (2 * v + 2) (by omega) (by omega) W)
  generalize a4 % (2 * v + 2) = g at *
  have n0 := HX.out.2.1
  have n1 := HX.out.2.2.1
  obtain ⟨td, etd⟩ : ∃ y, now + g = y := ⟨_, rfl⟩
  have w3_ : IntKind.i64.wrap (2 * v) = 2 * v := IntWalk.i64_in _ (by omega)
  have w4_ : IntKind.i64.wrap (2 * v + 2) = 2 * v + 2 := IntWalk.i64_in _ (by omega)
  have w5_ : IntKind.i64.wrap (now + g) = td := by rw [etd]; exact IntWalk.i64_in _ (by omega)
  have HH1 := Lib.hid (HX.out.1.hs.adv (td := td) (by omega) (by omega))
  have KD := Lib.hid (fun W (hu : Up wc W) => advV (td := td) HX.out.1.hs HX.out.1.sl HX.out.1.cap hu (by omega) (by omega))
  have HUc := Lib.hid HX.out.2.2.2.1
  have HSB := Lib.hid HX.out.2.2.2.2.1
  have HOB := Lib.hid HX.out.2.2.2.2.2.1
  have hM := HX.out.2.2.2.2.2.2
  have HV := Lib.hid HX.out.1
  have td0 : 0 ≤ td := by omega
  have td1 : td ≤ 100000 := by omega
  have x0 := HV.out.c0
  have x1 := HV.out.c1
  have x2 := HV.out.c2
  have x3 := HV.out.c3
  have x4 := HV.out.c4
  have hpc : p < wc.heap.size := HV.out.lt
  generalize exL X (firZ td v) = X1 at *
  clear etd HX
  go_upto_region 6 with fail
  go_cut [12] (fun s wx => ∃ (A2 : Option Addr) (k2 : Nat), s = .int .i64 0 ∧ Hid (Vc wx p v q d td X1 M A2 k2 ∧ Up w wx ∧ Sl wx B1 M.length M))
  case first =>
    go_region_with (first
      | (go_at_call 24; (with_reducible refine (KM.out _).mono ?_); rintro e w' ⟨rfl, rfl⟩)
      | (go_at_call 13; (with_reducible refine (KD.out _ ((Up.refl wc).drew)).mono ?_); rintro e w5 ⟨A2, k2, rfl, hc2, hn2, hs2, _, hu⟩; have hv := (Up.refl wc).drew.trans hu; have HU5 := Lib.hid (HUc.out.trans hv); have HS2 := Lib.hid hs2; have HN2 := Lib.hid (hn2.off (p := p) (by simpa using hpc)); have HB5 := Lib.hid (HSB.out.up hv); have y0 := hu.keep _ _ _ x0; have y1 := hu.keep _ _ _ x1; have y2 := hu.keep _ _ _ x2; have y3 := hu.keep _ _ _ x3; have y4 := hu.keep _ _ _ x4; have z0 := HU5.out.ownGe (g := p) hp 0; have z1 := HU5.out.ownGe (g := p) hp 1; have z2 := HU5.out.ownGe (g := p) hp 2; have z3 := HU5.out.ownGe (g := p) hp 3; have z4 := HU5.out.ownGe (g := p) hp 4; clear hu hv hs2 hn2))
    all_goals
      go_wp2_with fail
      go_meet
      exact ⟨A2, k2, rfl, Lib.hid ⟨Vc.put y0 y1 y2 y3 y4 HH1.out HS2.out HN2.out hc2, HU5.out.set5 hp, HB5.out.off5 HOB.out _ _ _ _ _⟩⟩
  case rest =>
  obtain ⟨A2, k2, rfl, HX⟩ := hcut
  clear x0 x1 x2 x3 x4 HV HSB HUc KD KM
  have KQ := Lib.hid (fun W (h : Sl W A2 X1.length X1) => ask11_up v q d td X1.length k2 A2 X1 HX.out.1.few W h)
  rw [HX.out.1.hs.st, akV_yes, quV_form] at KQ
  have KL := Lib.hid (fun W (h : Sl W B1 M.length M) => mliveI_up M.length kb B1 M td v (by omega) td0 td1 hv1 hv2 W h)
  obtain ⟨h1, h2, h3, h4, h5⟩ := HX.out.1.hs.holds
  have hbv := (qu_facts HX.out.1.hs.st).2.2.2
  have hq0 := qu_facts HX.out.1.hs.st
  have hfm := few_most HX.out.1.hs.st
  have HLN := Lib.hid (lvN_ml M td v)
  generalize lvN (M.map (fun x => x.1)) td v = lvn at *
  obtain ⟨lv, elv⟩ : ∃ y : Int, (lvn : Int) = y := ⟨_, rfl⟩
  rw [elv] at h1 h2
  generalize mid (qlo0 X1) (totB X1) = b1 at *
  generalize qlo0 X1 = b0 at *
  generalize totB X1 = b2 at *
  have KH := Lib.hid (fun W => bholds_up b0 1 b1 1 b2 1 lv 1 ⟨by omega, by omega⟩ ⟨by omega, by omega⟩ ⟨by omega, by omega⟩ ⟨by omega, by omega⟩ ⟨by omega, by omega⟩ ⟨by omega, by omega⟩ ⟨by omega, by omega⟩ ⟨by omega, by omega⟩ W)
  rw [ho_one hbv.2 h1 h2] at KH
  have KI := Lib.hid (fun W => within_up b0 1 b1 1 b2 1 q lv 1 ⟨by omega, by omega⟩ ⟨by omega, by omega⟩ ⟨by omega, by omega⟩ ⟨by omega, by omega⟩ ⟨by omega, by omega⟩ ⟨by omega, by omega⟩ ⟨by omega, by omega⟩ ⟨by omega, by omega⟩ ⟨by omega, by omega⟩ W)
  rw [wi_one hbv.2 hq1 (by omega) (Int.le_trans h3 h1)] at KI
  have KT := Lib.hid (fun W => rmost_any q d ⟨by omega, by omega⟩ W)
  have KR := Lib.hid (fun W => rofr_up lv W)
  generalize moZ q d = mz at *
  generalize mlL M td v = ML at *
  have tm : decide ((X1.length : Int) ≤ mz) = true := decide_eq_true hfm
  have HUd := Lib.hid HX.out.2.1
  have HSB := Lib.hid HX.out.2.2
  have HV := Lib.hid HX.out.1
  have x0 := HV.out.c0
  have x1 := HV.out.c1
  have x2 := HV.out.c2
  have x3 := HV.out.c3
  have x4 := HV.out.c4
  clear h1 h2 h3 h4 h5 hbv hq0 hfm HX hM
  go_upto_region 11 with (first
    | (go_at_call 17; (with_reducible refine (KQ.out _ HV.out.sl).mono ?_); rintro e w6 ⟨rfl, hu⟩; have HU6 := Lib.hid (HUd.out.trans hu); have HC6 := Lib.hid hu; have e0 := hu.keep _ _ _ x0; have e1 := hu.keep _ _ _ x1; have e2 := hu.keep _ _ _ x2; have e3 := hu.keep _ _ _ x3; have e4 := hu.keep _ _ _ x4; have hp6 : p < w6.heap.size := World.block_lt_of_cell? _ _ e0; clear hu x0 x1 x2 x3 x4)
    | (go_at_call 26; (with_reducible refine (KL.out _ (HSB.out.up (HC6.out.alloc _ _))).mono ?_); rintro e w7 ⟨B2, n7, k7, rfl, hn7, hO7, hu⟩; obtain ⟨A9, k9, e9, _, h9⟩ := hO7.sl; cases e9; obtain rfl : n7 = lvn := h9.1.symm.trans HLN.out; have hv := ((Up.refl w6).alloc #[.int .i64 b0, .int .i64 1, .int .i64 b1, .int .i64 1, .int .i64 b2, .int .i64 1] 37).trans hu; have HU7 := Lib.hid (HU6.out.trans hv); have f4 := hv.keep _ _ _ e4; have u0 := hu.keep w6.heap.size 0 (.int .i64 b0) (by simp [go_sem]); have u1 := hu.keep w6.heap.size 1 (.int .i64 1) (by simp [go_sem]); have u2 := hu.keep w6.heap.size 2 (.int .i64 b1) (by simp [go_sem]); have u3 := hu.keep w6.heap.size 3 (.int .i64 1) (by simp [go_sem]); have u4 := hu.keep w6.heap.size 4 (.int .i64 b2) (by simp [go_sem]); have u5 := hu.keep w6.heap.size 5 (.int .i64 1) (by simp [go_sem]); have hs7 : w6.heap.size < w7.heap.size := World.block_lt_of_cell? _ _ u0; clear hu hv hO7 h9 e0 e1 e2 e3 e4)
    | (go_at_call 25; (try rw [elv]); (with_reducible refine (KR.out _).mono ?_); rintro e w8 ⟨rfl, hu⟩; have HU8 := Lib.hid (HU7.out.trans hu); have k4 := hu.keep _ _ _ f4; have v0_ := hu.keep _ _ _ u0; have v1_ := hu.keep _ _ _ u1; have v2_ := hu.keep _ _ _ u2; have v3_ := hu.keep _ _ _ u3; have v4_ := hu.keep _ _ _ u4; have v5_ := hu.keep _ _ _ u5; clear hu f4 u0 u1 u2 u3 u4 u5))
  obtain ⟨w9, hw9⟩ : ∃ y, y = w8.alloc (.cells #[.int .i64 lv, .int .i64 1] 35) := ⟨_, rfl⟩
  rw [← hw9]
  have hu9 : Up w8 w9 := by rw [hw9]; exact (Up.refl _).alloc _ _
  have j0 : w9.cell? ⟨w8.heap.size, 0, none⟩ = some (.int .i64 lv) := by rw [hw9]; simp [go_sem]
  have j1 : w9.cell? ⟨w8.heap.size, 1, none⟩ = some (.int .i64 1) := by rw [hw9]; simp [go_sem]
  have HU9 := Lib.hid (HU8.out.trans hu9)
  obtain ⟨pb, epb⟩ : ∃ y, w6.heap.size = y := ⟨_, rfl⟩
  obtain ⟨pr, epr⟩ : ∃ y, w8.heap.size = y := ⟨_, rfl⟩
  rw [epb] at v0_ v1_ v2_ v3_ v4_ v5_
  rw [epr] at j0 j1
  have HSS : Hid (Up w w9 ∧ w9.cell? ⟨pb, 0, none⟩ = some (.int .i64 b0) ∧ w9.cell? ⟨pb, 1, none⟩ = some (.int .i64 1) ∧ w9.cell? ⟨pb, 2, none⟩ = some (.int .i64 b1) ∧ w9.cell? ⟨pb, 3, none⟩ = some (.int .i64 1) ∧ w9.cell? ⟨pb, 4, none⟩ = some (.int .i64 b2) ∧ w9.cell? ⟨pb, 5, none⟩ = some (.int .i64 1) ∧ w9.cell? ⟨pr, 0, none⟩ = some (.int .i64 lv) ∧ w9.cell? ⟨pr, 1, none⟩ = some (.int .i64 1) ∧ w9.cell? ⟨p, 4, none⟩ = some (.slice A2 X1.length k2)) := Lib.hid ⟨HU9.out, hu9.keep _ _ _ v0_, hu9.keep _ _ _ v1_, hu9.keep _ _ _ v2_, hu9.keep _ _ _ v3_, hu9.keep _ _ _ v4_, hu9.keep _ _ _ v5_, j0, j1, hu9.keep _ _ _ k4⟩
  clear hw9 hu9 v0_ v1_ v2_ v3_ v4_ v5_ j0 j1 k4
  rw [epb, epr]
  go_region_held3 (fun w' => Up w w' ∧ w'.cell? ⟨pb, 0, none⟩ = some (.int .i64 b0) ∧ w'.cell? ⟨pb, 1, none⟩ = some (.int .i64 1) ∧ w'.cell? ⟨pb, 2, none⟩ = some (.int .i64 b1) ∧ w'.cell? ⟨pb, 3, none⟩ = some (.int .i64 1) ∧ w'.cell? ⟨pb, 4, none⟩ = some (.int .i64 b2) ∧ w'.cell? ⟨pb, 5, none⟩ = some (.int .i64 1) ∧ w'.cell? ⟨pr, 0, none⟩ = some (.int .i64 lv) ∧ w'.cell? ⟨pr, 1, none⟩ = some (.int .i64 1) ∧ w'.cell? ⟨p, 4, none⟩ = some (.slice A2 X1.length k2))
    (repeat (first | (with_reducible exact HSS.out) | (with_reducible exact keepT9 (by assumption) (by assumption)) | (with_reducible exact Hid.out (by assumption)) | (with_reducible refine keepT9 (Lib.hid (Up.refl _).drew) ?_)))
    (first
      | (go_at_call 27; (with_reducible refine (KH.out _).mono ?_); rintro e y1 ⟨rfl, hu⟩; have HY1 := Lib.hid hu; have HZ1 := Lib.hid (keepT9 HY1 (by assumption)); clear hu)
      | (go_at_call 28; (with_reducible refine (KI.out _).mono ?_); rintro e y2 ⟨rfl, hu⟩; have HY2 := Lib.hid hu; have HZ2 := Lib.hid (keepT9 HY2 (by assumption)); clear hu)
      | (go_at_call 29; (with_reducible refine (KT.out _).mono ?_); rintro e y3 ⟨rfl, rfl⟩)
      | (go_at_call 11; (with_reducible refine (KA.out _).mono ?_); rintro e y4 ⟨rfl, hu⟩; have HY4 := Lib.hid hu; have HZ4 := Lib.hid (keepT9 HY4 (by assumption)); clear hu))
  clear ‹Up w _ ∧ _›
  go_wp2_with fail
  go_ret
  exact ⟨rfl, HZ4.out.1⟩

set_option maxRecDepth 100000 in
theorem countTruth_lifted (os : Os) (started : os.Started) (H : Type) (enc : TypeId × Value → H) :
    ReturnsInHanded {} Try.checked os 5 .any (Rows.countTruthSpec.pre6 enc Try.prog Try.f5 Rows.countTruthRow.domain false) (Rows.countTruthSpec.post enc Try.prog Try.f5 false true false false) := by
  refine returnsInHanded_of_change_sized (C := Try.checked) countTruth_own started (by kernel_rfl) Try.func5
    (ChangeSpec.witness6 (enc := enc) (C := Try.checked) false ⟨#[], #[.slice none 0 0, .int .i64 0, .int .i64 0, .int .i64 0, .int .i64 0], []⟩ 8 (by kernel_rfl) (by kernel_rfl) (by kernel_rfl) (by kernel_rfl)) ?_
  intro W base args ds gs before hval0 hW hcnd hsz0 _
  have hval : ∀ (j : Nat) t v, Try.f5.params[j]? = some t → args[j]? = some v → Value.okWide Try.prog W .any base t v := hval0
  have hW' := hW
  obtain ⟨p, q, hA0, hV, rfl, hfz, hnd⟩ := hW'
  have hA : DataW.TrodAll enc Try.prog W 0 (fun _ => true) true Try.f5.params.toList args.toList ds p := hA0
  rw [Try.params5] at hA hval
  obtain ⟨v0, vs0, d0, ds0, p0, q0, hargs, rfl, rfl, h0, r0⟩ := trodAll_cons hA
  obtain ⟨v1, vs1, d1, ds1, p1, q1, rfl, rfl, rfl, h1, r1⟩ := trodAll_cons r0
  obtain ⟨v2, vs2, d2, ds2, p2, q2, rfl, rfl, rfl, h2, r2⟩ := trodAll_cons r1
  obtain ⟨v3, vs3, d3, ds3, p3, q3, rfl, rfl, rfl, h3, r3⟩ := trodAll_cons r2
  obtain ⟨v4, vs4, d4, ds4, p4, q4, rfl, rfl, rfl, h4, r4⟩ := trodAll_cons r3
  obtain ⟨rfl, rfl, rfl⟩ := trodAll_nil r4
  obtain rfl : args = #[v0, v1, v2, v3, v4] := by cases args; simp_all
  obtain ⟨rfl, rfl⟩ := trodVars_none hV
  have hlt := fun x hx => hW.lt x hx
  have k0 := h0
  obtain ⟨n0, m0, A0, L0, rfl, hk0, hS0, hI0⟩ := open_items2 (hval 0 42 v0 rfl rfl) h0
  have k1 := h1
  obtain ⟨a1, rfl, rfl, rfl, w1⟩ := open_int Try.underlying2 (hval 1 2 v1 rfl rfl) h1
  have k2 := h2
  obtain ⟨a2, rfl, rfl, rfl, w2⟩ := open_int Try.underlying3 (hval 2 3 v2 rfl rfl) h2
  have k3 := h3
  obtain ⟨a3, rfl, rfl, rfl, w3⟩ := open_int Try.underlying3 (hval 3 3 v3 rfl rfl) h3
  have k4 := h4
  obtain ⟨a4, rfl, rfl, rfl, w4⟩ := open_int Try.underlying2 (hval 4 2 v4 rfl rfl) h4
  refine (countTruth_walk n0 m0 A0 L0 hk0 hI0 a1 w1 a2 w2 a3 w3 a4 w4 W hS0).mono fun e W' ⟨he, hg⟩ => ?_
  subst he
  exact ⟨_, rfl, post_of_same (pv := []) hW (fun _ _ _ => (trodAll_cons_mk (shut_bool Try.underlying4 _) trodAll_mk0)) (fun sp hsp => (trodAll_cons_mk (stay (by kernel_rfl) (of_decide_eq_true (by kernel_rfl)) k0 hg hlt (fun x hx => by first | (simp at hx; done) | simp [hx]) hsp) (trodAll_cons_mk (stay (by kernel_rfl) (of_decide_eq_true (by kernel_rfl)) k1 hg hlt (fun x hx => by first | (simp at hx; done) | simp [hx]) hsp) (trodAll_cons_mk (stay (by kernel_rfl) (of_decide_eq_true (by kernel_rfl)) k2 hg hlt (fun x hx => by first | (simp at hx; done) | simp [hx]) hsp) (trodAll_cons_mk (stay (by kernel_rfl) (of_decide_eq_true (by kernel_rfl)) k3 hg hlt (fun x hx => by first | (simp at hx; done) | simp [hx]) hsp) (trodAll_cons_mk (stay (by kernel_rfl) (of_decide_eq_true (by kernel_rfl)) k4 hg hlt (fun x hx => by first | (simp at hx; done) | simp [hx]) hsp) trodAll_mk0)))))) (fun _ _ => rfl) rfl
    (hg.grown.frame _) hg.grown.2.1 (ok_one (by kernel_rfl) rfl (okWide_bool_mk Try.underlying4 _))⟩

theorem countTruth_over : Rows.countTruthRow.holds Try.pinned (OpenSpec.ofChange Rows.countTruthSpec) :=
  OpenClaim.holds_of_wide 5 Try.f5 rfl rfl rfl rfl rfl rfl rfl ⟨rfl, rfl, rfl, rfl, rfl⟩ rfl rfl rfl rfl rfl (by kernel_rfl) Try.func5 (by kernel_rfl)
    (of_decide_eq_true (by kernel_rfl)) (by unfold Func.isWrapper; first | (rw [if_pos (by decide +kernel)]; kernel_rfl) | (rw [if_neg (by decide +kernel)]; exact ⟨rfl, rfl⟩))
    (fun os started H enc _ => countTruth_lifted os started H enc)

theorem countTruth_holds : Rows.CountTruthSaid :=
  countTruth_over
#print axioms countTruth_holds
end Go.Proofs.Ytjbgogajnjefmaa
