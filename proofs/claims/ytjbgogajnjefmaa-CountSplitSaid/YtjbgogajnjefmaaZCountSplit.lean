/- Proved: for every list of raw items, any width and any two steps the law CountSplit returns true: two steps of the clock are one step. Conditions: none. -/
import Derived.Test.YtjbgogajnjefmaaRows
import Derived.Test.YtjbgogajnjefmaaZBAtMost
import Derived.Test.YtjbgogajnjefmaaZBProduct
import Derived.Test.YtjbgogajnjefmaaZGBasem10
import Derived.Test.YtjbgogajnjefmaaZGLawm6
import Derived.Test.YtjbgogajnjefmaaZHOrdm3
import Derived.Test.YtjbgogajnjefmaaZHRVal
import Derived.Test.YtjbgogajnjefmaaZHRowm3
import Derived.Test.YtjbgogajnjefmaaZHSamem5
import Derived.Test.YtjbgogajnjefmaaZIAskm3
import Derived.Test.YtjbgogajnjefmaaZIBasem2
import Derived.Test.YtjbgogajnjefmaaZIMade
import Derived.Test.YtjbgogajnjefmaaZIMrgm2
import Derived.Test.YtjbgogajnjefmaaZIRun
import Derived.Test.YtjbgogajnjefmaaZRArithm2
import Derived.Test.YtjbgogajnjefmaaZWGcd
import Derived.Test.YtjbgogajnjefmaaZWMathm11
import Derived.Test.YtjbgogajnjefmaaZWRDiv2
import Derived.Test.YtjbgogajnjefmaaZWShortm6
namespace Go.Proofs.Ytjbgogajnjefmaa
open Go.ChangeShapes Go.WideShapes Go.ChangeAt Go.RowKit Go.Joins
set_option linter.unusedVariables false

theorem countSplit_own : ownKnob Try.prog.godebug = none := by kernel_rfl

set_option maxHeartbeats 16000000 in
set_option maxRecDepth 100000 in
theorem countSplit_walk (n k : Nat) (A : Option Addr) (L : List It) (hk : n ≤ k) (hI : InI L) (a1 : Int) (_ : (Lit.int .i64 a1).wf = true) (a2 : Int) (_ : (Lit.int .i64 a2).wf = true) (a3 : Int) (_ : (Lit.int .i64 a3).wf = true) (w : World) (hS : Sl w A n L) :
    Calls Try.prog 7 #[.slice A n k, .int .i64 a1, .int .i64 a2, .int .i64 a3] w fun e w' => e = .returned (.bool true) ∧ Up w w' := by
  have KA := Lib.hid awake11_up
  have HS := Lib.hid hS
  have KM1 := Lib.hid (fun W => modm_any a1 20 (by omega) (by omega) W)
  have KM2 := Lib.hid (fun W => modm_any a2 30 (by omega) (by omega) W)
  have KM3 := Lib.hid (fun W => modm_any a3 30 (by omega) (by omega) W)
  have r0 : 0 ≤ a1 % 20 := Int.emod_nonneg _ (by omega)
  have r1 : a1 % 20 < 20 := Int.emod_lt_of_pos _ (by omega)
  have s0 : 0 ≤ a2 % 30 := Int.emod_nonneg _ (by omega)
  have s1 : a2 % 30 < 30 := Int.emod_lt_of_pos _ (by omega)
  have t0 : 0 ≤ a3 % 30 := Int.emod_nonneg _ (by omega)
  have t1 : a3 % 30 < 30 := Int.emod_lt_of_pos _ (by omega)
  generalize a1 % 20 = rr at *
  generalize a2 % 30 = ga at *
  generalize a3 % 30 = gb at *
  obtain ⟨v, ev⟩ : ∃ v, 1 + rr = v := ⟨_, rfl⟩
  have v1 : 1 ≤ v := by omega
  have v25 : v ≤ 25 := by omega
  have hmay : mayC v 2 1000 0 = true := mayC_ok (by omega) (by omega) v1 (by omega) (by omega) (by omega) (by omega) (by omega)
  have K1 := Lib.hid (fun W => new11_yes v 2 1000 0 hmay W)
  have K2 := Lib.hid (fun W (h : Sl W A n L) => itemsJ_up n k A L v v1 v25 60 60 rfl (by omega) W h)
  have K3 := Lib.hid (fun z nm km Am M0 W (h1 : nm ≤ 60) (h2 : mdQ M0 z) (h3 : M0.length = nm) (h : Sl W Am nm M0) => run11_up v 2 1000 z nm km Am M0 hmay v25 (by omega) (by have := h2.2.1; omega) h2 W h)
  clear hS hI hmay
  go_enter Try.func7, Try.ntmps7
  go_upto_region 3 with (first
    | (go_at_call 24; (with_reducible refine (KM1.out _).mono ?_); rintro e w' ⟨rfl, rfl⟩)
    | (go_at_call 8; (with_reducible refine (K1.out _).mono ?_); rintro e w1 ⟨rfl, hu⟩; have HU1 := Lib.hid hu; clear hu))
  have hp : w.heap.size ≤ w1.heap.size := HU1.out.size
  obtain ⟨w2, hw2⟩ : ∃ y, y = w1.alloc (.cells #[.int .i64 v, .int .i64 2, .int .i64 1000, .int .i64 0, .slice none 0 0] 24) := ⟨_, rfl⟩
  rw [← hw2]
  have HU2 : Hid (Up w w2) := Lib.hid (by rw [hw2]; exact HU1.out.alloc _ _)
  obtain ⟨c0, c1_, c2, c3, c4⟩ : w2.cell? ⟨w1.heap.size, 0, none⟩ = some (.int .i64 v) ∧ w2.cell? ⟨w1.heap.size, 1, none⟩ = some (.int .i64 2) ∧ w2.cell? ⟨w1.heap.size, 2, none⟩ = some (.int .i64 1000) ∧ w2.cell? ⟨w1.heap.size, 3, none⟩ = some (.int .i64 0) ∧ w2.cell? ⟨w1.heap.size, 4, none⟩ = some (.slice none 0 0) := by rw [hw2]; simp [go_sem]
  clear hw2
  generalize w1.heap.size = p at *
  have hpl : p < w2.heap.size := World.block_lt_of_cell? _ _ c0
  go_cut [11, 12] (fun s t wx => ∃ (now : Int) (X M : List It) (A1 B : Option Addr) (k1 kb : Nat), s = .slice B M.length kb ∧ t = .bool true ∧ Hid (Vc wx p v 2 1000 now X M A1 k1 ∧ 0 ≤ now ∧ now ≤ 10200 ∧ Up w wx))
  case first =>
    go_region_with (first
      | (go_at_call 23; (with_reducible refine (K2.out _ (HS.out.up HU2.out.drew)).mono ?_); rintro e w3 ⟨Am, nm, km, M0, z, rfl, hnm, hP, hO, hu⟩; obtain ⟨A9, k9, e9, _, h9⟩ := hO.sl; cases e9; have HP := Lib.hid hP; have HSM := Lib.hid h9; have HLM := Lib.hid h9.1; clear h9; have HU3 := Lib.hid (HU2.out.drew.trans hu); have d0 := hu.keep _ _ _ c0; have d1 := hu.keep _ _ _ c1_; have d2 := hu.keep _ _ _ c2; have d3 := hu.keep _ _ _ c3; have d4 := hu.keep _ _ _ c4; clear hu hP hO)
      | (go_at_call 22; (with_reducible refine (K3.out z nm km Am M0 _ hnm HP.out HLM.out HSM.out).mono ?_); rintro e w4 ⟨now, X, M, A1, B1, k1, kb, rfl, hH, hnz, hml, hk1, hA, hB, hSX, hSM, hu⟩; have HU4 := Lib.hid (HU3.out.trans hu); have HH := Lib.hid hH; have HA := Lib.hid hA; have HSX := Lib.hid hSX; have g0 := hu.keep _ _ _ d0; have g1 := hu.keep _ _ _ d1; have g2 := hu.keep _ _ _ d2; have g3 := hu.keep _ _ _ d3; have g4 := hu.keep _ _ _ d4; have hpl3 : p < w3.heap.size := World.block_lt_of_cell? _ _ d0; have z0 := HU4.out.ownGe (g := p) hp 0; have z1 := HU4.out.ownGe (g := p) hp 1; have z2 := HU4.out.ownGe (g := p) hp 2; have z3 := HU4.out.ownGe (g := p) hp 3; have z4 := HU4.out.ownGe (g := p) hp 4; clear hu hA hB hSX hSM))
    all_goals
      go_wp2_with fail
      go_meet
      refine ⟨now, X, M, A1, B1, k1, kb, rfl, rfl, Lib.hid ⟨Vc.put g0 g1 g2 g3 g4 HH.out HSX.out (HA.out.off (by omega)) hk1, ?_, ?_, HU4.out.set5 hp⟩⟩
      · have := (mayC_facts (stC_true HH.out.st).1).1.1; exact this
      · have h1 := HP.out.2.1
        have := HLM.out
        omega
  case rest =>
  obtain ⟨now, X, M, A1, B1, k1, kb, rfl, rfl, HX⟩ := hcut
  have n0 := HX.out.2.1
  have n1 := HX.out.2.2.1
  have HUc := Lib.hid HX.out.2.2.2
  have HV := Lib.hid HX.out.1
  have hs1 := HX.out.1.hs.adv (td := now + ga) (by omega) (by omega)
  have hs2 := hs1.adv (td := now + ga + gb) (by omega) (by omega)
  have e23 : exL (exL X (firZ (now + ga) v)) (firZ (now + ga + gb) v) = exL X (firZ (now + ga + gb) v) := exL_two (by
    have h1 : (tickB (now + ga) && winB v) = true := by rw [tickB_yes (by omega) (by omega), winB_yes v1 (by omega)]; rfl
    have h2 : (tickB (now + ga + gb) && winB v) = true := by rw [tickB_yes (by omega) (by omega), winB_yes v1 (by omega)]; rfl
    rw [firZ_yes h1, firZ_yes h2]
    omega) X
  have KB1 := Lib.hid (fun W (hu : Up wc W) => advV (td := now + ga) HX.out.1.hs HX.out.1.sl HX.out.1.cap hu (by omega) (by omega))
  have KB2 := Lib.hid (fun W A k (sl : Sl W A (exL X (firZ (now + ga) v)).length (exL X (firZ (now + ga) v))) (cap : (exL X (firZ (now + ga) v)).length ≤ k) => advV (td := now + ga + gb) hs1 sl cap (Up.refl W) (by omega) (by omega))
  have KB3 := Lib.hid (fun W (hu : Up wc W) => advV (td := now + ga + gb) HX.out.1.hs HX.out.1.sl HX.out.1.cap hu (by omega) (by omega))
  rw [e23] at hs2 KB2
  clear e23 HX
  generalize exL X (firZ (now + ga) v) = X1 at *
  generalize exL X (firZ (now + ga + gb) v) = X2 at *
  have hfw : X2.length ≤ 50000 := by have := stC_few hs2.st; omega
  have KS := Lib.hid (fun W A2 A3 k2 k3 (hA : Sl W A2 X2.length X2) (hB : Sl W A3 X2.length X2) => same11_t v 2 1000 (now + ga + gb) X2.length k2 k3 A2 A3 X2 (by omega) W hA hB)
  have H2 := Lib.hid hs2
  have w5_ : IntKind.i64.wrap (now + ga) = now + ga := IntWalk.i64_in _ (by omega)
  have w6_ : IntKind.i64.wrap (now + ga + gb) = now + ga + gb := IntWalk.i64_in _ (by omega)
  clear hs1 hs2 K1 K2 K3 HS
  have x0 := HV.out.c0
  have x1 := HV.out.c1
  have x2 := HV.out.c2
  have x3 := HV.out.c3
  have x4 := HV.out.c4
  have hpc : p < wc.heap.size := HV.out.lt
  go_upto_region 9 with (first
    | (go_at_call 24; (with_reducible refine (KM2.out _).mono ?_); rintro e w' ⟨rfl, rfl⟩)
    | (go_at_call 24; (with_reducible refine (KM3.out _).mono ?_); rintro e w' ⟨rfl, rfl⟩)
    | (go_at_call 13; (with_reducible refine (KB1.out _ (Up.refl _)).mono ?_); rintro e wa ⟨Ay, ky, rfl, hcy, hny, hsy, _, hu⟩; have HVa := Lib.hid (HV.out.up hu); have HUa := Lib.hid (HUc.out.trans hu); have HCa := Lib.hid hu; have HSY := Lib.hid hsy; have hsa : wc.heap.size ≤ wa.heap.size := hu.size; clear hu hsy hny)
    | (go_at_call 13; (with_reducible refine (KB2.out _ Ay ky (HSY.out.up ((Up.refl _).alloc _ _)) hcy).mono ?_); rintro e wb ⟨A2, k2, rfl, hc2, hn2, hs2, _, hu⟩; have hv := ((Up.refl wa).alloc #[.int .i64 v, .int .i64 2, .int .i64 1000, .int .i64 (now + ga), .slice Ay X1.length ky] 24).trans hu; have HVb := Lib.hid (HVa.out.up hv); have HUb := Lib.hid (HUa.out.trans hv); have HCb := Lib.hid (HCa.out.trans hv); have HS2 := Lib.hid hs2; have HN2 := Lib.hid (hn2.off (p := wa.heap.size) (by simp)); have m0 := hu.keep wa.heap.size 0 (.int .i64 v) (by simp [go_sem]); have m1 := hu.keep wa.heap.size 1 (.int .i64 2) (by simp [go_sem]); have m2 := hu.keep wa.heap.size 2 (.int .i64 1000) (by simp [go_sem]); have m3 := hu.keep wa.heap.size 3 (.int .i64 (now + ga)) (by simp [go_sem]); have m4 := hu.keep wa.heap.size 4 (.slice Ay X1.length ky) (by simp [go_sem]); have z0 := HUb.out.ownGe (g := wa.heap.size) HUa.out.size 0; have z1 := HUb.out.ownGe (g := wa.heap.size) HUa.out.size 1; have z2 := HUb.out.ownGe (g := wa.heap.size) HUa.out.size 2; have z3 := HUb.out.ownGe (g := wa.heap.size) HUa.out.size 3; have z4 := HUb.out.ownGe (g := wa.heap.size) HUa.out.size 4; have hlb : wa.heap.size < wb.heap.size := World.block_lt_of_cell? _ _ m0; clear hu hv hs2 hn2))
  obtain ⟨w9, hw9⟩ : ∃ y, y = ((((wb.setCell ⟨wa.heap.size, 0, none⟩ (.int .i64 v)).setCell ⟨wa.heap.size, 1, none⟩ (.int .i64 2)).setCell ⟨wa.heap.size, 2, none⟩ (.int .i64 1000)).setCell ⟨wa.heap.size, 3, none⟩ (.int .i64 (now + ga + gb))).setCell ⟨wa.heap.size, 4, none⟩ (.slice A2 X2.length k2) := ⟨_, rfl⟩
  rw [← hw9]
  have HVx : Hid (Vc w9 p v 2 1000 now X M A1 k1) := Lib.hid (by
    rw [hw9]
    rcases Nat.eq_zero_or_pos X.length with h0 | h0
    · exact ⟨far5 HVb.out.c0 (by omega), far5 HVb.out.c1 (by omega), far5 HVb.out.c2 (by omega), far5 HVb.out.c3 (by omega), far5 HVb.out.c4 (by omega), HVb.out.hs, ⟨HVb.out.sl.1, fun h => absurd h (by omega)⟩, HVb.out.off, HVb.out.cap⟩
    · obtain ⟨b, o, e, hb⟩ := HV.out.sl.out h0
      exact HVb.out.far (by omega) (fun b' o' e' => by rw [e] at e'; injection e' with e'; injection e' with e1 e2; omega) _ _ _ _ _)
  have HVy : Hid (Vc w9 wa.heap.size v 2 1000 (now + ga + gb) X2 M A2 k2) := Lib.hid (by rw [hw9]; exact Vc.put m0 m1 m2 m3 m4 H2.out HS2.out HN2.out hc2)
  have HU9 : Hid (Up w w9) := Lib.hid (by rw [hw9]; exact HUb.out.set5 HUa.out.size)
  have HC9 : Hid (Up wc w9) := Lib.hid (by rw [hw9]; exact HCb.out.set5 hsa)
  clear hw9 x0 x1 x2 x3 x4 m0 m1 m2 m3 m4 HVb HVa HS2 HSY z0 z1 z2 z3 z4
  have x0 := HVx.out.c0
  have x1 := HVx.out.c1
  have x2 := HVx.out.c2
  have x3 := HVx.out.c3
  have x4 := HVx.out.c4
  have y0 := HVy.out.c0
  have y1 := HVy.out.c1
  have y2 := HVy.out.c2
  have y3 := HVy.out.c3
  have y4 := HVy.out.c4
  have hl9 : wa.heap.size < w9.heap.size := HVy.out.lt
  generalize wa.heap.size = py at *
  go_wp2_with (first
    | (go_at_call 13; (with_reducible refine (KB3.out _ HC9.out).mono ?_); rintro e wd ⟨A3, k3, rfl, hc3, hn3, hs3, _, hu⟩; have HUd := Lib.hid (HU9.out.trans hu); have HSY := Lib.hid (HVy.out.up hu); have HS3 := Lib.hid hs3; have u0 := hu.keep _ _ _ y0; have u1 := hu.keep _ _ _ y1; have u2 := hu.keep _ _ _ y2; have u3 := hu.keep _ _ _ y3; have u4 := hu.keep _ _ _ y4; have hld : py < wd.heap.size := World.block_lt_of_cell? _ _ u0; clear hu hs3 hn3 y0 y1 y2 y3 y4)
    | (go_at_call 10; (with_reducible refine (KS.out _ A2 A3 k2 k3 (HSY.out.sl.up ((Up.refl _).alloc _ _)) (HS3.out.up ((Up.refl _).alloc _ _))).mono ?_); rintro e we ⟨rfl, hu⟩; have HUe := Lib.hid ((HUd.out.alloc _ _).trans hu); clear hu)
    | (go_at_call 11; (with_reducible refine (KA.out _).mono ?_); rintro e wf ⟨rfl, hu⟩; have HUf := Lib.hid (HUe.out.trans hu); clear hu))
  go_ret
  exact ⟨rfl, HUf.out⟩

set_option maxRecDepth 100000 in
theorem countSplit_lifted (os : Os) (started : os.Started) (H : Type) (enc : TypeId × Value → H) :
    ReturnsInHanded {} Try.checked os 7 .any (Rows.countSplitSpec.pre6 enc Try.prog Try.f7 Rows.countSplitRow.domain false) (Rows.countSplitSpec.post enc Try.prog Try.f7 false true false false) := by
  refine returnsInHanded_of_change_sized (C := Try.checked) countSplit_own started (by kernel_rfl) Try.func7
    (ChangeSpec.witness6 (enc := enc) (C := Try.checked) false ⟨#[], #[.slice none 0 0, .int .i64 0, .int .i64 0, .int .i64 0], []⟩ 8 (by kernel_rfl) (by kernel_rfl) (by kernel_rfl) (by kernel_rfl)) ?_
  intro W base args ds gs before hval0 hW hcnd hsz0 _
  have hval : ∀ (j : Nat) t v, Try.f7.params[j]? = some t → args[j]? = some v → Value.okWide Try.prog W .any base t v := hval0
  have hW' := hW
  obtain ⟨p, q, hA0, hV, rfl, hfz, hnd⟩ := hW'
  have hA : DataW.TrodAll enc Try.prog W 0 (fun _ => true) true Try.f7.params.toList args.toList ds p := hA0
  rw [Try.params7] at hA hval
  obtain ⟨v0, vs0, d0, ds0, p0, q0, hargs, rfl, rfl, h0, r0⟩ := trodAll_cons hA
  obtain ⟨v1, vs1, d1, ds1, p1, q1, rfl, rfl, rfl, h1, r1⟩ := trodAll_cons r0
  obtain ⟨v2, vs2, d2, ds2, p2, q2, rfl, rfl, rfl, h2, r2⟩ := trodAll_cons r1
  obtain ⟨v3, vs3, d3, ds3, p3, q3, rfl, rfl, rfl, h3, r3⟩ := trodAll_cons r2
  obtain ⟨rfl, rfl, rfl⟩ := trodAll_nil r3
  obtain rfl : args = #[v0, v1, v2, v3] := by cases args; simp_all
  obtain ⟨rfl, rfl⟩ := trodVars_none hV
  have hlt := fun x hx => hW.lt x hx
  have k0 := h0
  obtain ⟨n0, m0, A0, L0, rfl, hk0, hS0, hI0⟩ := open_items2 (hval 0 42 v0 rfl rfl) h0
  have k1 := h1
  obtain ⟨a1, rfl, rfl, rfl, w1⟩ := open_int Try.underlying2 (hval 1 2 v1 rfl rfl) h1
  have k2 := h2
  obtain ⟨a2, rfl, rfl, rfl, w2⟩ := open_int Try.underlying2 (hval 2 2 v2 rfl rfl) h2
  have k3 := h3
  obtain ⟨a3, rfl, rfl, rfl, w3⟩ := open_int Try.underlying2 (hval 3 2 v3 rfl rfl) h3
  refine (countSplit_walk n0 m0 A0 L0 hk0 hI0 a1 w1 a2 w2 a3 w3 W hS0).mono fun e W' ⟨he, hg⟩ => ?_
  subst he
  exact ⟨_, rfl, post_of_same (pv := []) hW (fun _ _ _ => (trodAll_cons_mk (shut_bool Try.underlying4 _) trodAll_mk0)) (fun sp hsp => (trodAll_cons_mk (stay (by kernel_rfl) (of_decide_eq_true (by kernel_rfl)) k0 hg hlt (fun x hx => by first | (simp at hx; done) | simp [hx]) hsp) (trodAll_cons_mk (stay (by kernel_rfl) (of_decide_eq_true (by kernel_rfl)) k1 hg hlt (fun x hx => by first | (simp at hx; done) | simp [hx]) hsp) (trodAll_cons_mk (stay (by kernel_rfl) (of_decide_eq_true (by kernel_rfl)) k2 hg hlt (fun x hx => by first | (simp at hx; done) | simp [hx]) hsp) (trodAll_cons_mk (stay (by kernel_rfl) (of_decide_eq_true (by kernel_rfl)) k3 hg hlt (fun x hx => by first | (simp at hx; done) | simp [hx]) hsp) trodAll_mk0))))) (fun _ _ => rfl) rfl
    (hg.grown.frame _) hg.grown.2.1 (ok_one (by kernel_rfl) rfl (okWide_bool_mk Try.underlying4 _))⟩

theorem countSplit_over : Rows.countSplitRow.holds Try.pinned (OpenSpec.ofChange Rows.countSplitSpec) :=
  OpenClaim.holds_of_wide 7 Try.f7 rfl rfl rfl rfl rfl rfl rfl ⟨rfl, rfl, rfl, rfl, rfl⟩ rfl rfl rfl rfl rfl (by kernel_rfl) Try.func7 (by kernel_rfl)
    (of_decide_eq_true (by kernel_rfl)) (by unfold Func.isWrapper; first | (rw [if_pos (by decide +kernel)]; kernel_rfl) | (rw [if_neg (by decide +kernel)]; exact ⟨rfl, rfl⟩))
    (fun os started H enc _ => countSplit_lifted os started H enc)

theorem countSplit_holds : Rows.CountSplitSaid :=
  countSplit_over
#print axioms countSplit_holds
end Go.Proofs.Ytjbgogajnjefmaa
