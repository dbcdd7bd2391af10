/- Proved: for every three lists of raw items and any number the law SpreadLater returns true: a suffix that is close to a longer one stays within the K-th part of its spread, whatever items follow. Conditions: none. -/
import Derived.Test.YtafkoddgefcpnabRows
import Derived.Test.YtafkoddgefcpnabZLLateq95
import Derived.Test.YtafkoddgefcpnabZLValq96
namespace Go.Proofs.Ytafkoddgefcpnab
open Go.ChangeShapes Go.WideShapes Go.ChangeAt Go.RowKit Go.Joins
set_option linter.unusedVariables false

theorem spreadLater_own : ownKnob Try.prog.godebug = none := by kernel_rfl

set_option maxHeartbeats 16000000 in
set_option maxRecDepth 100000 in
theorem spreadLater_walk (n k : Nat) (A : Option Addr) (L : List It) (hk : n ≤ k) (hI : InI L) (n2 k2 : Nat) (A2 : Option Addr) (L2 : List It) (hk2 : n2 ≤ k2) (hI2 : InI L2) (n3 k3 : Nat) (A3 : Option Addr) (L3 : List It) (hk3 : n3 ≤ k3) (hI3 : InI L3) (a3 : Int) (_ : (Lit.int .i64 a3).wf = true) (w : World) (hS : Sl w A n L) (hS2 : Sl w A2 n2 L2) (hS3 : Sl w A3 n3 L3) :
    Calls Try.prog 3 #[.slice A n k, .slice A2 n2 k2, .slice A3 n3 k3, .int .i64 a3] w fun e w' => e = .returned (.bool true) ∧ Up w w' := by
  have KA := Lib.hid awake14_up
  have HS := Lib.hid hS
  have HS2 := Lib.hid hS2
  have HS3 := Lib.hid hS3
  have KM := Lib.hid (fun W => int_any a3 4 (by omega) (by omega) W)
  have r0 : 0 ≤ a3 % 4 := Int.emod_nonneg _ (by omega)
  have r1 : a3 % 4 < 4 := Int.emod_lt_of_pos _ (by omega)
  generalize a3 % 4 = rr at *
  obtain ⟨q, eq_⟩ : ∃ q, 1 + rr = q := ⟨_, rfl⟩
  have q1 : 1 ≤ q := by omega
  have q4 : q ≤ 4 := by omega
  have K1 := Lib.hid (fun W (h : Sl W A2 n2 L2) => values_up n2 k2 A2 L2 60 60 rfl (by omega) W h)
  have K2 := Lib.hid (fun W (h : Sl W A n L) => values_up n k A L 8 8 rfl (by omega) W h)
  have K3 := Lib.hid (fun W (h : Sl W A3 n3 L3) => values_up n3 k3 A3 L3 60 60 rfl (by omega) W h)
  clear hS hS2 hS3 hI hI2 hI3
  go_enter Try.func3, Try.ntmps3
  go_upto_region 3 with (first
    | (go_at_call 4; (with_reducible refine (KM.out _).mono ?_); rintro e w' ⟨rfl, rfl⟩)
    | (go_at_call 5; (with_reducible refine (K1.out _ HS2.out).mono ?_); rintro e w1 ⟨Ab, nb, kb, B, rfl, hnb, hvB, hO, hu⟩; have HU1 := Lib.hid hu; obtain ⟨A9, k9, e9, hkb, h9⟩ := hO.sl; cases e9; have HB1 := Lib.hid h9; have HVB := Lib.hid hvB; clear hu hO h9 hvB))
  go_upto_region 4 with (first
    | (go_at_call 5; (with_reducible refine (K2.out _ (HS.out.up HU1.out)).mono ?_); rintro e w2 ⟨Ad, nd, kd, D, rfl, hnd, hvD, hO, hu⟩; have HB2 := Lib.hid (HB1.out.up hu); obtain ⟨vA, w3, hr, hO3, hu3⟩ := append_run 22 w1 w2 (.slice Ad nd kd) nd D hO hu Ab nb kb B HB2.out (by omega); have hnD := hO.sl; obtain ⟨A8, k8, e8, _, hSD⟩ := hnD; cases e8; have hlD := hSD.1; clear hSD; obtain ⟨Aa, ka, rfl, hka, hSA⟩ := hO3.sl; have HA3 := Lib.hid hSA; have HVD := Lib.hid hvD; have HU3 := Lib.hid (HU1.out.trans hu3); have HB3 := Lib.hid (HB1.out.up hu3); clear hu hO hO3 hu3 hSA hvD)
    | (refine wpList_append_run (o := ⟨some 22, _, _, _, _, _⟩) rfl (.tmp 20) (.tmp 21) _ rfl _ _ rfl rfl _ _ hr ?_))
  have hlB := HB3.out.1
  have hlA := HA3.out.1
  obtain ⟨na, ena⟩ : ∃ x, nd + nb = x := ⟨_, rfl⟩
  rw [ena] at HA3 hlA hka
  rw [ena]
  have hna : na ≤ 68 := by omega
  clear hr ena
  have KMa := Lib.hid (fun W (hu : Up w3 W) => mark14_up na ka Aa (D ++ B) (by omega) (HVD.out.app HVB.out) W (HA3.out.up hu))
  have KMb := Lib.hid (fun W (hu : Up w3 W) => mark14_up nb kb Ab B (by omega) HVB.out W (HB3.out.up hu))
  by_cases h0 : nb = 0
  case pos =>
    have z0 : ((nb : Int) == 0) = true := by simp; omega
    clear h0 KMa KMb K3 K2 K1
    go_wp2_with (go_at_call 8; (with_reducible refine (KA.out _).mono ?_); rintro e w4 ⟨rfl, hu⟩; have HU4 := Lib.hid (HU3.out.trans hu); clear hu)
    go_ret
    exact ⟨rfl, HU4.out⟩
  have z0 : ((nb : Int) == 0) = false := by simp; omega
  have hB0 : B ≠ [] := fun h => h0 (by rw [← hlB, h]; rfl)
  have HW := Lib.hid (fun (C : List It) (hC : vlQ C) (hlC : C.length ≤ 60) h => late_wi (k := q) ⟨q1, q4⟩ HVD.out HVB.out hC hB0 hlA hlB (by omega) hlC h)
  clear h0 hB0
  have KC := Lib.hid (close14_up 1 0 na (suL ((D ++ B).map (fun x => x.2))) (sqL ((D ++ B).map (fun x => x.2))) (mnL ((D ++ B).map (fun x => x.2))) (mxL ((D ++ B).map (fun x => x.2))) 1 0 nb (suL (B.map (fun x => x.2))) (sqL (B.map (fun x => x.2))) (mnL (B.map (fun x => x.2))) (mxL (B.map (fun x => x.2))) q)
  generalize suL ((D ++ B).map (fun x => x.2)) = g1 at *
  generalize sqL ((D ++ B).map (fun x => x.2)) = g2 at *
  generalize mnL ((D ++ B).map (fun x => x.2)) = g3 at *
  generalize mxL ((D ++ B).map (fun x => x.2)) = g4 at *
  generalize suL (B.map (fun x => x.2)) = j1 at *
  generalize sqL (B.map (fun x => x.2)) = j2 at *
  generalize mnL (B.map (fun x => x.2)) = j3 at *
  generalize mxL (B.map (fun x => x.2)) = j4 at *
  generalize hcl : clQ q ⟨1, 0, na, g1, g2, g3, g4⟩ ⟨1, 0, nb, j1, j2, j3, j4⟩ = cl at *
  cases cl with
  | false =>
    clear HW hcl K3 K2 K1
    go_wp2_with (first
      | (go_at_call 7; (with_reducible refine (KMa.out _ (Up.refl _)).mono ?_); rintro e w4 ⟨rfl, hu⟩; have HC4 := Lib.hid hu; clear hu)
      | (go_at_call 7; (with_reducible refine (KMb.out _ HC4.out).mono ?_); rintro e w5 ⟨rfl, hu⟩; have HC5 := Lib.hid (HC4.out.trans hu); clear hu)
      | (go_at_call 6; (with_reducible refine (KC.out _).mono ?_); rintro e w6 ⟨rfl, hu⟩; have HC6 := Lib.hid (HC5.out.trans hu); clear hu)
      | (go_at_call 8; (with_reducible refine (KA.out _).mono ?_); rintro e w7 ⟨rfl, hu⟩; have HU7 := Lib.hid (HU3.out.trans (HC6.out.trans hu)); clear hu))
    go_ret
    exact ⟨rfl, HU7.out⟩
  | true =>
    have HW2 := Lib.hid (fun C hC hlC => HW.out C hC hlC rfl)
    clear HW hcl
    go_upto_region 7 with (first
      | (go_at_call 7; (with_reducible refine (KMa.out _ (Up.refl _)).mono ?_); rintro e w4 ⟨rfl, hu⟩; have HC4 := Lib.hid hu; clear hu)
      | (go_at_call 7; (with_reducible refine (KMb.out _ HC4.out).mono ?_); rintro e w5 ⟨rfl, hu⟩; have HC5 := Lib.hid (HC4.out.trans hu); clear hu)
      | (go_at_call 6; (with_reducible refine (KC.out _).mono ?_); rintro e w6 ⟨rfl, hu⟩; have HC6 := Lib.hid (HC5.out.trans hu); clear hu)
      | (go_at_call 5; (with_reducible refine (K3.out _ (HS3.out.up (HU3.out.trans HC6.out))).mono ?_); rintro e w7 ⟨Ac, nc, kc, C, rfl, hnc, hvC, hO, hu⟩; have HC7 := Lib.hid (HC6.out.trans hu); obtain ⟨A9, k9, e9, hkc, h9⟩ := hO.sl; cases e9; have HC := Lib.hid h9; have HVC := Lib.hid hvC; clear hu hO h9 hvC))
    have hlC := HC.out.1
    have HA7 := Lib.hid (HA3.out.up HC7.out)
    have HB7 := Lib.hid (HB3.out.up HC7.out)
    have HU7 := Lib.hid (HU3.out.trans HC7.out)
    have HF1 := Lib.hid (((HVD.out.app HVB.out).app HVC.out).few (by rw [List.length_append]; omega))
    have HF2 := Lib.hid ((HVB.out.app HVC.out).few (by rw [List.length_append]; omega))
    obtain ⟨hwi, hy1, hy2, hx1, hx2, _, _⟩ := HW2.out C HVC.out (by omega)
    have hq : In q := by unfold In; omega
    have KW := Lib.hid (fun W => within_up (sprN (B ++ C)) (sprD (B ++ C)) (sprN (B ++ C)) (sprD (B ++ C)) (sprN (D ++ B ++ C)) (sprD (D ++ B ++ C)) q (sprN (B ++ C)) (sprD (B ++ C)) hy1 hy2 hy1 hy2 hx1 hx2 hq hy1 hy2 W)
    rw [hwi] at KW
    clear hwi hy1 hy2 hx1 hx2 hq HW2 KC KMa KMb K1 K2 K3 KM
    obtain ⟨v8, w8, hr8, hO8, hu8⟩ := append0_run 22 w7 (w7.alloc (.cells #[] 40)) w7.heap.size (own_empty' rfl (Nat.le_refl _)) ((Up.refl _).alloc _ _) Aa na ka (D ++ B) (HA7.out.up ((Up.refl _).alloc _ _)) (by omega)
    obtain ⟨A8, k8, rfl, _, _⟩ := hO8.sl
    have hu8b : Up w7 w8 := ((Up.refl w7).alloc #[] 40).trans hu8
    obtain ⟨v9, w9, hr9, hO9, hu9⟩ := append_run 22 w7 w8 (.slice A8 na k8) na (D ++ B) hO8 hu8b Ac nc kc C (HC.out.up hu8b) (by omega)
    obtain ⟨A9, k9, rfl, _, hS9⟩ := hO9.sl
    have KS := Lib.hid (rspread_up (na + nc) k9 A9 (D ++ B ++ C) HF1.out w9 hS9)
    have HC9 := Lib.hid hu9
    clear hO8 hu8 hu8b hO9 hu9 hS9
    generalize sprN (D ++ B ++ C) = xn at *
    generalize sprD (D ++ B ++ C) = xd at *
    go_upto_region 8 with (first
      | (refine wpList_append_run (o := ⟨some 40, _, _, _, _, _⟩) rfl (.tmp 38) (.tmp 39) _ rfl _ _ rfl rfl _ _ hr8 ?_)
      | (refine wpList_append_run (o := ⟨some 42, _, _, _, _, _⟩) rfl (.tmp 40) (.tmp 41) _ rfl _ _ rfl rfl _ _ hr9 ?_)
      | (go_at_call 9; (with_reducible refine KS.out.mono ?_); rintro e w10 ⟨rfl, hu⟩; have HC10 := Lib.hid (HC9.out.trans hu); clear hu))
    obtain ⟨w11, hw11⟩ : ∃ y, y = w10.alloc (.cells #[.int .i64 xn, .int .i64 xd] 31) := ⟨_, rfl⟩
    rw [← hw11]
    have HC11 : Hid (Up w7 w11) := Lib.hid (by rw [hw11]; exact HC10.out.alloc _ _)
    obtain ⟨x0, x1⟩ : w11.cell? ⟨w10.heap.size, 0, none⟩ = some (.int .i64 xn) ∧ w11.cell? ⟨w10.heap.size, 1, none⟩ = some (.int .i64 xd) := by rw [hw11]; simp [go_sem]
    clear hw11 hr8 hr9 KS HC9 HC10
    generalize w10.heap.size = p at *
    have HB11 := Lib.hid (HB7.out.up HC11.out)
    have HCC := Lib.hid (HC.out.up HC11.out)
    obtain ⟨v8, w12, hr8, hO8, hu8⟩ := append0_run 22 w11 (w11.alloc (.cells #[] 40)) w11.heap.size (own_empty' rfl (Nat.le_refl _)) ((Up.refl _).alloc _ _) Ab nb kb B (HB11.out.up ((Up.refl _).alloc _ _)) (by omega)
    obtain ⟨A8, k8, rfl, _, _⟩ := hO8.sl
    have hu8b : Up w11 w12 := ((Up.refl w11).alloc #[] 40).trans hu8
    obtain ⟨v9, w13, hr9, hO9, hu9⟩ := append_run 22 w11 w12 (.slice A8 nb k8) nb B hO8 hu8b Ac nc kc C (HCC.out.up hu8b) (by omega)
    obtain ⟨A9, k9, rfl, _, hS9⟩ := hO9.sl
    have KS := Lib.hid (rspread_up (nb + nc) k9 A9 (B ++ C) HF2.out w13 hS9)
    have HC13 := Lib.hid hu9
    clear hO8 hu8 hu8b hO9 hu9 hS9
    generalize sprN (B ++ C) = yn at *
    generalize sprD (B ++ C) = yd at *
    go_upto_region 9 with (first
      | (refine wpList_append_run (o := ⟨some 46, _, _, _, _, _⟩) rfl (.tmp 44) (.tmp 45) _ rfl _ _ rfl rfl _ _ hr8 ?_)
      | (refine wpList_append_run (o := ⟨some 48, _, _, _, _, _⟩) rfl (.tmp 46) (.tmp 47) _ rfl _ _ rfl rfl _ _ hr9 ?_)
      | (go_at_call 9; (with_reducible refine KS.out.mono ?_); rintro e w14 ⟨rfl, hu⟩; have HC14 := Lib.hid (HC13.out.trans hu); clear hu))
    obtain ⟨w15, hw15⟩ : ∃ y, y = w14.alloc (.cells #[.int .i64 yn, .int .i64 yd] 31) := ⟨_, rfl⟩
    rw [← hw15]
    have HC15 : Hid (Up w11 w15) := Lib.hid (by rw [hw15]; exact HC14.out.alloc _ _)
    obtain ⟨y0, y1⟩ : w15.cell? ⟨w14.heap.size, 0, none⟩ = some (.int .i64 yn) ∧ w15.cell? ⟨w14.heap.size, 1, none⟩ = some (.int .i64 yd) := by rw [hw15]; simp [go_sem]
    have u0 := HC15.out.keep _ _ _ x0
    have u1 := HC15.out.keep _ _ _ x1
    clear hw15 hr8 hr9 KS HC13 HC14 x0 x1
    generalize w14.heap.size = p2 at *
    have HU15 := Lib.hid (HU7.out.trans (HC11.out.trans HC15.out))
    go_wp2_with (first
      | (go_at_call 10; (with_reducible refine (KW.out _).mono ?_); rintro e w16 ⟨rfl, hu⟩; have HU16 := Lib.hid (HU15.out.trans hu); clear hu)
      | (go_at_call 8; (with_reducible refine (KA.out _).mono ?_); rintro e w17 ⟨rfl, hu⟩; have HU17 := Lib.hid (HU16.out.trans hu); clear hu))
    go_ret
    exact ⟨rfl, HU17.out⟩

set_option maxRecDepth 100000 in
theorem spreadLater_lifted (os : Os) (started : os.Started) (H : Type) (enc : TypeId × Value → H) :
    ReturnsInHanded {} Try.checked os 3 .any (Rows.spreadLaterSpec.pre6 enc Try.prog Try.f3 Rows.spreadLaterRow.domain false) (Rows.spreadLaterSpec.post enc Try.prog Try.f3 false true false false) := by
  refine returnsInHanded_of_change_sized (C := Try.checked) spreadLater_own started (by kernel_rfl) Try.func3
    (ChangeSpec.witness6 (enc := enc) (C := Try.checked) false ⟨#[], #[.slice none 0 0, .slice none 0 0, .slice none 0 0, .int .i64 0], []⟩ 8 (by kernel_rfl) (by kernel_rfl) (by kernel_rfl) (by kernel_rfl)) ?_
  intro W base args ds gs before hval0 hW hcnd hsz0 _
  have hval : ∀ (j : Nat) t v, Try.f3.params[j]? = some t → args[j]? = some v → Value.okWide Try.prog W .any base t v := hval0
  have hW' := hW
  obtain ⟨p, q, hA0, hV, rfl, hfz, hnd⟩ := hW'
  have hA : DataW.TrodAll enc Try.prog W 0 (fun _ => true) true Try.f3.params.toList args.toList ds p := hA0
  rw [Try.params3] at hA hval
  obtain ⟨v0, vs0, d0, ds0, p0, q0, hargs, rfl, rfl, h0, r0⟩ := trodAll_cons hA
  obtain ⟨v1, vs1, d1, ds1, p1, q1, rfl, rfl, rfl, h1, r1⟩ := trodAll_cons r0
  obtain ⟨v2, vs2, d2, ds2, p2, q2, rfl, rfl, rfl, h2, r2⟩ := trodAll_cons r1
  obtain ⟨v3, vs3, d3, ds3, p3, q3, rfl, rfl, rfl, h3, r3⟩ := trodAll_cons r2
  obtain ⟨rfl, rfl, rfl⟩ := trodAll_nil r3
  obtain rfl : args = #[v0, v1, v2, v3] := by cases args; simp_all
  obtain ⟨rfl, rfl⟩ := trodVars_none hV
  have hlt := fun x hx => hW.lt x hx
  have k0 := h0
  obtain ⟨n0, m0, A0, L0, rfl, hk0, hS0, hI0⟩ := open_items2 (hval 0 22 v0 rfl rfl) h0
  have k1 := h1
  obtain ⟨n1, m1, A1, L1, rfl, hk1, hS1, hI1⟩ := open_items2 (hval 1 22 v1 rfl rfl) h1
  have k2 := h2
  obtain ⟨n2, m2, A2, L2, rfl, hk2, hS2, hI2⟩ := open_items2 (hval 2 22 v2 rfl rfl) h2
  have k3 := h3
  obtain ⟨a3, rfl, rfl, rfl, w3⟩ := open_int Try.underlying3 (hval 3 3 v3 rfl rfl) h3
  refine (spreadLater_walk n0 m0 A0 L0 hk0 hI0 n1 m1 A1 L1 hk1 hI1 n2 m2 A2 L2 hk2 hI2 a3 w3 W hS0 hS1 hS2).mono fun e W' ⟨he, hg⟩ => ?_
  subst he
  exact ⟨_, rfl, post_of_same (pv := []) hW (fun _ _ _ => (trodAll_cons_mk (shut_bool Try.underlying4 _) trodAll_mk0)) (fun sp hsp => (trodAll_cons_mk (stay (by kernel_rfl) (of_decide_eq_true (by kernel_rfl)) k0 hg hlt (fun x hx => by first | (simp at hx; done) | simp [hx]) hsp) (trodAll_cons_mk (stay (by kernel_rfl) (of_decide_eq_true (by kernel_rfl)) k1 hg hlt (fun x hx => by first | (simp at hx; done) | simp [hx]) hsp) (trodAll_cons_mk (stay (by kernel_rfl) (of_decide_eq_true (by kernel_rfl)) k2 hg hlt (fun x hx => by first | (simp at hx; done) | simp [hx]) hsp) (trodAll_cons_mk (stay (by kernel_rfl) (of_decide_eq_true (by kernel_rfl)) k3 hg hlt (fun x hx => by first | (simp at hx; done) | simp [hx]) hsp) trodAll_mk0))))) (fun _ _ => rfl) rfl
    (hg.grown.frame _) hg.grown.2.1 (ok_one (by kernel_rfl) rfl (okWide_bool_mk Try.underlying4 _))⟩

theorem spreadLater_over : Rows.spreadLaterRow.holds Try.pinned (OpenSpec.ofChange Rows.spreadLaterSpec) :=
  OpenClaim.holds_of_wide 3 Try.f3 rfl rfl rfl rfl rfl rfl rfl ⟨rfl, rfl, rfl, rfl, rfl⟩ rfl rfl rfl rfl rfl (by kernel_rfl) Try.func3 (by kernel_rfl)
    (of_decide_eq_true (by kernel_rfl)) (by unfold Func.isWrapper; first | (rw [if_pos (by decide +kernel)]; kernel_rfl) | (rw [if_neg (by decide +kernel)]; exact ⟨rfl, rfl⟩))
    (fun os started H enc _ => spreadLater_lifted os started H enc)

theorem spreadLater_holds : Rows.SpreadLaterSaid :=
  spreadLater_over
end Go.Proofs.Ytafkoddgefcpnab
