/- Proved: for every two lists of items and length the law HalveBoth returns true: merging two counters is counting the items of both. Conditions: none. -/
import Derived.Test.YtegaeaonoggmkaaRows
import Derived.Test.YtegaeaonoggmkaaZGAppendq75
import Derived.Test.YtegaeaonoggmkaaZOAddq98
import Derived.Test.YtegaeaonoggmkaaZORunq126
import Derived.Test.YtegaeaonoggmkaaZOStq48
namespace Go.Proofs.Ytegaeaonoggmkaa
open Go.ChangeShapes Go.WideShapes Go.ChangeAt Go.RowKit Go.Joins
set_option linter.unusedVariables false

theorem halveBoth_own : ownKnob Try.prog.godebug = none := by kernel_rfl

set_option maxHeartbeats 16000000 in
set_option maxRecDepth 100000 in
theorem halveBoth_walk (n k : Nat) (A : Option Addr) (L : List It) (hk : n ≤ k) (hI : InI L) (n' k' : Nat) (A' : Option Addr) (L' : List It) (hk' : n' ≤ k') (hI' : InI L') (a0 : Int) (_ : (Lit.int .i64 a0).wf = true) (w : World) (hS : Sl w A n L) (hS' : Sl w A' n' L') :
    Calls Try.prog 7 #[.slice A n k, .slice A' n' k', .int .i64 a0] w fun e w' => e = .returned (.bool true) ∧ Up w w' := by
  have KA := Lib.hid awake16_up
  have KI := Lib.hid (fun W => int_any a0 64 (by decide) (by decide) W)
  have q0 := Int.emod_nonneg a0 (show (64 : Int) ≠ 0 by decide)
  have q1 := Int.emod_lt_of_pos a0 (show (0 : Int) < 64 by decide)
  obtain ⟨q, hq⟩ : ∃ q : Nat, 1 + a0 % 64 = q := ⟨(1 + a0 % 64).toNat, by omega⟩
  have kq : IntKind.i64.wrap (1 + a0 % 64) = q := by rw [hq]; exact IntWalk.i64_in _ (by omega)
  have hq6 : 1 ≤ q ∧ q ≤ 64 := by omega
  generalize a0 % 64 = r0 at *
  have KP := Lib.hid (fun W (h : Sl W A n L) => positive_up n k A L 20 (by decide) (by decide) 60 60 rfl (by decide) 4096 (by decide) (by decide) W h)
  have KP' := Lib.hid (fun W (h : Sl W A' n' L') => positive_up n' k' A' L' 20 (by decide) (by decide) 60 60 rfl (by decide) 4096 (by decide) (by decide) W h)
  have KR := Lib.hid (fun A1 n1 k1 M z W (h1 : n1 ≤ 200) (h2 : itH z M) (h3 : Sl W A1 n1 M) => run16_up q z n1 k1 A1 M hq6 h1 h2 W h3)
  unfold RunH at KR
  have HS := Lib.hid hS
  have HS' := Lib.hid hS'
  clear hS hS' hI hI' hq q0 q1
  go_enter Try.func7, Try.ntmps7
  go_upto_region 5 with (first
    | (go_at_call 24; (with_reducible refine (KI.out _).mono ?_); rintro e w' ⟨rfl, rfl⟩)
    | (go_at_call 25; (with_reducible refine (KP.out _ HS.out).mono ?_); rintro e w1 ⟨A1, n1, k1, M1, z1, rfl, hn1, hmd, hv, _, hS, hu⟩; have HM1 := Lib.hid (itH_of hmd (by rw [hS.1]; omega) (fun j hj => hv j (by rw [hS.1] at hj; exact hj))); have HP1 := Lib.hid hS; have HN1 := Lib.hid hn1; have HS2 := Lib.hid (HS'.out.up hu); have U1 := Lib.hid hu; clear hmd hv hS hn1 hu)
    | (go_at_call 25; (with_reducible refine (KP'.out _ HS2.out).mono ?_); rintro e w2 ⟨A2, n2, k2, M2, z2, rfl, hn2, hmd, hv, _, hS, hu⟩; have HM2 := Lib.hid (itH_of hmd (by rw [hS.1]; omega) (fun j hj => hv j (by rw [hS.1] at hj; exact hj))); have HP2 := Lib.hid hS; have HN2 := Lib.hid hn2; have HT1 := Lib.hid (HP1.out.up hu); have U2 := Lib.hid (U1.out.trans hu); clear hmd hv hS hn2 hu)
    | (go_at_call 26; (with_reducible refine (KR.out _ _ _ _ _ _ (by have := HN1.out; omega) HM1.out HT1.out).mono ?_); rintro e w3 ⟨A3, k3, e1, rfl, hN3, hS3, hc, hu⟩; have HS3 := Lib.hid hS3; have HC1 := Lib.hid hc; have U3 := Lib.hid hu; clear hN3 hS3 hc hu)
    | (go_at_call 26; (with_reducible refine (KR.out _ _ _ _ _ _ (by have := HN2.out; omega) HM2.out (HP2.out.up (U3.out.alloc _ _))).mono ?_); rintro e w4 ⟨A4, k4, e2, rfl, hN4, hS4, hc, hu⟩; have HS4 := Lib.hid hS4; have HC2 := Lib.hid hc; have HN4 : Hid (∀ b o, A4 = some ⟨b, o, none⟩ → b ≠ w3.heap.size) := Lib.hid (fun b o e => by have := hN4 b o e; simp at this; omega); have HS5 := Lib.hid (HS3.out.up (((Up.refl _).alloc _ _).trans hu)); obtain ⟨U4, E4⟩ := hold1 w2 w3.heap.size hu; clear hN4 hS4 hc hu))
  refine (show ∀ ws : World, ws = _ → Code.wp _ _ _ _ ws from fun ws hws => ?_) _ rfl
  obtain ⟨Us, Es⟩ := hold2 w2 w3.heap.size w4.heap.size (Up.of_eq hws)
  have HS3 := Lib.hid (HS5.out.up (((Up.refl w4).alloc _ _).trans (Up.of_eq hws)))
  have HSy := Lib.hid (HS4.out.up (((Up.refl w4).alloc _ _).trans (Up.of_eq hws)))
  have h23 : w2.heap.size ≤ w3.heap.size := by have := U3.out.size; omega
  have h24 : w2.heap.size ≤ w4.heap.size := by have := U4.out.size; omega
  have hxy : w3.heap.size < w4.heap.size := E4.2
  clear hws HS5 HS4
  obtain ⟨a3, a4, a5⟩ := HC1.out
  obtain ⟨b3, b4, b5⟩ := HC2.out
  obtain ⟨T, hT⟩ : ∃ z, z = max e1 e2 := ⟨_, rfl⟩
  have hmax : ∀ (ts : Array TypeId) (ty : TypeId) (W : World), (Builtin.max_ ts ty #[.int .i64 e1, .int .i64 e2]).run Try.prog W = .ok (.int .i64 T) W := fun ts ty W => by
    rw [run_max_int2, hT]
    congr 2
    by_cases g : e2 > e1
    · rw [if_pos g]; omega
    · rw [if_neg g]; omega
  have hz1 := HM1.out.1
  have hz2 := HM2.out.1
  have hna := HN1.out
  have hnb := HN2.out
  have hla : M1.length ≤ 500 := by rw [HT1.out.1]; omega
  have hlb : M2.length ≤ 500 := by rw [HP2.out.1]; omega
  have hT2 : 0 ≤ T ∧ T ≤ 16777216 := by omega
  have a6 := a5.later (show e1 ≤ T by omega)
  have b6 := b5.later (show e2 ≤ T by omega)
  have r1 := hvS_st a5 hq6 (show 0 ≤ e1 ∧ e1 ≤ 16777216 by omega) (by omega)
  have r2 := hvS_st b5 hq6 (show 0 ≤ e2 ∧ e2 ≤ 16777216 by omega) (by omega)
  have r3 := hvS_st a6 hq6 hT2 (by omega)
  have r4 := hvS_st b6 hq6 hT2 (by omega)
  have hmn := a6.app b6
  have hl12 : (M1 ++ M2).length ≤ 1000 := by rw [List.length_append]; omega
  have r5 := hvS_st hmn hq6 hT2 hl12
  have K5 := Lib.hid (fun W (hS : Sn W A3 q (hvS e1 q M1)) => (advance16_up e1 q k3 A3 _ T (by omega) (st_in r1).1 (st_in r1).2 W hS).mono (fun e w' (h : RsH _ W e w') => by rw [hv_adv hq6 a3 (by omega) hT2.2 a5 (by omega)] at h; exact h.st (hvS_len _ _ _)))
  have K6 := Lib.hid (fun W (hS : Sn W A4 q (hvS e2 q M2)) => (advance16_up e2 q k4 A4 _ T (by omega) (st_in r2).1 (st_in r2).2 W hS).mono (fun e w' (h : RsH _ W e w') => by rw [hv_adv hq6 b3 (by omega) hT2.2 b5 (by omega)] at h; exact h.st (hvS_len _ _ _)))
  have K7 := Lib.hid (fun W A k B j (hS : Sn W A q (hvS T q M1)) (hU : Sn W B q (hvS T q M2)) => (merge16_up T q k A _ T q j B _ (by omega) (by omega) (st_in r3).1 (st_in r4).1 (st_in r3).2 (st_in r3).2 W hS hU).mono (fun e w' (h : RsH _ W e w') => by rw [hv_mrg hq6 hT2 a6 b6 hla hlb] at h; exact h.st (hvS_len _ _ _)))
  unfold StH at K5 K6 K7
  have K8 := Lib.hid (fun W A k (hS : Sn W A q (hvS T q (M1 ++ M2))) => (ask16_up T q k A _ (by omega) (st_in r5).1 (st_in r5).2 W hS).mono (fun e w' h => by rw [akH_hv hq6 hT2 hmn hl12] at h; exact h))
  have K9 := Lib.hid (fun W A9 k9 (hS : Sl W A9 (n1 + n2) (M1 ++ M2)) => (rhalve_up (n1 + n2) k9 A9 (M1 ++ M2) T q (by omega) (okH_in hmn hT2.2) W hS).mono (fun e w' h => by rw [gotH_hv hq6 hT2 hmn hl12] at h; exact h))
  have hn12 : n1 + n2 ≤ 120 := by omega
  generalize sumH T q (M1 ++ M2) = R at *
  generalize (2 : Int) ^ (q - 1) = D at *
  generalize hvS T q (M1 ++ M2) = Xm at *
  have qe := fun W => eqF16 (hiZ R) (loZ R) (hiZ D) (loZ D) W
  clear a3 a4 a5 a6 b3 b4 b5 b6 r1 r2 r3 r4 r5 hmn hl12 hT hla hlb hna hnb hz1 hz2 hT2 KI KP KP' KR HS HS' HC1 HC2 HM1 HM2 HN1 HN2 kq
  obtain ⟨X0, hX0⟩ : ∃ z, z = hvS e1 q M1 := ⟨_, rfl⟩
  obtain ⟨Y0, hY0⟩ : ∃ z, z = hvS e2 q M2 := ⟨_, rfl⟩
  obtain ⟨X1, hX1⟩ : ∃ z, z = hvS T q M1 := ⟨_, rfl⟩
  obtain ⟨Y1, hY1⟩ : ∃ z, z = hvS T q M2 := ⟨_, rfl⟩
  rw [← hX0] at HS3 K5
  rw [← hY0] at HSy K6
  rw [← hX1] at K5 K7
  rw [← hY1] at K6 K7
  clear hX0 hY0 hX1 hY1
  have HU2 := U2
  go_wp2_with (first
    | (go_at_call 14; (with_reducible refine (K5.out _ HS3.out).mono ?_); rintro e w5 ⟨A5, k5, rfl, hN, hS, hu⟩; have HS5 := Lib.hid hS; have HN5 : Hid (∀ b o, A5 = some ⟨b, o, none⟩ → b ≠ w3.heap.size ∧ b ≠ w4.heap.size) := Lib.hid (fun b o e => by have := hN b o e; omega); have HSz := Lib.hid (HSy.out.up hu); obtain ⟨U5, E5⟩ := hold2 w2 w3.heap.size w4.heap.size hu; have z5 := fun o => U5.out.ownGe h23 o; have y5 := fun o => U5.out.ownGe h24 o; have hx5 : w3.heap.size < w5.heap.size := E5.2.1; have hy5 : w4.heap.size < w5.heap.size := E5.2.2; have x0 : w5.cell? ⟨w3.heap.size, 0, none⟩ = some (.int .i64 e1) := (by simp [go_sem, E5, Es, E4]); have x1 : w5.cell? ⟨w3.heap.size, 1, none⟩ = some (.slice A3 q k3) := (by simp [go_sem, E5, Es, E4]); have y0 : w5.cell? ⟨w4.heap.size, 0, none⟩ = some (.int .i64 e2) := (by simp [go_sem, E5, Es]); have y1 : w5.cell? ⟨w4.heap.size, 1, none⟩ = some (.slice A4 q k4) := (by simp [go_sem, E5, Es]); clear hN hS hu E5 E4 Es)
    | (go_at_call 14; ((with_reducible refine (K6.out _ ?_).mono ?_); · (repeat (first | (with_reducible exact HSz.out) | (with_reducible exact HSz.out.up ((Up.refl _).alloc _ _)) | (with_reducible refine Sn.far ?_ (fun b o e => by have := HN4.out b o e; omega) _)))); rintro e w6 ⟨A6, k6, rfl, hN, hS, hu⟩; have HS6 := Lib.hid hS; have HN6 : Hid (∀ b o, A6 = some ⟨b, o, none⟩ → b ≠ w3.heap.size ∧ b ≠ w4.heap.size) := Lib.hid (fun b o e => by have := hN b o e; simp at this; omega); have HR6 : Hid (Sn w6 A5 q X1) := Lib.hid (Sn.up (by (repeat (first | (with_reducible exact HS5.out) | (with_reducible exact HS5.out.up ((Up.refl _).alloc _ _)) | (with_reducible refine Sn.far ?_ (fun b o e => by have := HN5.out b o e; omega) _)))) hu); obtain ⟨U6, E6⟩ := hold2 w2 w3.heap.size w4.heap.size hu; have z6 := fun o => U6.out.ownGe h23 o; have y6 := fun o => U6.out.ownGe h24 o; have hx6 : w3.heap.size < w6.heap.size := E6.2.1; have hy6 : w4.heap.size < w6.heap.size := E6.2.2; have u0 : w6.cell? ⟨w3.heap.size, 0, none⟩ = some (.int .i64 T) := (by simp [go_sem, E6, x0]); have u1 : w6.cell? ⟨w3.heap.size, 1, none⟩ = some (.slice A5 q k5) := (by simp [go_sem, E6, x1]); have v0 : w6.cell? ⟨w4.heap.size, 0, none⟩ = some (.int .i64 e2) := (by simp [go_sem, E6, y0]); have v1 : w6.cell? ⟨w4.heap.size, 1, none⟩ = some (.slice A4 q k4) := (by simp [go_sem, E6, y1]); clear hN hS hu E6)
    | (go_at_call 22; ((with_reducible refine (K7.out _ A5 k5 A6 k6 ?_ ?_).mono ?_); (· (repeat (first | (with_reducible exact HR6.out) | (with_reducible exact HR6.out.up ((Up.refl _).alloc _ _)) | (with_reducible refine Sn.far ?_ (fun b o e => by have := HN5.out b o e; omega) _)))); (· (repeat (first | (with_reducible exact HS6.out) | (with_reducible exact HS6.out.up ((Up.refl _).alloc _ _)) | (with_reducible refine Sn.far ?_ (fun b o e => by have := HN6.out b o e; omega) _))))); rintro e w7 ⟨A7, k7, rfl, hN, hS, hu⟩; have HS7 := Lib.hid hS; obtain ⟨U7, E7⟩ := hold2 w2 w3.heap.size w4.heap.size hu; clear hN hS hu E7)
    | (go_at_call 18; (with_reducible refine (K8.out _ A7 k7 (HS7.out.up ((Up.refl _).alloc _ _))).mono ?_); rintro e w8 ⟨rfl, hu⟩; have U8 := Lib.hid ((U7.out.alloc _ _).trans hu); have HL1 := Lib.hid (HT1.out.up U8.out); have HL2 := Lib.hid (HP2.out.up U8.out); obtain ⟨v1, wa, hr1, hO1, hu1⟩ := append0_run 43 (w8.alloc (.cells #[.int .u64 (hiZ R), .int .u64 (loZ R), .int .u64 (hiZ D), .int .u64 (loZ D)] 37)) ((w8.alloc (.cells #[.int .u64 (hiZ R), .int .u64 (loZ R), .int .u64 (hiZ D), .int .u64 (loZ D)] 37)).alloc (.cells #[] 69)) (w8.heap.size + 1) (own_empty' (by simp) (Nat.le_refl _)) ((Up.refl _).alloc _ _) A1 n1 k1 M1 (HL1.out.up (((Up.refl _).alloc _ _).alloc _ _)) (by omega); obtain ⟨v2, wb, hr2, hO2, hu2⟩ := append_run 43 (w8.alloc (.cells #[.int .u64 (hiZ R), .int .u64 (loZ R), .int .u64 (hiZ D), .int .u64 (loZ D)] 37)) wa v1 n1 M1 hO1 (((Up.refl _).alloc _ _).trans hu1) A2 n2 k2 M2 (HL2.out.up ((((Up.refl _).alloc _ _).alloc _ _).trans hu1)) (by omega); obtain ⟨A9, k9, rfl, _, hS9⟩ := hO2.sl; have HS9 := Lib.hid hS9; have HUb := Lib.hid hu2; clear hu hO1 hu1 hO2 hu2 hS9)
    | (refine wpList_append_run (o := ⟨some 72, _, _, _, _, _⟩) rfl (.tmp 70) (.tmp 71) _ rfl _ _ rfl rfl _ _ hr1 ?_)
    | (refine wpList_append_run (o := ⟨some 74, _, _, _, _, _⟩) rfl (.tmp 72) (.tmp 73) _ rfl _ _ rfl rfl _ _ hr2 ?_)
    | (go_at_call 28; (with_reducible refine (K9.out _ A9 k9 HS9.out).mono ?_); rintro e w10 ⟨rfl, hu⟩; obtain ⟨UT, ET⟩ := hold1 w2 w8.heap.size (HUb.out.trans hu); clear hu)
    | (go_at_call 12; (with_reducible refine (KA.out _).mono ?_); rintro e w11 ⟨rfl, hu⟩; have HU9 := Lib.hid (HU2.out.trans ((UT.out.alloc _ _).trans hu)); clear hu))
  go_ret
  exact ⟨rfl, HU9.out⟩

set_option maxRecDepth 100000 in
theorem halveBoth_lifted (os : Os) (started : os.Started) (H : Type) (enc : TypeId × Value → H) :
    ReturnsInHanded {} Try.checked os 7 .any (Rows.halveBothSpec.pre6 enc Try.prog Try.f7 Rows.halveBothRow.domain false) (Rows.halveBothSpec.post enc Try.prog Try.f7 false true false false) := by
  refine returnsInHanded_of_change_sized (C := Try.checked) halveBoth_own started (by kernel_rfl) Try.func7
    (ChangeSpec.witness6 (enc := enc) (C := Try.checked) false ⟨#[], #[.slice none 0 0, .slice none 0 0, .int .i64 0], []⟩ 8 (by kernel_rfl) (by kernel_rfl) (by kernel_rfl) (by kernel_rfl)) ?_
  intro W base args ds gs before hval0 hW hcnd hsz0 _
  have hval : ∀ (j : Nat) t v, Try.f7.params[j]? = some t → args[j]? = some v → Value.okWide Try.prog W .any base t v := hval0
  have hW' := hW
  obtain ⟨p, q, hA0, hV, rfl, hfz, hnd⟩ := hW'
  have hA : DataW.TrodAll enc Try.prog W 0 (fun _ => true) true Try.f7.params.toList args.toList ds p := hA0
  rw [Try.params7] at hA hval
  obtain ⟨v0, vs0, d0, ds0, p0, q0, hargs, rfl, rfl, h0, r0⟩ := trodAll_cons hA
  obtain ⟨v1, vs1, d1, ds1, p1, q1, rfl, rfl, rfl, h1, r1⟩ := trodAll_cons r0
  obtain ⟨v2, vs2, d2, ds2, p2, q2, rfl, rfl, rfl, h2, r2⟩ := trodAll_cons r1
  obtain ⟨rfl, rfl, rfl⟩ := trodAll_nil r2
  obtain rfl : args = #[v0, v1, v2] := by cases args; simp_all
  obtain ⟨rfl, rfl⟩ := trodVars_none hV
  have hlt := fun x hx => hW.lt x hx
  have k0 := h0
  obtain ⟨n0, m0, A0, L0, rfl, hk0, hS0, hI0⟩ := open_items2 (hval 0 43 v0 rfl rfl) h0
  have k1 := h1
  obtain ⟨n1, m1, A1, L1, rfl, hk1, hS1, hI1⟩ := open_items2 (hval 1 43 v1 rfl rfl) h1
  have k2 := h2
  obtain ⟨a2, rfl, rfl, rfl, w2⟩ := open_int Try.underlying3 (hval 2 3 v2 rfl rfl) h2
  refine (halveBoth_walk n0 m0 A0 L0 hk0 hI0 n1 m1 A1 L1 hk1 hI1 a2 w2 W hS0 hS1).mono fun e W' ⟨he, hg⟩ => ?_
  subst he
  exact ⟨_, rfl, post_of_same (pv := []) hW (fun _ _ _ => (trodAll_cons_mk (shut_bool Try.underlying4 _) trodAll_mk0)) (fun sp hsp => (trodAll_cons_mk (stay (by kernel_rfl) (of_decide_eq_true (by kernel_rfl)) k0 hg hlt (fun x hx => by first | (simp at hx; done) | simp [hx]) hsp) (trodAll_cons_mk (stay (by kernel_rfl) (of_decide_eq_true (by kernel_rfl)) k1 hg hlt (fun x hx => by first | (simp at hx; done) | simp [hx]) hsp) (trodAll_cons_mk (stay (by kernel_rfl) (of_decide_eq_true (by kernel_rfl)) k2 hg hlt (fun x hx => by first | (simp at hx; done) | simp [hx]) hsp) trodAll_mk0)))) (fun _ _ => rfl) rfl
    (hg.grown.frame _) hg.grown.2.1 (ok_one (by kernel_rfl) rfl (okWide_bool_mk Try.underlying4 _))⟩

theorem halveBoth_over : Rows.halveBothRow.holds Try.pinned (OpenSpec.ofChange Rows.halveBothSpec) :=
  OpenClaim.holds_of_wide 7 Try.f7 rfl rfl rfl rfl rfl rfl rfl ⟨rfl, rfl, rfl, rfl, rfl⟩ rfl rfl rfl rfl rfl (by kernel_rfl) Try.func7 (by kernel_rfl)
    (of_decide_eq_true (by kernel_rfl)) (by unfold Func.isWrapper; first | (rw [if_pos (by decide +kernel)]; kernel_rfl) | (rw [if_neg (by decide +kernel)]; exact ⟨rfl, rfl⟩))
    (fun os started H enc _ => halveBoth_lifted os started H enc)

theorem halveBoth_holds : Rows.HalveBothSaid :=
  halveBoth_over
end Go.Proofs.Ytegaeaonoggmkaa
