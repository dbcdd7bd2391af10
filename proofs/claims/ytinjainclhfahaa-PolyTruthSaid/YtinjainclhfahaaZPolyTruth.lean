/- Proved: for every items, power, landmark and later tick the law PolyTruth returns true: the answer of package poly is the exact weighted sum of all items, divided by the weight of an item of now. Conditions: none. -/
import Derived.Test.YtinjainclhfahaaRows
import Derived.Test.YtinjainclhfahaaZPTruq142
namespace Go.Proofs.Ytinjainclhfahaa
open Go.ChangeShapes Go.WideShapes Go.ChangeAt Go.RowKit Go.Joins
set_option linter.unusedVariables false

theorem polyTruth_own : ownKnob Try.prog.godebug = none := by kernel_rfl

set_option maxHeartbeats 16000000 in
set_option maxRecDepth 100000 in
theorem polyTruth_walk (n k : Nat) (A : Option Addr) (L : List It) (hk : n ≤ k) (hI : InI L) (p : Int) (_ : (Lit.int .i64 p).wf = true) (land : Int) (_ : (Lit.int .i64 land).wf = true) (later : Int) (_ : (Lit.int .i64 later).wf = true) (w : World) (hS : Sl w A n L) :
    Calls Try.prog 7 #[.slice A n k, .int .i64 p, .int .i64 land, .int .i64 later] w fun e w' => e = .returned (.bool true) ∧ Up w w' := by
  have KA := Lib.hid awake15_up
  have KI := Lib.hid (fun W => int_any p 5 (by decide) (by decide) W)
  have KL := Lib.hid (fun W => modm_any land 1000000 (by decide) (by decide) W)
  have KT := Lib.hid (fun W => modm_any later 1000000 (by decide) (by decide) W)
  have b0 := Int.emod_nonneg p (show (5 : Int) ≠ 0 by decide)
  have b1 := Int.emod_lt_of_pos p (show (0 : Int) < 5 by decide)
  have c0 := Int.emod_nonneg land (show (1000000 : Int) ≠ 0 by decide)
  have c1 := Int.emod_lt_of_pos land (show (0 : Int) < 1000000 by decide)
  have d0 := Int.emod_nonneg later (show (1000000 : Int) ≠ 0 by decide)
  have d1 := Int.emod_lt_of_pos later (show (0 : Int) < 1000000 by decide)
  generalize land % 1000000 = l at *
  generalize later % 1000000 = s at *
  obtain ⟨m, hm⟩ : ∃ m : Nat, p % 5 = m := ⟨(p % 5).toNat, by omega⟩
  rw [hm] at KI b0 b1
  have hm4 : m ≤ 4 := by omega
  have KS := Lib.hid (fun W (h : Sl W A n L) => shifted_up n k A L l c0 (by omega) W h)
  have KR := Lib.hid (fun A1 n1 k1 M z W (h1 : n1 ≤ 60) (h2 : sdM l z M) (h3 : Sl W A1 n1 M) => run15_up m l z n1 k1 A1 M hm4 c0 (by omega) h1 h2 W h3)
  have HS := Lib.hid hS
  clear hS hI hm b0 b1
  go_enter Try.func7, Try.ntmps7
  go_upto_region 4 with (first
    | (go_at_call 26; (with_reducible refine (KI.out _).mono ?_); rintro e w' ⟨rfl, rfl⟩)
    | (go_at_call 27; (with_reducible refine (KL.out _).mono ?_); rintro e w' ⟨rfl, rfl⟩)
    | (go_at_call 27; (with_reducible refine (KT.out _).mono ?_); rintro e w' ⟨rfl, rfl⟩)
    | (go_at_call 28; (with_reducible refine (KS.out _ HS.out).mono ?_); rintro e w1 ⟨A1, n1, k1, M, z, rfl, hn1, hsd, hS, hu⟩; have HM := Lib.hid hsd; have HS1 := Lib.hid hS; have HN1 := Lib.hid hn1; have U1 := Lib.hid hu; clear hsd hS hn1 hu)
    | (go_at_call 29; (with_reducible refine (KR.out _ _ _ _ _ _ HN1.out HM.out HS1.out).mono ?_); rintro e w2 ⟨A2, k2, c, rfl, hk2, hN2, hS2, hc, hu⟩; have HS2 := Lib.hid hS2; have HK2 := Lib.hid hk2; have HC := Lib.hid hc; have HT1 := Lib.hid (HS1.out.up hu); have U2 := Lib.hid (U1.out.trans hu); clear hk2 hN2 hS2 hc hu))
  obtain ⟨hc0, hc1, hok⟩ := HC.out
  obtain ⟨t, ht⟩ : ∃ z, z = c + s := ⟨_, rfl⟩
  have kw : IntKind.i64.wrap (c + s) = t := by rw [ht]; exact IntWalk.i64_in _ (by omega)
  have hML := HT1.out.1
  have hl6 := HN1.out
  have hlX : ∀ x ∈ moL l (m + 1) M, In2 x := fitL_iff.1 (moL_in hok hc0 (by omega) (by omega) (by omega))
  have K4 := Lib.hid (fun W (hS : SG cW W A2 (m + 1) (moL l (m + 1) M)) => (advance15_up m l c t (m + 1) k2 A2 _ (by omega) HK2.out hlX W hS).mono (fun e w' (h : Rs _ W e w') => by rw [run_adv hm4 c0 hc0 (by omega) (by omega) hok] at h; exact h.st (moL_len _ _ _)))
  unfold StR at K4
  have K5 := Lib.hid (fun W A k hk (hS : SG cW W A (m + 1) (moL l (m + 1) M)) => (ask15_up m l t (m + 1) k A _ (by omega) hk hlX W hS).mono (fun e w' h => by rw [truth_ask hm4 c0 (by omega) (by omega) (hok.later (by omega))] at h; exact h))
  have K6 := Lib.hid (fun W (hS : Sl W A1 n1 M) => (rpoly_up n1 k1 A1 M l m (by omega) (okM_in c0 (by omega) hok) W hS).mono (fun e w' h => by rw [plO_mom hm4 hok c0 hc0 (by omega) (by omega) (by omega), gotW_some] at h; exact h))
  have K7 := Lib.hid (fun W g (hS : Sl W (some ⟨g, 0, none⟩) 1 [(t, 1)]) => (rpoly_up 1 1 (some ⟨g, 0, none⟩) [(t, 1)] l m (by omega) (okM_in c0 (c := t) (by omega) (fun x hx => by simp only [List.mem_singleton] at hx; subst hx; exact ⟨by omega, Int.le_refl _, (by decide : (0 : Int) ≤ 1), (by decide : (1 : Int) ≤ 4096)⟩)) W hS).mono (fun e w' h => by rw [truth_one hm4 c0 (by omega) (by omega) (by omega), gotW_some] at h; exact h))
  generalize momZ l m M = N at *
  generalize (t - l + 1) ^ m = D at *
  generalize moL l (m + 1) M = X at *
  have qe := fun W => eqF15 (hiZ N) (loZ N) (hiZ D) (loZ D) W
  clear hc0 hc1 hok ht hML hl6 hlX HC HM KI KL KT KS KR c0 c1 d0 d1 HS
  go_wp2_with (first
    | (go_at_call 14; (with_reducible refine (K4.out _ (HS2.out.up ((Up.refl _).alloc _ _))).mono ?_); rintro e w3 ⟨A3, k3, rfl, hK, hN, hS, hu⟩; have HS3 := Lib.hid hS; have HK3 := Lib.hid hK; have HT2 := Lib.hid (HT1.out.up (((Up.refl _).alloc _ _).trans hu)); have U3 := Lib.hid ((U2.out.alloc _ _).trans hu); clear hK hN hS hu)
    | (go_at_call 18; (with_reducible refine (K5.out _ A3 k3 HK3.out (HS3.out.up ((Up.refl _).alloc _ _))).mono ?_); rintro e w4 ⟨rfl, hu⟩; have HT3 := Lib.hid (HT2.out.up (((Up.refl _).alloc _ _).trans hu)); obtain ⟨U4, E4⟩ := hold1 w w3.heap.size hu; clear hu)
    | (go_at_call 30; (with_reducible refine (K6.out _ (HT3.out.up ((Up.refl _).alloc _ _))).mono ?_); rintro e w5 ⟨rfl, hu⟩; obtain ⟨U5, E5⟩ := hold2 w w3.heap.size w4.heap.size hu; clear hu)
    | (go_at_call 30; (with_reducible refine (K7.out _ _ (one_new' _ _ _ (by simp))).mono ?_); rintro e w6 ⟨rfl, hu⟩; obtain ⟨U6, E6⟩ := hold3 w w3.heap.size w4.heap.size w5.heap.size hu; clear hu)
    | (go_at_call 12; (with_reducible refine (KA.out _).mono ?_); rintro e w7 ⟨rfl, hu⟩; have HU7 := Lib.hid ((U6.out.alloc _ _).trans hu); clear hu))
  go_ret
  exact ⟨rfl, HU7.out⟩

set_option maxRecDepth 100000 in
theorem polyTruth_lifted (os : Os) (started : os.Started) (H : Type) (enc : TypeId × Value → H) :
    ReturnsInHanded {} Try.checked os 7 .any (Rows.polyTruthSpec.pre6 enc Try.prog Try.f7 Rows.polyTruthRow.domain false) (Rows.polyTruthSpec.post enc Try.prog Try.f7 false true false false) := by
  refine returnsInHanded_of_change_sized (C := Try.checked) polyTruth_own started (by kernel_rfl) Try.func7
    (ChangeSpec.witness6 (enc := enc) (C := Try.checked) false ⟨#[], #[.slice none 0 0, .int .i64 0, .int .i64 0, .int .i64 0], []⟩ 8 (by kernel_rfl) (by kernel_rfl) (by kernel_rfl) (by kernel_rfl)) ?_
  intro W base args ds gs before hval0 hW hcnd hsz0 _
  have hval : ∀ (j : Nat) t v, Try.f7.params[j]? = some t → args[j]? = some v → Value.okWide Try.prog W .any base t v := hval0
  have hW' := hW
  obtain ⟨p, q, hA0, hV, rfl, hfz, hnd⟩ := hW'
  have hA : DataW.TrodAll enc Try.prog W 0 (fun _ => true) true Try.f7.params.toList args.toList ds p := hA0
  rw [Try.params7] at hA hval
  obtain ⟨v0, vs0, d0, ds0, p0, q0, hargs, rfl, rfl, h0, r0⟩ := trodAll_cons hA
  obtain ⟨v1, vs1, d1, ds1, p1, q1, rfl, rfl, rfl, h1, r1⟩ := trodAll_cons r0
  obtain ⟨v2, vs2, d2, ds2, p2, q2, rfl, rfl, rfl, h2, r2⟩ := trodAll_cons r1
  obtain ⟨v3, vs3, d3, ds3, p3, q3, rfl, rfl, rfl, h3, r3⟩ := trodAll_cons r2
  obtain ⟨rfl, rfl, rfl⟩ := trodAll_nil r3
  obtain rfl : args = #[v0, v1, v2, v3] := by cases args; simp_all
  obtain ⟨rfl, rfl⟩ := trodVars_none hV
  have hlt := fun x hx => hW.lt x hx
  have k0 := h0
  obtain ⟨n0, m0, A0, L0, rfl, hk0, hS0, hI0⟩ := open_items2 (hval 0 44 v0 rfl rfl) h0
  have k1 := h1
  obtain ⟨a1, rfl, rfl, rfl, w1⟩ := open_int Try.underlying3 (hval 1 3 v1 rfl rfl) h1
  have k2 := h2
  obtain ⟨a2, rfl, rfl, rfl, w2⟩ := open_int Try.underlying2 (hval 2 2 v2 rfl rfl) h2
  have k3 := h3
  obtain ⟨a3, rfl, rfl, rfl, w3⟩ := open_int Try.underlying2 (hval 3 2 v3 rfl rfl) h3
  refine (polyTruth_walk n0 m0 A0 L0 hk0 hI0 a1 w1 a2 w2 a3 w3 W hS0).mono fun e W' ⟨he, hg⟩ => ?_
  subst he
  exact ⟨_, rfl, post_of_same (pv := []) hW (fun _ _ _ => (trodAll_cons_mk (shut_bool Try.underlying4 _) trodAll_mk0)) (fun sp hsp => (trodAll_cons_mk (stay (by kernel_rfl) (of_decide_eq_true (by kernel_rfl)) k0 hg hlt (fun x hx => by first | (simp at hx; done) | simp [hx]) hsp) (trodAll_cons_mk (stay (by kernel_rfl) (of_decide_eq_true (by kernel_rfl)) k1 hg hlt (fun x hx => by first | (simp at hx; done) | simp [hx]) hsp) (trodAll_cons_mk (stay (by kernel_rfl) (of_decide_eq_true (by kernel_rfl)) k2 hg hlt (fun x hx => by first | (simp at hx; done) | simp [hx]) hsp) (trodAll_cons_mk (stay (by kernel_rfl) (of_decide_eq_true (by kernel_rfl)) k3 hg hlt (fun x hx => by first | (simp at hx; done) | simp [hx]) hsp) trodAll_mk0))))) (fun _ _ => rfl) rfl
    (hg.grown.frame _) hg.grown.2.1 (ok_one (by kernel_rfl) rfl (okWide_bool_mk Try.underlying4 _))⟩

theorem polyTruth_over : Rows.polyTruthRow.holds Try.pinned (OpenSpec.ofChange Rows.polyTruthSpec) :=
  OpenClaim.holds_of_wide 7 Try.f7 rfl rfl rfl rfl rfl rfl rfl ⟨rfl, rfl, rfl, rfl, rfl⟩ rfl rfl rfl rfl rfl (by kernel_rfl) Try.func7 (by kernel_rfl)
    (of_decide_eq_true (by kernel_rfl)) (by unfold Func.isWrapper; first | (rw [if_pos (by decide +kernel)]; kernel_rfl) | (rw [if_neg (by decide +kernel)]; exact ⟨rfl, rfl⟩))
    (fun os started H enc _ => polyTruth_lifted os started H enc)

theorem polyTruth_holds : Rows.PolyTruthSaid :=
  polyTruth_over
end Go.Proofs.Ytinjainclhfahaa
