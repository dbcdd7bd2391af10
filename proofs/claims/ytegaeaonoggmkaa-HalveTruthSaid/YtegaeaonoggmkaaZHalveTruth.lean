/- Proved: for every items, length and later tick the law HalveTruth returns true: the answer of package halve is the exact sum of all items with weights that halve with every tick and vanish at the age of the counter. Conditions: none. -/
import Derived.Test.YtegaeaonoggmkaaRows
import Derived.Test.YtegaeaonoggmkaaZORunq126
namespace Go.Proofs.Ytegaeaonoggmkaa
open Go.ChangeShapes Go.WideShapes Go.ChangeAt Go.RowKit Go.Joins
set_option linter.unusedVariables false

theorem halveTruth_own : ownKnob Try.prog.godebug = none := by kernel_rfl

set_option maxHeartbeats 16000000 in
set_option maxRecDepth 100000 in
theorem halveTruth_walk (n k : Nat) (A : Option Addr) (L : List It) (hk : n ≤ k) (hI : InI L) (a0 : Int) (_ : (Lit.int .i64 a0).wf = true) (later : Int) (_ : (Lit.int .i64 later).wf = true) (w : World) (hS : Sl w A n L) :
    Calls Try.prog 6 #[.slice A n k, .int .i64 a0, .int .i64 later] w fun e w' => e = .returned (.bool true) ∧ Up w w' := by
  have KA := Lib.hid awake16_up
  have KI := Lib.hid (fun W => int_any a0 64 (by decide) (by decide) W)
  have q0 := Int.emod_nonneg a0 (show (64 : Int) ≠ 0 by decide)
  have q1 := Int.emod_lt_of_pos a0 (show (0 : Int) < 64 by decide)
  obtain ⟨q, hq⟩ : ∃ q : Nat, 1 + a0 % 64 = q := ⟨(1 + a0 % 64).toNat, by omega⟩
  have kq : IntKind.i64.wrap (1 + a0 % 64) = q := by rw [hq]; exact IntWalk.i64_in _ (by omega)
  have hq6 : 1 ≤ q ∧ q ≤ 64 := by omega
  generalize a0 % 64 = r0 at *
  have KT := Lib.hid (fun W => modm_any later 100 (by decide) (by decide) W)
  have d0 := Int.emod_nonneg later (show (100 : Int) ≠ 0 by decide)
  have d1 := Int.emod_lt_of_pos later (show (0 : Int) < 100 by decide)
  generalize later % 100 = s at *
  have KP := Lib.hid (fun W (h : Sl W A n L) => positive_up n k A L 20 (by decide) (by decide) 100 100 rfl (by decide) 4096 (by decide) (by decide) W h)
  have KR := Lib.hid (fun A1 n1 k1 M z W (h1 : n1 ≤ 200) (h2 : itH z M) (h3 : Sl W A1 n1 M) => run16_up q z n1 k1 A1 M hq6 h1 h2 W h3)
  unfold RunH at KR
  have HS := Lib.hid hS
  clear hS hI hq q0 q1
  go_enter Try.func6, Try.ntmps6
  go_upto_region 4 with (first
    | (go_at_call 24; (with_reducible refine (KI.out _).mono ?_); rintro e w' ⟨rfl, rfl⟩)
    | (go_at_call 25; (with_reducible refine (KP.out _ HS.out).mono ?_); rintro e w1 ⟨A1, n1, k1, M, z, rfl, hn1, hmd, hv, _, hS, hu⟩; have HM := Lib.hid (itH_of hmd (by rw [hS.1]; omega) (fun j hj => hv j (by rw [hS.1] at hj; exact hj))); have HS1 := Lib.hid hS; have HN1 := Lib.hid hn1; have U1 := Lib.hid hu; clear hmd hv hS hn1 hu)
    | (go_at_call 26; (with_reducible refine (KR.out _ _ _ _ _ _ (by have := HN1.out; omega) HM.out HS1.out).mono ?_); rintro e w2 ⟨A2, k2, c, rfl, hN2, hS2, hc, hu⟩; have HS2 := Lib.hid hS2; have HC := Lib.hid hc; have HT1 := Lib.hid (HS1.out.up hu); have U2 := Lib.hid (U1.out.trans hu); clear hN2 hS2 hc hu))
  refine (show ∀ ws : World, ws = _ → Code.wp _ _ _ _ ws from fun ws hws => ?_) _ rfl
  obtain ⟨Us, Es⟩ := hold1 w2 w2.heap.size (Up.of_eq hws)
  have HSx := Lib.hid (HS2.out.up (((Up.refl w2).alloc _ _).trans (Up.of_eq hws)))
  clear hws
  obtain ⟨e0, e1, hok⟩ := HC.out
  obtain ⟨T, hT⟩ : ∃ z, z = c + s := ⟨_, rfl⟩
  have kw : IntKind.i64.wrap (c + s) = T := by rw [hT]; exact IntWalk.i64_in _ (by have := HM.out.1; omega)
  have hz := HM.out.1
  have hl6 := HN1.out
  have hlen : M.length ≤ 1000 := by rw [HT1.out.1]; omega
  have hT2 : 0 ≤ T ∧ T ≤ 16777216 := by omega
  have hok2 := hok.later (show c ≤ T by omega)
  have s1 := hvS_st hok hq6 (show 0 ≤ c ∧ c ≤ 16777216 by omega) hlen
  have s2 := hvS_st hok2 hq6 hT2 hlen
  have K4 := Lib.hid (fun W (hS : Sn W A2 q (hvS c q M)) => (advance16_up c q k2 A2 _ T (by omega) (st_in s1).1 (st_in s1).2 W hS).mono (fun e w' (h : RsH _ W e w') => by rw [hv_adv hq6 e0 (by omega) hT2.2 hok hlen] at h; exact h.st (hvS_len _ _ _)))
  unfold StH at K4
  have K5 := Lib.hid (fun W A k (hS : Sn W A q (hvS T q M)) => (ask16_up T q k A _ (by omega) (st_in s2).1 (st_in s2).2 W hS).mono (fun e w' h => by rw [akH_hv hq6 hT2 hok2 hlen] at h; exact h))
  have K6 := Lib.hid (fun W (hS : Sl W A1 n1 M) => (rhalve_up n1 k1 A1 M T q (by omega) (okH_in hok2 hT2.2) W hS).mono (fun e w' h => by rw [gotH_hv hq6 hT2 hok2 hlen] at h; exact h))
  generalize sumH T q M = N at *
  generalize (2 : Int) ^ (q - 1) = D at *
  generalize hvS c q M = X at *
  generalize hvS T q M = X2 at *
  have qe := fun W => eqF16 (hiZ N) (loZ N) (hiZ D) (loZ D) W
  have h0q : 0 < q := hq6.1
  have HSl := Lib.hid (HT1.out.up Us.out)
  have HUs := Lib.hid (U2.out.trans Us.out)
  clear e0 e1 hok hT hz hl6 hlen hT2 hok2 s1 s2 HC HM KI KP KR d0 d1 HS HS1 HT1 HN1 HS2 U1 U2 kq
  go_cut [10, 11] (fun s t wx => ∃ (g : Nat) (A3 : Option Addr) (k3 : Nat), s = .pointer (some ⟨g, 0, none⟩) ∧ t = .int .i64 0 ∧ ws.heap.size ≤ g ∧ wx.cell? ⟨g, 0, none⟩ = some (.int .i64 T) ∧ wx.cell? ⟨g, 1, none⟩ = some (.slice A3 q k3) ∧ Hid (Sn wx A3 q X2) ∧ Hid (Up ws wx))
  case first =>
    go_region_held3 (KB1 w2.heap.size ws ws) (first | (with_reducible exact KB1.start (Lib.hid (Up.refl ws))) | (with_reducible exact KB1.next (by assumption) (by assumption)) | (repeat (first | (with_reducible assumption) | (with_reducible exact Hid.out (by assumption)) | (with_reducible exact KB1.base (Lib.hid (Up.refl ws))) | (with_reducible exact KB1.start (Lib.hid (Up.refl ws))) | (with_reducible refine KB1.next ((Up.refl _).alloc _ _) ?_) | (with_reducible refine KB1.next (Up.refl _).drew ?_) | (with_reducible refine KB1.set ?_ (by first | omega | (simp; done) | (simp; omega)) (by first | omega | (simp; done) | (simp; omega)))))) (first
      | (go_at_call 27; (with_reducible refine (KT.out _).mono ?_); rintro e w' ⟨rfl, rfl⟩)
      | (go_at_call 14; (with_reducible refine (K4.out _ (HSx.out.up (KB1.to (by assumption)))).mono ?_); rintro e w5 ⟨A3, k3, rfl, hN, hS, hu5⟩; have HS5 := Lib.hid hS; have HN5 : Hid (∀ b o, A3 = some ⟨b, o, none⟩ → _ ≤ b ∧ b < w5.heap.size) := Lib.hid (fun b o e => ⟨hN b o e, (by obtain ⟨b1, o1, e1, y1⟩ := hS.one h0q; rw [e] at e1; injection e1 with e1; injection e1 with e1 e2; subst e1; exact World.block_lt_of_cell? _ _ y1)⟩); have HSb := Lib.hid (KB1.next hu5 (by assumption)); have hc5 := hu5.cells.1; have hz5 := hu5.cells.2; have hs5 := hu5.size; (try simp at hs5); (try (have hg0_5 : ws.heap.size < w5.heap.size := by omega)); clear hN hS))
    all_goals
      go_wp2_with fail
      go_meet
      refine ⟨_, A3, k3, rfl, rfl, ?_, ?_, ?_, Lib.hid ?_, Lib.hid (KB1.to (by assumption))⟩
      · first | omega | (simp; done) | (simp; omega)
      · first | (simp [go_sem, *]; done) | (simp [go_sem]; done)
      · first | (simp [go_sem, *]; done) | (simp [go_sem]; done)
      · (repeat (first | (with_reducible exact HS5.out) | (with_reducible exact HS5.out.up ((Up.refl _).alloc _ _)) | (with_reducible refine Sn.far ?_ (fun b o e => by have := HN5.out b o e; (try simp at this); (try simp); omega) _)))
  obtain ⟨g, A3, k3, rfl, rfl, hg, c0, c1, HS3, HQ⟩ := hcut
  have hgc : g < wc.heap.size := World.block_lt_of_cell? _ _ c0
  have HSl2 := Lib.hid (HSl.out.up HQ.out)
  have HUc := Lib.hid (HUs.out.trans HQ.out)
  clear HSl HUs HQ Es Us HSx K4 KT
  go_wp2_with (first
    | (go_at_call 18; (with_reducible refine (K5.out _ A3 k3 HS3.out).mono ?_); rintro e w6 ⟨rfl, hu⟩; have HSl3 := Lib.hid (HSl2.out.up hu); obtain ⟨U6, E6⟩ := hold1 wc g hu; have c2 := hu.keep _ _ _ c0; clear hu)
    | (go_at_call 28; (with_reducible refine (K6.out _ (HSl3.out.up ((Up.refl _).alloc _ _))).mono ?_); rintro e w7 ⟨rfl, hu⟩; obtain ⟨U7, E7⟩ := hold2 wc g w6.heap.size hu; clear hu)
    | (go_at_call 12; (with_reducible refine (KA.out _).mono ?_); rintro e w8 ⟨rfl, hu⟩; have HU8 := Lib.hid (HUc.out.trans ((U7.out.alloc _ _).trans hu)); clear hu))
  go_ret
  exact ⟨rfl, HU8.out⟩

set_option maxRecDepth 100000 in
theorem halveTruth_lifted (os : Os) (started : os.Started) (H : Type) (enc : TypeId × Value → H) :
    ReturnsInHanded {} Try.checked os 6 .any (Rows.halveTruthSpec.pre6 enc Try.prog Try.f6 Rows.halveTruthRow.domain false) (Rows.halveTruthSpec.post enc Try.prog Try.f6 false true false false) := by
  refine returnsInHanded_of_change_sized (C := Try.checked) halveTruth_own started (by kernel_rfl) Try.func6
    (ChangeSpec.witness6 (enc := enc) (C := Try.checked) false ⟨#[], #[.slice none 0 0, .int .i64 0, .int .i64 0], []⟩ 8 (by kernel_rfl) (by kernel_rfl) (by kernel_rfl) (by kernel_rfl)) ?_
  intro W base args ds gs before hval0 hW hcnd hsz0 _
  have hval : ∀ (j : Nat) t v, Try.f6.params[j]? = some t → args[j]? = some v → Value.okWide Try.prog W .any base t v := hval0
  have hW' := hW
  obtain ⟨p, q, hA0, hV, rfl, hfz, hnd⟩ := hW'
  have hA : DataW.TrodAll enc Try.prog W 0 (fun _ => true) true Try.f6.params.toList args.toList ds p := hA0
  rw [Try.params6] at hA hval
  obtain ⟨v0, vs0, d0, ds0, p0, q0, hargs, rfl, rfl, h0, r0⟩ := trodAll_cons hA
  obtain ⟨v1, vs1, d1, ds1, p1, q1, rfl, rfl, rfl, h1, r1⟩ := trodAll_cons r0
  obtain ⟨v2, vs2, d2, ds2, p2, q2, rfl, rfl, rfl, h2, r2⟩ := trodAll_cons r1
  obtain ⟨rfl, rfl, rfl⟩ := trodAll_nil r2
  obtain rfl : args = #[v0, v1, v2] := by cases args; simp_all
  obtain ⟨rfl, rfl⟩ := trodVars_none hV
  have hlt := fun x hx => hW.lt x hx
  have k0 := h0
  obtain ⟨n0, m0, A0, L0, rfl, hk0, hS0, hI0⟩ := open_items2 (hval 0 43 v0 rfl rfl) h0
  have k1 := h1
  obtain ⟨a1, rfl, rfl, rfl, w1⟩ := open_int Try.underlying3 (hval 1 3 v1 rfl rfl) h1
  have k2 := h2
  obtain ⟨a2, rfl, rfl, rfl, w2⟩ := open_int Try.underlying2 (hval 2 2 v2 rfl rfl) h2
  refine (halveTruth_walk n0 m0 A0 L0 hk0 hI0 a1 w1 a2 w2 W hS0).mono fun e W' ⟨he, hg⟩ => ?_
  subst he
  exact ⟨_, rfl, post_of_same (pv := []) hW (fun _ _ _ => (trodAll_cons_mk (shut_bool Try.underlying4 _) trodAll_mk0)) (fun sp hsp => (trodAll_cons_mk (stay (by kernel_rfl) (of_decide_eq_true (by kernel_rfl)) k0 hg hlt (fun x hx => by first | (simp at hx; done) | simp [hx]) hsp) (trodAll_cons_mk (stay (by kernel_rfl) (of_decide_eq_true (by kernel_rfl)) k1 hg hlt (fun x hx => by first | (simp at hx; done) | simp [hx]) hsp) (trodAll_cons_mk (stay (by kernel_rfl) (of_decide_eq_true (by kernel_rfl)) k2 hg hlt (fun x hx => by first | (simp at hx; done) | simp [hx]) hsp) trodAll_mk0)))) (fun _ _ => rfl) rfl
    (hg.grown.frame _) hg.grown.2.1 (ok_one (by kernel_rfl) rfl (okWide_bool_mk Try.underlying4 _))⟩

theorem halveTruth_over : Rows.halveTruthRow.holds Try.pinned (OpenSpec.ofChange Rows.halveTruthSpec) :=
  OpenClaim.holds_of_wide 6 Try.f6 rfl rfl rfl rfl rfl rfl rfl ⟨rfl, rfl, rfl, rfl, rfl⟩ rfl rfl rfl rfl rfl (by kernel_rfl) Try.func6 (by kernel_rfl)
    (of_decide_eq_true (by kernel_rfl)) (by unfold Func.isWrapper; first | (rw [if_pos (by decide +kernel)]; kernel_rfl) | (rw [if_neg (by decide +kernel)]; exact ⟨rfl, rfl⟩))
    (fun os started H enc _ => halveTruth_lifted os started H enc)

theorem halveTruth_holds : Rows.HalveTruthSaid :=
  halveTruth_over
end Go.Proofs.Ytegaeaonoggmkaa
