/- Proved: for every state, tick and value the law ExtremeStates returns true: Validate, Advance, Add and Ask of package extreme answer as the reference does. Conditions: none. -/
import Derived.Test.YtfcknhpllhkpeaaRows
import Derived.Test.YtfcknhpllhkpeaaZHMathq10
import Derived.Test.YtfcknhpllhkpeaaZUFrameq92
import Derived.Test.YtfcknhpllhkpeaaZUSameq89
namespace Go.Proofs.Ytfcknhpllhkpeaa
open Go.ChangeShapes Go.WideShapes Go.ChangeAt Go.RowKit Go.Joins
set_option linter.unusedVariables false

theorem extremeStates_own : ownKnob Try.prog.godebug = none := by kernel_rfl

set_option maxHeartbeats 16000000 in
set_option maxRecDepth 100000 in
theorem extremeStates_walk (mx : Bool) (v c now : Int) (n k : Nat) (A : Option Addr) (L : List It) (hk : n ≤ k) (t : Int) (_ : (Lit.int .i64 t).wf = true) (x : Int) (_ : (Lit.int .i64 x).wf = true) (w : World) (hS : Sl w A n L) :
    Calls Try.prog 4 #[.agg #[.bool mx, .int .i64 v, .int .i64 c, .int .i64 now, .slice A n k], .int .i64 t, .int .i64 x] w fun e w' => e = .returned (.bool true) ∧ Up w w' := by
  have KA := Lib.hid awake17_up
  have KF := Lib.hid (few17_up mx v c now n k A)
  by_cases hf : (n : Int) ≤ 200
  case neg =>
    rw [decide_eq_false hf] at KF
    clear hS hk
    go_enter Try.func4, Try.ntmps4
    go_wp2_with (first
      | (go_at_call 13; (with_reducible refine (KF.out _).mono ?_); rintro e w1 ⟨rfl, hu⟩; have HU1 := Lib.hid (((Up.refl w).alloc _ _).trans hu); clear hu)
      | (go_at_call 12; (with_reducible refine (KA.out _).mono ?_); rintro e w2 ⟨rfl, hu⟩; have HU2 := Lib.hid (HU1.out.trans hu); clear hu))
    go_ret
    exact ⟨rfl, HU2.out⟩
  rw [decide_eq_true hf] at KF
  have HS := Lib.hid hS
  have hn : n ≤ 40000 := by omega
  obtain ⟨ab, av, ac, aw, aX, ae, h1⟩ : ∃ z0 z1 z2 z3 zX ze, avX mx v c now L t = ((z0, z1, z2, z3, zX, ze) : QX) := ⟨_, _, _, _, _, _, rfl⟩
  have al : aX.length ≤ 1000000 := by have q := avX_len mx v c now L t; rw [h1] at q; exact Nat.le_trans q (by rw [hS.1]; omega)
  obtain ⟨bb, bv, bc, bw, bX, be, h2⟩ : ∃ z0 z1 z2 z3 zX ze, anX mx v c now L x = ((z0, z1, z2, z3, zX, ze) : QX) := ⟨_, _, _, _, _, _, rfl⟩
  have bl : bX.length ≤ 1000000 := by have q := anX_len mx v c now L x; rw [h2] at q; exact Nat.le_trans q (by rw [hS.1]; omega)
  have K1 := Lib.hid (fun W (hS : Sl W A n L) => (advance17_up mx v c now n k A L t hn hk W hS).mono (fun e w' (h : RsX _ W e w') => by rw [h1] at h; exact h.t.of))
  have K2 := Lib.hid (fun W (hS : Sl W A n L) => (radvance17_up mx v c now n k A L t hn hk W hS).mono (fun e w' (h : RsX _ W e w') => by rw [h1] at h; exact h.t.of))
  have K3 := Lib.hid (fun W (hS : Sl W A n L) => (add17_up mx v c now n k A L x hn hk W hS).mono (fun e w' (h : RsX _ W e w') => by rw [h2] at h; exact h.t.of))
  have K4 := Lib.hid (fun W (hS : Sl W A n L) => (radd17_up mx v c now n k A L x hn hk W hS).mono (fun e w' (h : RsX _ W e w') => by rw [h2] at h; exact h.t.of))
  have K5 := Lib.hid (fun W (hS : Sl W A n L) => ask17_up mx v c now n k A L hn hk W hS)
  have K6 := Lib.hid (fun W (hS : Sl W A n L) => rask17_up mx v c now n k A L hn hk W hS)
  have K7 := Lib.hid (fun W (hS : Sl W A n L) => validate17_up mx v c now n k A L (by omega) W hS)
  have K8 := Lib.hid (fun W (hS : Sl W A n L) => rvalidate17_up mx v c now n k A L (by omega) W hS)
  obtain ⟨g0, g1, h3⟩ : ∃ a b, akX mx v c now L = (a, b) := ⟨_, _, rfl⟩
  rw [h3] at K5 K6
  simp only at K5 K6
  generalize stXE mx v c now L = y at *
  have K9 := Lib.hid (fun W A1 A2 k1 k2 (hA : Sl W A1 aX.length aX) (hB : Sl W A2 aX.length aX) => same17_t ab av ac aw aX.length k1 k2 A1 A2 aX al W hA hB)
  have K10 := Lib.hid (fun W A1 A2 k1 k2 (hA : Sl W A1 bX.length bX) (hB : Sl W A2 bX.length bX) => same17_t bb bv bc bw bX.length k1 k2 A1 A2 bX bl W hA hB)
  clear h1 h2 h3 hS hk hf al bl
  generalize aX.length = an at *
  generalize bX.length = bn at *
  have tt1 : (ae == ae) = true := by simp
  have tt2 : (be == be) = true := by simp
  have tt3 : (g0 == g0) = true := by simp
  have tt5 : (g1 == g1) = true := by simp
  have tt4 : (y == y) = true := by simp
  go_enter Try.func4, Try.ntmps4
  go_upto_region 9 with (first
      | (go_at_call 13; (with_reducible refine (KF.out _).mono ?_); rintro e w1 ⟨rfl, hu⟩; obtain ⟨U1, E1⟩ := hold1 w w.heap.size hu; clear hu)
      | (go_at_call 14; (with_reducible refine (K1.out _ (HS.out.up U1.out)).mono ?_); rintro e w2 ⟨A1, k1, rfl, hM1, hu⟩; have HM1 := Lib.hid hM1; obtain ⟨U2, E2⟩ := hold1 w w.heap.size hu; clear hu hM1)
      | (go_at_call 15; (with_reducible refine (K2.out _ (HS.out.up (U2.out.alloc _ _))).mono ?_); rintro e w3 ⟨A2, k2, rfl, hM2, hu⟩; have hv := ((Up.refl w2).alloc #[.bool ab, .int .i64 av, .int .i64 ac, .int .i64 aw, .slice A1 an k1] 24).trans hu; have HM1 := Lib.hid (HM1.out.up hv); clear hv; have HM2 := Lib.hid hM2; obtain ⟨U3, E3⟩ := hold2 w w.heap.size w2.heap.size hu; clear hu hM2)
      | (go_at_call 16; (with_reducible refine (K3.out _ (HS.out.up (U3.out.alloc _ _))).mono ?_); rintro e w4 ⟨A3, k3, rfl, hM3, hu⟩; have hv := ((Up.refl w3).alloc #[.bool ab, .int .i64 av, .int .i64 ac, .int .i64 aw, .slice A2 an k2] 24).trans hu; have HM1 := Lib.hid (HM1.out.up hv); have HM2 := Lib.hid (HM2.out.up hv); clear hv; have HM3 := Lib.hid hM3; obtain ⟨U4, E4⟩ := hold3 w w.heap.size w2.heap.size w3.heap.size hu; clear hu hM3)
      | (go_at_call 17; (with_reducible refine (K4.out _ (HS.out.up (U4.out.alloc _ _))).mono ?_); rintro e w5 ⟨A4, k4, rfl, hM4, hu⟩; have hv := ((Up.refl w4).alloc #[.bool bb, .int .i64 bv, .int .i64 bc, .int .i64 bw, .slice A3 bn k3] 24).trans hu; have HM1 := Lib.hid (HM1.out.up hv); have HM2 := Lib.hid (HM2.out.up hv); have HM3 := Lib.hid (HM3.out.up hv); clear hv; have HM4 := Lib.hid hM4; obtain ⟨U5, E5⟩ := hold4 w w.heap.size w2.heap.size w3.heap.size w4.heap.size hu; clear hu hM4)
      | (go_at_call 18; (with_reducible refine (K5.out _ (HS.out.up (U5.out.alloc _ _))).mono ?_); rintro e w6 ⟨rfl, hu⟩; have hv := ((Up.refl w5).alloc #[.bool bb, .int .i64 bv, .int .i64 bc, .int .i64 bw, .slice A4 bn k4] 24).trans hu; have HM1 := Lib.hid (HM1.out.up hv); have HM2 := Lib.hid (HM2.out.up hv); have HM3 := Lib.hid (HM3.out.up hv); have HM4 := Lib.hid (HM4.out.up hv); clear hv; obtain ⟨U6, E6⟩ := hold5 w w.heap.size w2.heap.size w3.heap.size w4.heap.size w5.heap.size hu; clear hu)
      | (go_at_call 19; (with_reducible refine (K6.out _ (HS.out.up U6.out)).mono ?_); rintro e w7 ⟨rfl, hu⟩; have hv := (Up.refl w6).trans hu; have HM1 := Lib.hid (HM1.out.up hv); have HM2 := Lib.hid (HM2.out.up hv); have HM3 := Lib.hid (HM3.out.up hv); have HM4 := Lib.hid (HM4.out.up hv); clear hv; obtain ⟨U7, E7⟩ := hold5 w w.heap.size w2.heap.size w3.heap.size w4.heap.size w5.heap.size hu; clear hu))
  refine (show ∀ ws : World, ws = _ → Code.wp _ _ _ _ ws from fun ws hws => ?_) _ rfl
  have HM1 := Lib.hid (HM1.out.up (Up.of_eq hws))
  have HM2 := Lib.hid (HM2.out.up (Up.of_eq hws))
  have HM3 := Lib.hid (HM3.out.up (Up.of_eq hws))
  have HM4 := Lib.hid (HM4.out.up (Up.of_eq hws))
  obtain ⟨Us, Es⟩ := hold5 w w.heap.size w2.heap.size w3.heap.size w4.heap.size w5.heap.size (Up.of_eq hws)
  clear hws
  go_region_held3 (KB5 w.heap.size w2.heap.size w3.heap.size w4.heap.size w5.heap.size ws ws) (first | (with_reducible exact KB5.start (Lib.hid (Up.refl ws))) | (with_reducible exact KB5.next (by assumption) (by assumption))) (first
      | (go_at_call 20; (with_reducible refine (K7.out _ (HS.out.up (Us.out.trans (KB5.to (by assumption))))).mono ?_); rintro e w9 ⟨rfl, hu⟩)
      | (go_at_call 21; (with_reducible refine (K8.out _ (HS.out.up (Us.out.trans (KB5.to (by assumption))))).mono ?_); rintro e w9 ⟨rfl, hu⟩)
      | (go_at_call 11; (with_reducible refine (K9.out _ A1 A2 k1 k2 (HM1.out.up (KB5.to (by assumption))) (HM2.out.up (KB5.to (by assumption)))).mono ?_); rintro e w9 ⟨rfl, hu⟩)
      | (go_at_call 11; (with_reducible refine (K10.out _ A3 A4 k3 k4 (HM3.out.up (KB5.to (by assumption))) (HM4.out.up (KB5.to (by assumption)))).mono ?_); rintro e w9 ⟨rfl, hu⟩)
      | (go_at_call 12; (with_reducible refine (KA.out _).mono ?_); rintro e w9 ⟨rfl, hu⟩))
  go_wp2_with fail
  go_ret
  exact ⟨rfl, Us.out.trans (KB5.to (by assumption))⟩

set_option maxRecDepth 100000 in
theorem extremeStates_lifted (os : Os) (started : os.Started) (H : Type) (enc : TypeId × Value → H) :
    ReturnsInHanded {} Try.checked os 4 .any (Rows.extremeStatesSpec.pre6 enc Try.prog Try.f4 Rows.extremeStatesRow.domain false) (Rows.extremeStatesSpec.post enc Try.prog Try.f4 false true false false) := by
  refine returnsInHanded_of_change_sized (C := Try.checked) extremeStates_own started (by kernel_rfl) Try.func4
    (ChangeSpec.witness6 (enc := enc) (C := Try.checked) false ⟨#[], #[.agg #[.bool false, .int .i64 0, .int .i64 0, .int .i64 0, .slice none 0 0], .int .i64 0, .int .i64 0], []⟩ 8 (by kernel_rfl) (by kernel_rfl) (by kernel_rfl) (by kernel_rfl)) ?_
  intro W base args ds gs before hval0 hW hcnd hsz0 _
  have hval : ∀ (j : Nat) t v, Try.f4.params[j]? = some t → args[j]? = some v → Value.okWide Try.prog W .any base t v := hval0
  have hW' := hW
  obtain ⟨p, q, hA0, hV, rfl, hfz, hnd⟩ := hW'
  have hA : DataW.TrodAll enc Try.prog W 0 (fun _ => true) true Try.f4.params.toList args.toList ds p := hA0
  rw [Try.params4] at hA hval
  obtain ⟨v0, vs0, d0, ds0, p0, q0, hargs, rfl, rfl, h0, r0⟩ := trodAll_cons hA
  obtain ⟨v1, vs1, d1, ds1, p1, q1, rfl, rfl, rfl, h1, r1⟩ := trodAll_cons r0
  obtain ⟨v2, vs2, d2, ds2, p2, q2, rfl, rfl, rfl, h2, r2⟩ := trodAll_cons r1
  obtain ⟨rfl, rfl, rfl⟩ := trodAll_nil r2
  obtain rfl : args = #[v0, v1, v2] := by cases args; simp_all
  obtain ⟨rfl, rfl⟩ := trodVars_none hV
  have hlt := fun x hx => hW.lt x hx
  have k0 := h0
  obtain ⟨mx0, b0, c0, e0, n0, m0, A0, L0, rfl, hk0, hS0⟩ := open_state17 (hval 0 24 v0 rfl rfl) h0
  have k1 := h1
  obtain ⟨a1, rfl, rfl, rfl, w1⟩ := open_int Try.underlying2 (hval 1 2 v1 rfl rfl) h1
  have k2 := h2
  obtain ⟨a2, rfl, rfl, rfl, w2⟩ := open_int Try.underlying2 (hval 2 2 v2 rfl rfl) h2
  refine (extremeStates_walk mx0 b0 c0 e0 n0 m0 A0 L0 hk0 a1 w1 a2 w2 W hS0).mono fun e W' ⟨he, hg⟩ => ?_
  subst he
  exact ⟨_, rfl, post_of_same (pv := []) hW (fun _ _ _ => (trodAll_cons_mk (shut_bool Try.underlying4 _) trodAll_mk0)) (fun sp hsp => (trodAll_cons_mk (stay (by kernel_rfl) (of_decide_eq_true (by kernel_rfl)) k0 hg hlt (fun x hx => by first | (simp at hx; done) | simp [hx]) hsp) (trodAll_cons_mk (stay (by kernel_rfl) (of_decide_eq_true (by kernel_rfl)) k1 hg hlt (fun x hx => by first | (simp at hx; done) | simp [hx]) hsp) (trodAll_cons_mk (stay (by kernel_rfl) (of_decide_eq_true (by kernel_rfl)) k2 hg hlt (fun x hx => by first | (simp at hx; done) | simp [hx]) hsp) trodAll_mk0)))) (fun _ _ => rfl) rfl
    (hg.grown.frame _) hg.grown.2.1 (ok_one (by kernel_rfl) rfl (okWide_bool_mk Try.underlying4 _))⟩

theorem extremeStates_over : Rows.extremeStatesRow.holds Try.pinned (OpenSpec.ofChange Rows.extremeStatesSpec) :=
  OpenClaim.holds_of_wide 4 Try.f4 rfl rfl rfl rfl rfl rfl rfl ⟨rfl, rfl, rfl, rfl, rfl⟩ rfl rfl rfl rfl rfl (by kernel_rfl) Try.func4 (by kernel_rfl)
    (of_decide_eq_true (by kernel_rfl)) (by unfold Func.isWrapper; first | (rw [if_pos (by decide +kernel)]; kernel_rfl) | (rw [if_neg (by decide +kernel)]; exact ⟨rfl, rfl⟩))
    (fun os started H enc _ => extremeStates_lifted os started H enc)

theorem extremeStates_holds : Rows.ExtremeStatesSaid :=
  extremeStates_over
end Go.Proofs.Ytfcknhpllhkpeaa
