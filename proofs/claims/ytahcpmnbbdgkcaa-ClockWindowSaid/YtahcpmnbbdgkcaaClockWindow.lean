/- Proved: for all int64 numbers now, w, t and u the law ClockWindow returns true: a tick is live exactly from the first tick of the window to now, and a live tick was live at every tick in between. Conditions: none. -/
import Derived.Test.YtahcpmnbbdgkcaaRows
import Derived.WalkKit
import Derived.ProofKit
import Derived.OpenShut
import Derived.Lib.SmallJoins
import Derived.Test.YtahcpmnbbdgkcaaCFrame
import Derived.SizedLaws
import Derived.Test.YtahcpmnbbdgkcaaCClock
namespace Go.Proofs.Ytahcpmnbbdgkcaa
open Go.ChangeShapes Go.WideShapes Go.ChangeAt Go.RowKit Go.Joins
set_option linter.unusedVariables false

theorem clockWindow_own : ownKnob Try.prog.godebug = none := by kernel_rfl

theorem live_between {now v t u : Int} (h : liveB now v t = true) (h1 : t ≤ u) (h2 : u ≤ now) : liveB u v t = true := by
  unfold liveB at h
  simp only [Bool.and_eq_true, decide_eq_true_eq] at h
  obtain ⟨⟨⟨hn, hv⟩, ha⟩, hb⟩ := h
  have hf := firZ_yes (now := now) (v := v) (by rw [hn, hv]; rfl)
  have n1 := tickB_true hn
  have v1 := winB_true hv
  have hu : tickB u = true := tickB_yes (by omega) (by omega)
  have hg := firZ_yes (now := u) (v := v) (by rw [hu, hv]; rfl)
  unfold liveB
  rw [hu, hv, decide_eq_true (p := firZ u v ≤ t) (by omega), decide_eq_true h1]
  rfl
theorem clockWindow_walk (now : Int) (h0 : (Lit.int .i64 now).wf = true) (v : Int) (h1 : (Lit.int .i64 v).wf = true) (t : Int) (h2 : (Lit.int .i64 t).wf = true) (u : Int) (h3 : (Lit.int .i64 u).wf = true) (w : World) :
    Calls Try.prog 5 #[.int .i64 now, .int .i64 v, .int .i64 t, .int .i64 u] w fun e w' => e = .returned (.bool true) ∧ Up w w' := by
  clear h0 h1 h2 h3
  have KT := Lib.hid (rtick_any now)
  have KW := Lib.hid (rwin_any v)
  have KF := Lib.hid (first_any now v)
  have KL := Lib.hid (live_any now v t)
  have KU := Lib.hid (live_any u v t)
  cases ht : tickB now with
  | false =>
    rw [liveB_no (by rw [ht]; rfl)] at KL
    rw [ht] at KT
    clear ht
    go_enter Try.func5, Try.ntmps5
    go_wp2_with (first
      | (go_at_call 9; (with_reducible refine (KT.out _).mono ?_); rintro e w' ⟨rfl, rfl⟩)
      | (go_at_call 16; (with_reducible refine (KW.out _).mono ?_); rintro e w' ⟨rfl, rfl⟩)
      | (go_at_call 14; (with_reducible refine (KF.out _).mono ?_); rintro e w' ⟨rfl, rfl⟩)
      | (go_at_call 12; (with_reducible refine (KL.out _).mono ?_); rintro e w' ⟨rfl, rfl⟩)
      | (go_at_call 12; (with_reducible refine (KU.out _).mono ?_); rintro e w' ⟨rfl, rfl⟩)
      | (go_at_call 10; (with_reducible refine (awake6_any _).mono ?_); rintro e w' ⟨rfl, rfl⟩))
    go_ret
    exact ⟨by first | rfl | (simp; done) | (simp; omega), Up.refl _⟩
  | true =>
    rw [ht] at KT
    cases hv : winB v with
    | false =>
      rw [liveB_no (by rw [hv, Bool.and_false])] at KL
      rw [hv] at KW
      clear ht hv
      go_enter Try.func5, Try.ntmps5
      go_wp2_with (first
        | (go_at_call 9; (with_reducible refine (KT.out _).mono ?_); rintro e w' ⟨rfl, rfl⟩)
        | (go_at_call 16; (with_reducible refine (KW.out _).mono ?_); rintro e w' ⟨rfl, rfl⟩)
        | (go_at_call 14; (with_reducible refine (KF.out _).mono ?_); rintro e w' ⟨rfl, rfl⟩)
        | (go_at_call 12; (with_reducible refine (KL.out _).mono ?_); rintro e w' ⟨rfl, rfl⟩)
        | (go_at_call 12; (with_reducible refine (KU.out _).mono ?_); rintro e w' ⟨rfl, rfl⟩)
        | (go_at_call 10; (with_reducible refine (awake6_any _).mono ?_); rintro e w' ⟨rfl, rfl⟩))
      go_ret
      exact ⟨by first | rfl | (simp; done) | (simp; omega), Up.refl _⟩
    | true =>
      have hb : (tickB now && winB v) = true := by rw [ht, hv]; rfl
      rw [hv] at KW
      by_cases h1 : firZ now v ≤ t
      · by_cases h2 : t ≤ now
        · have hl : liveB now v t = true := by rw [liveB_yes hb, decide_eq_true h1, decide_eq_true h2]; rfl
          rw [hl] at KL
          have t1 : decide (firZ now v ≤ t) = true := decide_eq_true h1
          have t2 : decide (t ≤ now) = true := decide_eq_true h2
          by_cases h3 : u < t
          · clear hl hb ht hv h1
            generalize firZ now v = x at *
            go_enter Try.func5, Try.ntmps5
            go_wp2_with (first
              | (go_at_call 9; (with_reducible refine (KT.out _).mono ?_); rintro e w' ⟨rfl, rfl⟩)
              | (go_at_call 16; (with_reducible refine (KW.out _).mono ?_); rintro e w' ⟨rfl, rfl⟩)
              | (go_at_call 14; (with_reducible refine (KF.out _).mono ?_); rintro e w' ⟨rfl, rfl⟩)
              | (go_at_call 12; (with_reducible refine (KL.out _).mono ?_); rintro e w' ⟨rfl, rfl⟩)
              | (go_at_call 12; (with_reducible refine (KU.out _).mono ?_); rintro e w' ⟨rfl, rfl⟩)
              | (go_at_call 10; (with_reducible refine (awake6_any _).mono ?_); rintro e w' ⟨rfl, rfl⟩))
            go_ret
            exact ⟨by first | rfl | (simp; done) | (simp; omega), Up.refl _⟩
          · by_cases h4 : now < u
            · clear hl hb ht hv h1
              generalize firZ now v = x at *
              go_enter Try.func5, Try.ntmps5
              go_wp2_with (first
                | (go_at_call 9; (with_reducible refine (KT.out _).mono ?_); rintro e w' ⟨rfl, rfl⟩)
                | (go_at_call 16; (with_reducible refine (KW.out _).mono ?_); rintro e w' ⟨rfl, rfl⟩)
                | (go_at_call 14; (with_reducible refine (KF.out _).mono ?_); rintro e w' ⟨rfl, rfl⟩)
                | (go_at_call 12; (with_reducible refine (KL.out _).mono ?_); rintro e w' ⟨rfl, rfl⟩)
                | (go_at_call 12; (with_reducible refine (KU.out _).mono ?_); rintro e w' ⟨rfl, rfl⟩)
                | (go_at_call 10; (with_reducible refine (awake6_any _).mono ?_); rintro e w' ⟨rfl, rfl⟩))
              go_ret
              exact ⟨by first | rfl | (simp; done) | (simp; omega), Up.refl _⟩
            · rw [live_between hl (by omega) (by omega)] at KU
              clear hl hb ht hv h1
              generalize firZ now v = x at *
              go_enter Try.func5, Try.ntmps5
              go_wp2_with (first
                | (go_at_call 9; (with_reducible refine (KT.out _).mono ?_); rintro e w' ⟨rfl, rfl⟩)
                | (go_at_call 16; (with_reducible refine (KW.out _).mono ?_); rintro e w' ⟨rfl, rfl⟩)
                | (go_at_call 14; (with_reducible refine (KF.out _).mono ?_); rintro e w' ⟨rfl, rfl⟩)
                | (go_at_call 12; (with_reducible refine (KL.out _).mono ?_); rintro e w' ⟨rfl, rfl⟩)
                | (go_at_call 12; (with_reducible refine (KU.out _).mono ?_); rintro e w' ⟨rfl, rfl⟩)
                | (go_at_call 10; (with_reducible refine (awake6_any _).mono ?_); rintro e w' ⟨rfl, rfl⟩))
              go_ret
              exact ⟨by first | rfl | (simp; done) | (simp; omega), Up.refl _⟩
        · have hl : liveB now v t = false := by rw [liveB_yes hb, decide_eq_false h2, Bool.and_false]
          rw [hl] at KL
          have t1 : decide (firZ now v ≤ t) = true := decide_eq_true h1
          have t2 : decide (t ≤ now) = false := decide_eq_false h2
          clear hl hb ht hv h1
          generalize firZ now v = x at *
          go_enter Try.func5, Try.ntmps5
          go_wp2_with (first
            | (go_at_call 9; (with_reducible refine (KT.out _).mono ?_); rintro e w' ⟨rfl, rfl⟩)
            | (go_at_call 16; (with_reducible refine (KW.out _).mono ?_); rintro e w' ⟨rfl, rfl⟩)
            | (go_at_call 14; (with_reducible refine (KF.out _).mono ?_); rintro e w' ⟨rfl, rfl⟩)
            | (go_at_call 12; (with_reducible refine (KL.out _).mono ?_); rintro e w' ⟨rfl, rfl⟩)
            | (go_at_call 12; (with_reducible refine (KU.out _).mono ?_); rintro e w' ⟨rfl, rfl⟩)
            | (go_at_call 10; (with_reducible refine (awake6_any _).mono ?_); rintro e w' ⟨rfl, rfl⟩))
          go_ret
          exact ⟨by first | rfl | (simp; done) | (simp; omega), Up.refl _⟩
      · have hl : liveB now v t = false := by rw [liveB_yes hb, decide_eq_false h1]; rfl
        rw [hl] at KL
        have t1 : decide (firZ now v ≤ t) = false := decide_eq_false h1
        clear hl hb ht hv h1
        generalize firZ now v = x at *
        go_enter Try.func5, Try.ntmps5
        go_wp2_with (first
          | (go_at_call 9; (with_reducible refine (KT.out _).mono ?_); rintro e w' ⟨rfl, rfl⟩)
          | (go_at_call 16; (with_reducible refine (KW.out _).mono ?_); rintro e w' ⟨rfl, rfl⟩)
          | (go_at_call 14; (with_reducible refine (KF.out _).mono ?_); rintro e w' ⟨rfl, rfl⟩)
          | (go_at_call 12; (with_reducible refine (KL.out _).mono ?_); rintro e w' ⟨rfl, rfl⟩)
          | (go_at_call 12; (with_reducible refine (KU.out _).mono ?_); rintro e w' ⟨rfl, rfl⟩)
          | (go_at_call 10; (with_reducible refine (awake6_any _).mono ?_); rintro e w' ⟨rfl, rfl⟩))
        go_ret
        exact ⟨by first | rfl | (simp; done) | (simp; omega), Up.refl _⟩

set_option maxRecDepth 100000 in
theorem clockWindow_lifted (os : Os) (started : os.Started) (H : Type) (enc : TypeId × Value → H) :
    ReturnsInHanded {} Try.checked os 5 .any (Rows.clockWindowSpec.pre6 enc Try.prog Try.f5 Rows.clockWindowRow.domain false) (Rows.clockWindowSpec.post enc Try.prog Try.f5 false true false false) := by
  refine returnsInHanded_of_change_sized (C := Try.checked) clockWindow_own started (by kernel_rfl) Try.func5
    (ChangeSpec.witness6 (enc := enc) (C := Try.checked) false ⟨#[], #[.int .i64 0, .int .i64 0, .int .i64 0, .int .i64 0], []⟩ 8 (by kernel_rfl) (by kernel_rfl) (by kernel_rfl) (by kernel_rfl)) ?_
  intro W base args ds gs before hval0 hW hcnd hsz0 _
  have hval : ∀ (j : Nat) t v, Try.f5.params[j]? = some t → args[j]? = some v → Value.okWide Try.prog W .any base t v := hval0
  have hW' := hW
  obtain ⟨p, q, hA0, hV, rfl, hfz, hnd⟩ := hW'
  have hA : DataW.TrodAll enc Try.prog W 0 (fun _ => true) true Try.f5.params.toList args.toList ds p := hA0
  rw [Try.params5] at hA hval
  obtain ⟨v0, vs0, d0, ds0, p0, q0, hargs, rfl, rfl, h0, r0⟩ := trodAll_cons hA
  obtain ⟨v1, vs1, d1, ds1, p1, q1, rfl, rfl, rfl, h1, r1⟩ := trodAll_cons r0
  obtain ⟨v2, vs2, d2, ds2, p2, q2, rfl, rfl, rfl, h2, r2⟩ := trodAll_cons r1
  obtain ⟨v3, vs3, d3, ds3, p3, q3, rfl, rfl, rfl, h3, r3⟩ := trodAll_cons r2
  obtain ⟨rfl, rfl, rfl⟩ := trodAll_nil r3
  obtain rfl : args = #[v0, v1, v2, v3] := by cases args; simp_all
  obtain ⟨rfl, rfl⟩ := trodVars_none hV
  have hlt := fun x hx => hW.lt x hx
  have k0 := h0
  obtain ⟨a0, rfl, rfl, rfl, w0⟩ := open_int Try.underlying2 (hval 0 2 v0 rfl rfl) h0
  have k1 := h1
  obtain ⟨a1, rfl, rfl, rfl, w1⟩ := open_int Try.underlying2 (hval 1 2 v1 rfl rfl) h1
  have k2 := h2
  obtain ⟨a2, rfl, rfl, rfl, w2⟩ := open_int Try.underlying2 (hval 2 2 v2 rfl rfl) h2
  have k3 := h3
  obtain ⟨a3, rfl, rfl, rfl, w3⟩ := open_int Try.underlying2 (hval 3 2 v3 rfl rfl) h3
  refine (clockWindow_walk a0 w0 a1 w1 a2 w2 a3 w3 W).mono fun e W' ⟨he, hg⟩ => ?_
  subst he
  exact ⟨_, rfl, post_of_same (pv := []) hW (fun _ _ _ => (trodAll_cons_mk (shut_bool Try.underlying4 _) trodAll_mk0)) (fun sp hsp => (trodAll_cons_mk (stay (by kernel_rfl) (of_decide_eq_true (by kernel_rfl)) k0 hg hlt (fun x hx => by first | (simp at hx; done) | simp [hx]) hsp) (trodAll_cons_mk (stay (by kernel_rfl) (of_decide_eq_true (by kernel_rfl)) k1 hg hlt (fun x hx => by first | (simp at hx; done) | simp [hx]) hsp) (trodAll_cons_mk (stay (by kernel_rfl) (of_decide_eq_true (by kernel_rfl)) k2 hg hlt (fun x hx => by first | (simp at hx; done) | simp [hx]) hsp) (trodAll_cons_mk (stay (by kernel_rfl) (of_decide_eq_true (by kernel_rfl)) k3 hg hlt (fun x hx => by first | (simp at hx; done) | simp [hx]) hsp) trodAll_mk0))))) (fun _ _ => rfl) rfl
    (hg.grown.frame _) hg.grown.2.1 (ok_one (by kernel_rfl) rfl (okWide_bool_mk Try.underlying4 _))⟩

theorem clockWindow_over : Rows.clockWindowRow.holds Try.pinned (OpenSpec.ofChange Rows.clockWindowSpec) :=
  OpenClaim.holds_of_wide 5 Try.f5 rfl rfl rfl rfl rfl rfl rfl ⟨rfl, rfl, rfl, rfl, rfl⟩ rfl rfl rfl rfl rfl (by kernel_rfl) Try.func5 (by kernel_rfl)
    (of_decide_eq_true (by kernel_rfl)) (by unfold Func.isWrapper; first | (rw [if_pos (by decide +kernel)]; kernel_rfl) | (rw [if_neg (by decide +kernel)]; exact ⟨rfl, rfl⟩))
    (fun os started H enc _ => clockWindow_lifted os started H enc)

theorem clockWindow_holds : Rows.ClockWindowSaid :=
  clockWindow_over
#print axioms clockWindow_holds
end Go.Proofs.Ytahcpmnbbdgkcaa
