/- Proved: for every list of int64 numbers ticks (of at most 2^47 - 4096 bytes, the form's own reach) and all int64 numbers now, to and w the law ClockLater returns true: as the clock moves, no fewer ticks have left. Conditions: none beside that reach. -/
import Derived.Test.YtahcpmnbbdgkcaaRows
import Derived.WalkKit
import Derived.ProofKit
import Derived.OpenShut
import Derived.Lib.SmallJoins
import Derived.Test.YtahcpmnbbdgkcaaCFrame
import Derived.SizedLaws
import Derived.Test.YtahcpmnbbdgkcaaCExp2
import Derived.Test.YtahcpmnbbdgkcaaCRExp
namespace Go.Proofs.Ytahcpmnbbdgkcaa
open Go.ChangeShapes Go.WideShapes Go.ChangeAt Go.RowKit Go.Joins
set_option linter.unusedVariables false

theorem clockLater_own : ownKnob Try.prog.godebug = none := by kernel_rfl

theorem cntN_mono {f g : Int} (h : f ≤ g) (L : List Int) : cntN f L ≤ cntN g L := by
  unfold cntN
  refine List.countP_mono_left (fun x _ hx => ?_)
  simp only [decide_eq_true_eq] at hx ⊢
  omega
theorem expZ_later {L : List Int} {now to v : Int} (h0 : 0 ≤ expZ L now v) (h1 : now ≤ to) (h2 : tickB to = true) : expZ L now v ≤ expZ L to v := by
  unfold expZ at h0
  by_cases hc : (tickB now && winB v && pastB L now) = true
  · simp only [Bool.and_eq_true] at hc
    obtain ⟨⟨hn, hv⟩, hp⟩ := hc
    obtain ⟨p1, p2⟩ := of_decide_eq_true hp
    have q : pastB L to = true := decide_eq_true ⟨p1, fun x hx => ⟨(p2 x hx).1, by have := (p2 x hx).2; omega⟩⟩
    unfold expZ
    rw [hn, hv, hp, h2, q]
    show (cntN (firZ now v) L : Int) ≤ (cntN (firZ to v) L : Int)
    have f1 := firZ_yes (now := now) (v := v) (by rw [hn, hv]; rfl)
    have f2 := firZ_yes (now := to) (v := v) (by rw [h2, hv]; rfl)
    have := cntN_mono (f := firZ now v) (g := firZ to v) (by omega) L
    omega
  · rw [if_neg hc] at h0
    omega
theorem clockLater_walk (n k : Nat) (A : Option Addr) (L : List Int) (hk : n ≤ k) (hz : n * 8 ≤ 140737488351232) (now : Int) (h1 : (Lit.int .i64 now).wf = true) (to : Int) (h2 : (Lit.int .i64 to).wf = true) (v : Int) (h3 : (Lit.int .i64 v).wf = true) (w : World) (hS : Sn w A n L) :
    Calls Try.prog 7 #[.slice A n k, .int .i64 now, .int .i64 to, .int .i64 v] w fun e w' => e = .returned (.bool true) ∧ Up w w' := by
  clear h1 h2 h3
  have K1 := Lib.hid (expired_up n k A L now v hz w hS)
  have K2 := Lib.hid (fun W (hu : Up w W) => expired_up n k A L to v hz W (hS.up hu))
  have KT := Lib.hid (rtick_any to)
  clear hS
  by_cases ha : expZ L now v < 0
  · generalize expZ L now v = x at *
    generalize expZ L to v = y at *
    go_enter Try.func7, Try.ntmps7
    go_wp2_with fail
    refine K1.out.mono ?_
    rintro e w' ⟨rfl, hu⟩
    have HU := Lib.hid hu
    clear hu
    go_wp2_with fail
    refine (K2.out _ HU.out).mono ?_
    rintro e w'' ⟨rfl, hu⟩
    have HU2 := Lib.hid (HU.out.trans hu)
    clear hu
    go_wp2_with (first
      | (go_at_call 9; (with_reducible refine (KT.out _).mono ?_); rintro e w' ⟨rfl, rfl⟩)
      | (go_at_call 10; (with_reducible refine (awake6_any _).mono ?_); rintro e w' ⟨rfl, rfl⟩))
    go_ret
    exact ⟨rfl, HU2.out⟩
  · by_cases hb : to < now
    · generalize expZ L now v = x at *
      generalize expZ L to v = y at *
      go_enter Try.func7, Try.ntmps7
      go_wp2_with fail
      refine K1.out.mono ?_
      rintro e w' ⟨rfl, hu⟩
      have HU := Lib.hid hu
      clear hu
      go_wp2_with fail
      refine (K2.out _ HU.out).mono ?_
      rintro e w'' ⟨rfl, hu⟩
      have HU2 := Lib.hid (HU.out.trans hu)
      clear hu
      go_wp2_with (first
        | (go_at_call 9; (with_reducible refine (KT.out _).mono ?_); rintro e w' ⟨rfl, rfl⟩)
        | (go_at_call 10; (with_reducible refine (awake6_any _).mono ?_); rintro e w' ⟨rfl, rfl⟩))
      go_ret
      exact ⟨rfl, HU2.out⟩
    · cases ht : tickB to with
      | false =>
        rw [ht] at KT
        clear ht
        generalize expZ L now v = x at *
        generalize expZ L to v = y at *
        go_enter Try.func7, Try.ntmps7
        go_wp2_with fail
        refine K1.out.mono ?_
        rintro e w' ⟨rfl, hu⟩
        have HU := Lib.hid hu
        clear hu
        go_wp2_with fail
        refine (K2.out _ HU.out).mono ?_
        rintro e w'' ⟨rfl, hu⟩
        have HU2 := Lib.hid (HU.out.trans hu)
        clear hu
        go_wp2_with (first
          | (go_at_call 9; (with_reducible refine (KT.out _).mono ?_); rintro e w' ⟨rfl, rfl⟩)
          | (go_at_call 10; (with_reducible refine (awake6_any _).mono ?_); rintro e w' ⟨rfl, rfl⟩))
        go_ret
        exact ⟨rfl, HU2.out⟩
      | true =>
        rw [ht] at KT
        have hc : expZ L now v ≤ expZ L to v := expZ_later (by omega) (by omega) ht
        clear ht
        generalize expZ L now v = x at *
        generalize expZ L to v = y at *
        go_enter Try.func7, Try.ntmps7
        go_wp2_with fail
        refine K1.out.mono ?_
        rintro e w' ⟨rfl, hu⟩
        have HU := Lib.hid hu
        clear hu
        go_wp2_with fail
        refine (K2.out _ HU.out).mono ?_
        rintro e w'' ⟨rfl, hu⟩
        have HU2 := Lib.hid (HU.out.trans hu)
        clear hu
        go_wp2_with (first
          | (go_at_call 9; (with_reducible refine (KT.out _).mono ?_); rintro e w' ⟨rfl, rfl⟩)
          | (go_at_call 10; (with_reducible refine (awake6_any _).mono ?_); rintro e w' ⟨rfl, rfl⟩))
        go_ret
        exact ⟨rfl, HU2.out⟩

set_option maxRecDepth 100000 in
theorem clockLater_lifted (os : Os) (started : os.Started) (H : Type) (enc : TypeId × Value → H) :
    ReturnsInHanded {} Try.checked os 7 .any (Rows.clockLaterSpec.pre6 enc Try.prog Try.f7 Rows.clockLaterRow.domain false) (Rows.clockLaterSpec.post enc Try.prog Try.f7 false true false false) := by
  refine returnsInHanded_of_change_sized (C := Try.checked) clockLater_own started (by kernel_rfl) Try.func7
    (ChangeSpec.witness6 (enc := enc) (C := Try.checked) false ⟨#[], #[.slice none 0 0, .int .i64 0, .int .i64 0, .int .i64 0], []⟩ 8 (by kernel_rfl) (by kernel_rfl) (by kernel_rfl) (by kernel_rfl)) ?_
  intro W base args ds gs before hval0 hW hcnd hsz0 _
  have hval : ∀ (j : Nat) t v, Try.f7.params[j]? = some t → args[j]? = some v → Value.okWide Try.prog W .any base t v := hval0
  have hW' := hW
  obtain ⟨p, q, hA0, hV, rfl, hfz, hnd⟩ := hW'
  have hA : DataW.TrodAll enc Try.prog W 0 (fun _ => true) true Try.f7.params.toList args.toList ds p := hA0
  have hsz : (DataW.weightsEach Try.prog (Try.f7.params.toList ++ Rows.clockLaterSpec.plain.varTypes Try.prog) (ds ++ gs)).all (· ≤ reachBytes) = true := hsz0
  rw [Try.params7] at hA hval hsz
  obtain ⟨v0, vs0, d0, ds0, p0, q0, hargs, rfl, rfl, h0, r0⟩ := trodAll_cons hA
  obtain ⟨v1, vs1, d1, ds1, p1, q1, rfl, rfl, rfl, h1, r1⟩ := trodAll_cons r0
  obtain ⟨v2, vs2, d2, ds2, p2, q2, rfl, rfl, rfl, h2, r2⟩ := trodAll_cons r1
  obtain ⟨v3, vs3, d3, ds3, p3, q3, rfl, rfl, rfl, h3, r3⟩ := trodAll_cons r2
  obtain ⟨rfl, rfl, rfl⟩ := trodAll_nil r3
  obtain rfl : args = #[v0, v1, v2, v3] := by cases args; simp_all
  obtain ⟨rfl, rfl⟩ := trodVars_none hV
  have hlt := fun x hx => hW.lt x hx
  have k0 := h0
  obtain ⟨n0, m0, A0, L0, rfl, hk0, hS0, hz0⟩ := open_nums (hval 0 32 v0 rfl rfl) h0
  have k1 := h1
  obtain ⟨a1, rfl, rfl, rfl, w1⟩ := open_int Try.underlying2 (hval 1 2 v1 rfl rfl) h1
  have k2 := h2
  obtain ⟨a2, rfl, rfl, rfl, w2⟩ := open_int Try.underlying2 (hval 2 2 v2 rfl rfl) h2
  have k3 := h3
  obtain ⟨a3, rfl, rfl, rfl, w3⟩ := open_int Try.underlying2 (hval 3 2 v3 rfl rfl) h3
  refine (clockLater_walk n0 m0 A0 L0 hk0 (hz0 (fun es sp e => by subst e; exact sized_slice hsz (j := 0) (t := 32) (e := 2) rfl rfl Try.underlying32)) a1 w1 a2 w2 a3 w3 W hS0).mono fun e W' ⟨he, hg⟩ => ?_
  subst he
  exact ⟨_, rfl, post_of_same (pv := []) hW (fun _ _ _ => (trodAll_cons_mk (shut_bool Try.underlying4 _) trodAll_mk0)) (fun sp hsp => (trodAll_cons_mk (stay (by kernel_rfl) (of_decide_eq_true (by kernel_rfl)) k0 hg hlt (fun x hx => by first | (simp at hx; done) | simp [hx]) hsp) (trodAll_cons_mk (stay (by kernel_rfl) (of_decide_eq_true (by kernel_rfl)) k1 hg hlt (fun x hx => by first | (simp at hx; done) | simp [hx]) hsp) (trodAll_cons_mk (stay (by kernel_rfl) (of_decide_eq_true (by kernel_rfl)) k2 hg hlt (fun x hx => by first | (simp at hx; done) | simp [hx]) hsp) (trodAll_cons_mk (stay (by kernel_rfl) (of_decide_eq_true (by kernel_rfl)) k3 hg hlt (fun x hx => by first | (simp at hx; done) | simp [hx]) hsp) trodAll_mk0))))) (fun _ _ => rfl) rfl
    (hg.grown.frame _) hg.grown.2.1 (ok_one (by kernel_rfl) rfl (okWide_bool_mk Try.underlying4 _))⟩

theorem clockLater_over : Rows.clockLaterRow.holds Try.pinned (OpenSpec.ofChange Rows.clockLaterSpec) :=
  OpenClaim.holds_of_wide 7 Try.f7 rfl rfl rfl rfl rfl rfl rfl ⟨rfl, rfl, rfl, rfl, rfl⟩ rfl rfl rfl rfl rfl (by kernel_rfl) Try.func7 (by kernel_rfl)
    (of_decide_eq_true (by kernel_rfl)) (by unfold Func.isWrapper; first | (rw [if_pos (by decide +kernel)]; kernel_rfl) | (rw [if_neg (by decide +kernel)]; exact ⟨rfl, rfl⟩))
    (fun os started H enc _ => clockLater_lifted os started H enc)

theorem clockLater_holds : Rows.ClockLaterSaid :=
  clockLater_over
#print axioms clockLater_holds
end Go.Proofs.Ytahcpmnbbdgkcaa
