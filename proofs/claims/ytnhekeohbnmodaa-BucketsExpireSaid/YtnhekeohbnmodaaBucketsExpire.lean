/- Proved: for any list of buckets and any tick the law BucketsExpire returns true: Expire of package buckets returns the list that the reference returns. Conditions: none. -/
import Derived.Test.YtnhekeohbnmodaaRows
import Derived.WalkKit
import Derived.ProofKit
import Derived.OpenShut
import Derived.Lib.SmallJoins
import Derived.Test.YtnhekeohbnmodaaHFrame
import Derived.SizedLaws
import Derived.Test.YtnhekeohbnmodaaHCan
import Derived.Test.YtnhekeohbnmodaaHExp
import Derived.Test.YtnhekeohbnmodaaHSame
namespace Go.Proofs.Ytnhekeohbnmodaa
open Go.ChangeShapes Go.WideShapes Go.ChangeAt Go.RowKit Go.Joins
set_option linter.unusedVariables false

theorem bucketsExpire_own : ownKnob Try.prog.godebug = none := by kernel_rfl

set_option maxHeartbeats 4000000 in
set_option maxRecDepth 100000 in
theorem bucketsExpire_walk (n k : Nat) (A : Option Addr) (L : List It) (hk : n ≤ k) (f : Int) (_ : (Lit.int .i64 f).wf = true) (w : World) (hS : Sl w A n L) :
    Calls Try.prog 7 #[.slice A n k, .int .i64 f] w fun e w' => e = .returned (.bool true) ∧ Up w w' := by
  have KA := Lib.hid awake10_up
  have KF := Lib.hid (few10_any n k A)
  by_cases hn : n ≤ 300
  · rw [decide_eq_true (p := (n : Int) ≤ 300) (by omega)] at KF
    have K1 := Lib.hid (fun W (h : Sl W A n L) => expire_up n k A L f (by omega) hk W h)
    have K2 := Lib.hid (fun W (h : Sl W A n L) => rexpire_up n k A L f (by omega) hk W h)
    have HS := Lib.hid hS
    generalize exL L f = Z at *
    clear hS
    go_enter Try.func7, Try.ntmps7
    go_wp2_with (first | (go_at_call 12; (with_reducible refine (KF.out _).mono ?_); rintro e w' ⟨rfl, rfl⟩) | (go_at_call 24; (with_reducible refine (K1.out _ HS.out).mono ?_); rintro e w1 ⟨A1, n1, k1, rfl, hn1, ho1, hu⟩; obtain ⟨A1', k1', e1, _, hs1⟩ := ho1.sl; cases e1; have HU1 := Lib.hid hu; have HS1 := Lib.hid hs1; clear hu ho1 hs1) | (go_at_call 25; (with_reducible refine (K2.out _ (HS.out.up HU1.out)).mono ?_); rintro e w2 ⟨A2, n2, k2, rfl, hn2, hs2, hu⟩; obtain rfl : n1 = n2 := HS1.out.1.symm.trans hs2.1; have HU2 := Lib.hid (HU1.out.trans hu); have HS2 := Lib.hid hs2; have HS3 := Lib.hid (HS1.out.up hu); clear hu hs2) | (go_at_call 18; (with_reducible refine (sameB_t n1 k1 k2 A1 A2 Z (by omega) _ HS3.out HS2.out).mono ?_); rintro e w3 ⟨rfl, hu⟩; have HU3 := Lib.hid (HU2.out.trans hu); clear hu) | (go_at_call 13; (with_reducible refine (KA.out _).mono ?_); rintro e w5 ⟨rfl, hu⟩; have HU5 := Lib.hid (HU3.out.trans hu); clear hu))
    go_ret
    exact ⟨rfl, HU5.out⟩
  · rw [decide_eq_false (p := (n : Int) ≤ 300) (by omega)] at KF
    clear hS
    go_enter Try.func7, Try.ntmps7
    go_wp2_with (first | (go_at_call 12; (with_reducible refine (KF.out _).mono ?_); rintro e w' ⟨rfl, rfl⟩) | (go_at_call 13; (with_reducible refine (KA.out _).mono ?_); rintro e w5 ⟨rfl, hu⟩))
    go_ret
    exact ⟨rfl, hu⟩

set_option maxRecDepth 100000 in
theorem bucketsExpire_lifted (os : Os) (started : os.Started) (H : Type) (enc : TypeId × Value → H) :
    ReturnsInHanded {} Try.checked os 7 .any (Rows.bucketsExpireSpec.pre6 enc Try.prog Try.f7 Rows.bucketsExpireRow.domain false) (Rows.bucketsExpireSpec.post enc Try.prog Try.f7 false true false false) := by
  refine returnsInHanded_of_change_sized (C := Try.checked) bucketsExpire_own started (by kernel_rfl) Try.func7
    (ChangeSpec.witness6 (enc := enc) (C := Try.checked) false ⟨#[], #[.slice none 0 0, .int .i64 0], []⟩ 8 (by kernel_rfl) (by kernel_rfl) (by kernel_rfl) (by kernel_rfl)) ?_
  intro W base args ds gs before hval0 hW hcnd hsz0 _
  have hval : ∀ (j : Nat) t v, Try.f7.params[j]? = some t → args[j]? = some v → Value.okWide Try.prog W .any base t v := hval0
  have hW' := hW
  obtain ⟨p, q, hA0, hV, rfl, hfz, hnd⟩ := hW'
  have hA : DataW.TrodAll enc Try.prog W 0 (fun _ => true) true Try.f7.params.toList args.toList ds p := hA0
  rw [Try.params7] at hA hval
  obtain ⟨v0, vs0, d0, ds0, p0, q0, hargs, rfl, rfl, h0, r0⟩ := trodAll_cons hA
  obtain ⟨v1, vs1, d1, ds1, p1, q1, rfl, rfl, rfl, h1, r1⟩ := trodAll_cons r0
  obtain ⟨rfl, rfl, rfl⟩ := trodAll_nil r1
  obtain rfl : args = #[v0, v1] := by cases args; simp_all
  obtain ⟨rfl, rfl⟩ := trodVars_none hV
  have hlt := fun x hx => hW.lt x hx
  have k0 := h0
  obtain ⟨n0, m0, A0, L0, rfl, hk0, hS0⟩ := open_buckets (hval 0 22 v0 rfl rfl) h0
  have k1 := h1
  obtain ⟨a1, rfl, rfl, rfl, w1⟩ := open_int Try.underlying2 (hval 1 2 v1 rfl rfl) h1
  refine (bucketsExpire_walk n0 m0 A0 L0 hk0 a1 w1 W hS0).mono fun e W' ⟨he, hg⟩ => ?_
  subst he
  exact ⟨_, rfl, post_of_same (pv := []) hW (fun _ _ _ => (trodAll_cons_mk (shut_bool Try.underlying4 _) trodAll_mk0)) (fun sp hsp => (trodAll_cons_mk (stay (by kernel_rfl) (of_decide_eq_true (by kernel_rfl)) k0 hg hlt (fun x hx => by first | (simp at hx; done) | simp [hx]) hsp) (trodAll_cons_mk (stay (by kernel_rfl) (of_decide_eq_true (by kernel_rfl)) k1 hg hlt (fun x hx => by first | (simp at hx; done) | simp [hx]) hsp) trodAll_mk0))) (fun _ _ => rfl) rfl
    (hg.grown.frame _) hg.grown.2.1 (ok_one (by kernel_rfl) rfl (okWide_bool_mk Try.underlying4 _))⟩

theorem bucketsExpire_over : Rows.bucketsExpireRow.holds Try.pinned (OpenSpec.ofChange Rows.bucketsExpireSpec) :=
  OpenClaim.holds_of_wide 7 Try.f7 rfl rfl rfl rfl rfl rfl rfl ⟨rfl, rfl, rfl, rfl, rfl⟩ rfl rfl rfl rfl rfl (by kernel_rfl) Try.func7 (by kernel_rfl)
    (of_decide_eq_true (by kernel_rfl)) (by unfold Func.isWrapper; first | (rw [if_pos (by decide +kernel)]; kernel_rfl) | (rw [if_neg (by decide +kernel)]; exact ⟨rfl, rfl⟩))
    (fun os started H enc _ => bucketsExpire_lifted os started H enc)

theorem bucketsExpire_holds : Rows.BucketsExpireSaid :=
  bucketsExpire_over
#print axioms bucketsExpire_holds
end Go.Proofs.Ytnhekeohbnmodaa
