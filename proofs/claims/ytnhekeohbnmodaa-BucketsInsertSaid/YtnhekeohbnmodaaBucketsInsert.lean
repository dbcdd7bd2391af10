/- Proved: for any list of buckets, number and tick the law BucketsInsert returns true: Insert of package buckets returns the list that the reference returns. Conditions: none. -/
import Derived.Test.YtnhekeohbnmodaaRows
import Derived.WalkKit
import Derived.ProofKit
import Derived.OpenShut
import Derived.Lib.SmallJoins
import Derived.Test.YtnhekeohbnmodaaHFrame
import Derived.SizedLaws
import Derived.Test.YtnhekeohbnmodaaHCan
import Derived.Test.YtnhekeohbnmodaaHIns
import Derived.Test.YtnhekeohbnmodaaHRIns
import Derived.Test.YtnhekeohbnmodaaHSame
namespace Go.Proofs.Ytnhekeohbnmodaa
open Go.ChangeShapes Go.WideShapes Go.ChangeAt Go.RowKit Go.Joins
set_option linter.unusedVariables false

theorem bucketsInsert_own : ownKnob Try.prog.godebug = none := by kernel_rfl

set_option maxHeartbeats 4000000 in
set_option maxRecDepth 100000 in
theorem bucketsInsert_walk (n k : Nat) (A : Option Addr) (L : List It) (hk : n ≤ k) (q : Int) (_ : (Lit.int .i64 q).wf = true) (t : Int) (_ : (Lit.int .i64 t).wf = true) (w : World) (hS : Sl w A n L) :
    Calls Try.prog 4 #[.slice A n k, .int .i64 q, .int .i64 t] w fun e w' => e = .returned (.bool true) ∧ Up w w' := by
  have KA := Lib.hid awake10_up
  have KF := Lib.hid (few10_any n k A)
  by_cases hn : n ≤ 300
  · rw [decide_eq_true (p := (n : Int) ≤ 300) (by omega)] at KF
    have K1 := Lib.hid (fun W (h : Sl W A n L) => insert_up n k A L q t (by omega) W h)
    have K2 := Lib.hid (fun W (h : Sl W A n L) => rinsert_up n k A L q t (by omega) W h)
    have HS := Lib.hid hS
    generalize imL L q t 1 = Z at *
    clear hS
    go_enter Try.func4, Try.ntmps4
    go_wp2_with (first | (go_at_call 12; (with_reducible refine (KF.out _).mono ?_); rintro e w' ⟨rfl, rfl⟩) | (go_at_call 19; (with_reducible refine (K1.out _ HS.out).mono ?_); rintro e w1 ⟨A1, n1, k1, rfl, hn1, ho1, hu⟩; obtain ⟨A1', k1', e1, _, hs1⟩ := ho1.sl; cases e1; have HU1 := Lib.hid hu; have HS1 := Lib.hid hs1; clear hu ho1 hs1) | (go_at_call 20; (with_reducible refine (K2.out _ (HS.out.up HU1.out)).mono ?_); rintro e w2 ⟨A2, n2, k2, rfl, hn2, hs2, hu⟩; obtain rfl : n1 = n2 := HS1.out.1.symm.trans hs2.1; have HU2 := Lib.hid (HU1.out.trans hu); have HS2 := Lib.hid hs2; have HS3 := Lib.hid (HS1.out.up hu); clear hu hs2) | (go_at_call 18; (with_reducible refine (sameB_t n1 k1 k2 A1 A2 Z (by omega) _ HS3.out HS2.out).mono ?_); rintro e w3 ⟨rfl, hu⟩; have HU3 := Lib.hid (HU2.out.trans hu); clear hu) | (go_at_call 13; (with_reducible refine (KA.out _).mono ?_); rintro e w5 ⟨rfl, hu⟩; have HU5 := Lib.hid (HU3.out.trans hu); clear hu))
    go_ret
    exact ⟨rfl, HU5.out⟩
  · rw [decide_eq_false (p := (n : Int) ≤ 300) (by omega)] at KF
    clear hS
    go_enter Try.func4, Try.ntmps4
    go_wp2_with (first | (go_at_call 12; (with_reducible refine (KF.out _).mono ?_); rintro e w' ⟨rfl, rfl⟩) | (go_at_call 13; (with_reducible refine (KA.out _).mono ?_); rintro e w5 ⟨rfl, hu⟩))
    go_ret
    exact ⟨rfl, hu⟩

set_option maxRecDepth 100000 in
theorem bucketsInsert_lifted (os : Os) (started : os.Started) (H : Type) (enc : TypeId × Value → H) :
    ReturnsInHanded {} Try.checked os 4 .any (Rows.bucketsInsertSpec.pre6 enc Try.prog Try.f4 Rows.bucketsInsertRow.domain false) (Rows.bucketsInsertSpec.post enc Try.prog Try.f4 false true false false) := by
  refine returnsInHanded_of_change_sized (C := Try.checked) bucketsInsert_own started (by kernel_rfl) Try.func4
    (ChangeSpec.witness6 (enc := enc) (C := Try.checked) false ⟨#[], #[.slice none 0 0, .int .i64 0, .int .i64 0], []⟩ 8 (by kernel_rfl) (by kernel_rfl) (by kernel_rfl) (by kernel_rfl)) ?_
  intro W base args ds gs before hval0 hW hcnd hsz0 _
  have hval : ∀ (j : Nat) t v, Try.f4.params[j]? = some t → args[j]? = some v → Value.okWide Try.prog W .any base t v := hval0
  have hW' := hW
  obtain ⟨p, q, hA0, hV, rfl, hfz, hnd⟩ := hW'
  have hA : DataW.TrodAll enc Try.prog W 0 (fun _ => true) true Try.f4.params.toList args.toList ds p := hA0
  rw [Try.params4] at hA hval
  obtain ⟨v0, vs0, d0, ds0, p0, q0, hargs, rfl, rfl, h0, r0⟩ := trodAll_cons hA
  obtain ⟨v1, vs1, d1, ds1, p1, q1, rfl, rfl, rfl, h1, r1⟩ := trodAll_cons r0
  obtain ⟨v2, vs2, d2, ds2, p2, q2, rfl, rfl, rfl, h2, r2⟩ := trodAll_cons r1
  obtain ⟨rfl, rfl, rfl⟩ := trodAll_nil r2
  obtain rfl : args = #[v0, v1, v2] := by cases args; simp_all
  obtain ⟨rfl, rfl⟩ := trodVars_none hV
  have hlt := fun x hx => hW.lt x hx
  have k0 := h0
  obtain ⟨n0, m0, A0, L0, rfl, hk0, hS0⟩ := open_buckets (hval 0 22 v0 rfl rfl) h0
  have k1 := h1
  obtain ⟨a1, rfl, rfl, rfl, w1⟩ := open_int Try.underlying3 (hval 1 3 v1 rfl rfl) h1
  have k2 := h2
  obtain ⟨a2, rfl, rfl, rfl, w2⟩ := open_int Try.underlying2 (hval 2 2 v2 rfl rfl) h2
  refine (bucketsInsert_walk n0 m0 A0 L0 hk0 a1 w1 a2 w2 W hS0).mono fun e W' ⟨he, hg⟩ => ?_
  subst he
  exact ⟨_, rfl, post_of_same (pv := []) hW (fun _ _ _ => (trodAll_cons_mk (shut_bool Try.underlying4 _) trodAll_mk0)) (fun sp hsp => (trodAll_cons_mk (stay (by kernel_rfl) (of_decide_eq_true (by kernel_rfl)) k0 hg hlt (fun x hx => by first | (simp at hx; done) | simp [hx]) hsp) (trodAll_cons_mk (stay (by kernel_rfl) (of_decide_eq_true (by kernel_rfl)) k1 hg hlt (fun x hx => by first | (simp at hx; done) | simp [hx]) hsp) (trodAll_cons_mk (stay (by kernel_rfl) (of_decide_eq_true (by kernel_rfl)) k2 hg hlt (fun x hx => by first | (simp at hx; done) | simp [hx]) hsp) trodAll_mk0)))) (fun _ _ => rfl) rfl
    (hg.grown.frame _) hg.grown.2.1 (ok_one (by kernel_rfl) rfl (okWide_bool_mk Try.underlying4 _))⟩

theorem bucketsInsert_over : Rows.bucketsInsertRow.holds Try.pinned (OpenSpec.ofChange Rows.bucketsInsertSpec) :=
  OpenClaim.holds_of_wide 4 Try.f4 rfl rfl rfl rfl rfl rfl rfl ⟨rfl, rfl, rfl, rfl, rfl⟩ rfl rfl rfl rfl rfl (by kernel_rfl) Try.func4 (by kernel_rfl)
    (of_decide_eq_true (by kernel_rfl)) (by unfold Func.isWrapper; first | (rw [if_pos (by decide +kernel)]; kernel_rfl) | (rw [if_neg (by decide +kernel)]; exact ⟨rfl, rfl⟩))
    (fun os started H enc _ => bucketsInsert_lifted os started H enc)

theorem bucketsInsert_holds : Rows.BucketsInsertSaid :=
  bucketsInsert_over
#print axioms bucketsInsert_holds
end Go.Proofs.Ytnhekeohbnmodaa
