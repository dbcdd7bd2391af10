/- Proved: for any list of buckets and any number the law BucketsValid returns true: Valid and Total of package buckets answer as the reference does. Conditions: none. -/
import Derived.Test.YtnhekeohbnmodaaRows
import Derived.WalkKit
import Derived.ProofKit
import Derived.OpenShut
import Derived.Lib.SmallJoins
import Derived.Test.YtnhekeohbnmodaaHFrame
import Derived.SizedLaws
import Derived.Test.YtnhekeohbnmodaaHCan
import Derived.Test.YtnhekeohbnmodaaHRVal
namespace Go.Proofs.Ytnhekeohbnmodaa
open Go.ChangeShapes Go.WideShapes Go.ChangeAt Go.RowKit Go.Joins
set_option linter.unusedVariables false

theorem bucketsValid_own : ownKnob Try.prog.godebug = none := by kernel_rfl

set_option maxHeartbeats 4000000 in
set_option maxRecDepth 100000 in
theorem bucketsValid_walk (n k : Nat) (A : Option Addr) (L : List It) (hk : n ≤ k) (q : Int) (_ : (Lit.int .i64 q).wf = true) (w : World) (hS : Sl w A n L) :
    Calls Try.prog 3 #[.slice A n k, .int .i64 q] w fun e w' => e = .returned (.bool true) ∧ Up w w' := by
  have KA := Lib.hid awake10_up
  have KF := Lib.hid (few10_any n k A)
  by_cases hn : n ≤ 300
  · rw [decide_eq_true (p := (n : Int) ≤ 300) (by omega)] at KF
    have KV := Lib.hid (fun W (h : Sl W A n L) => valid10_up n k A L q (by omega) W h)
    have KR := Lib.hid (fun W (h : Sl W A n L) => rvalid10_up n k A L q (by omega) W h)
    have KT := Lib.hid (fun W (h : Sl W A n L) => total10_up n k A L (by omega) W h)
    have KU := Lib.hid (fun W (h : Sl W A n L) => rtotal10_up n k A L (by omega) W h)
    have HS := Lib.hid hS
    generalize vaB L q = v at *
    generalize totB L = z at *
    have t1 : (v == v) = true := by simp
    have t2 : (z == z) = true := by simp
    clear hS
    go_enter Try.func3, Try.ntmps3
    go_wp2_with (first | (go_at_call 12; (with_reducible refine (KF.out _).mono ?_); rintro e w' ⟨rfl, rfl⟩) | (go_at_call 14; (with_reducible refine (KV.out _ HS.out).mono ?_); rintro e w1 ⟨rfl, hu⟩; have HU1 := Lib.hid hu; clear hu) | (go_at_call 15; (with_reducible refine (KR.out _ (HS.out.up HU1.out)).mono ?_); rintro e w2 ⟨rfl, hu⟩; have HU2 := Lib.hid (HU1.out.trans hu); clear hu) | (go_at_call 16; (with_reducible refine (KT.out _ (HS.out.up HU2.out)).mono ?_); rintro e w3 ⟨rfl, hu⟩; have HU3 := Lib.hid (HU2.out.trans hu); clear hu) | (go_at_call 17; (with_reducible refine (KU.out _ (HS.out.up HU3.out)).mono ?_); rintro e w4 ⟨rfl, hu⟩; have HU4 := Lib.hid (HU3.out.trans hu); clear hu) | (go_at_call 13; (with_reducible refine (KA.out _).mono ?_); rintro e w5 ⟨rfl, hu⟩; have HU5 := Lib.hid (HU4.out.trans hu); clear hu))
    go_ret
    exact ⟨rfl, HU5.out⟩
  · rw [decide_eq_false (p := (n : Int) ≤ 300) (by omega)] at KF
    clear hS
    go_enter Try.func3, Try.ntmps3
    go_wp2_with (first | (go_at_call 12; (with_reducible refine (KF.out _).mono ?_); rintro e w' ⟨rfl, rfl⟩) | (go_at_call 13; (with_reducible refine (KA.out _).mono ?_); rintro e w5 ⟨rfl, hu⟩))
    go_ret
    exact ⟨rfl, hu⟩

set_option maxRecDepth 100000 in
theorem bucketsValid_lifted (os : Os) (started : os.Started) (H : Type) (enc : TypeId × Value → H) :
    ReturnsInHanded {} Try.checked os 3 .any (Rows.bucketsValidSpec.pre6 enc Try.prog Try.f3 Rows.bucketsValidRow.domain false) (Rows.bucketsValidSpec.post enc Try.prog Try.f3 false true false false) := by
  refine returnsInHanded_of_change_sized (C := Try.checked) bucketsValid_own started (by kernel_rfl) Try.func3
    (ChangeSpec.witness6 (enc := enc) (C := Try.checked) false ⟨#[], #[.slice none 0 0, .int .i64 0], []⟩ 8 (by kernel_rfl) (by kernel_rfl) (by kernel_rfl) (by kernel_rfl)) ?_
  intro W base args ds gs before hval0 hW hcnd hsz0 _
  have hval : ∀ (j : Nat) t v, Try.f3.params[j]? = some t → args[j]? = some v → Value.okWide Try.prog W .any base t v := hval0
  have hW' := hW
  obtain ⟨p, q, hA0, hV, rfl, hfz, hnd⟩ := hW'
  have hA : DataW.TrodAll enc Try.prog W 0 (fun _ => true) true Try.f3.params.toList args.toList ds p := hA0
  rw [Try.params3] at hA hval
  obtain ⟨v0, vs0, d0, ds0, p0, q0, hargs, rfl, rfl, h0, r0⟩ := trodAll_cons hA
  obtain ⟨v1, vs1, d1, ds1, p1, q1, rfl, rfl, rfl, h1, r1⟩ := trodAll_cons r0
  obtain ⟨rfl, rfl, rfl⟩ := trodAll_nil r1
  obtain rfl : args = #[v0, v1] := by cases args; simp_all
  obtain ⟨rfl, rfl⟩ := trodVars_none hV
  have hlt := fun x hx => hW.lt x hx
  have k0 := h0
  obtain ⟨n0, m0, A0, L0, rfl, hk0, hS0⟩ := open_buckets (hval 0 22 v0 rfl rfl) h0
  have k1 := h1
  obtain ⟨a1, rfl, rfl, rfl, w1⟩ := open_int Try.underlying3 (hval 1 3 v1 rfl rfl) h1
  refine (bucketsValid_walk n0 m0 A0 L0 hk0 a1 w1 W hS0).mono fun e W' ⟨he, hg⟩ => ?_
  subst he
  exact ⟨_, rfl, post_of_same (pv := []) hW (fun _ _ _ => (trodAll_cons_mk (shut_bool Try.underlying4 _) trodAll_mk0)) (fun sp hsp => (trodAll_cons_mk (stay (by kernel_rfl) (of_decide_eq_true (by kernel_rfl)) k0 hg hlt (fun x hx => by first | (simp at hx; done) | simp [hx]) hsp) (trodAll_cons_mk (stay (by kernel_rfl) (of_decide_eq_true (by kernel_rfl)) k1 hg hlt (fun x hx => by first | (simp at hx; done) | simp [hx]) hsp) trodAll_mk0))) (fun _ _ => rfl) rfl
    (hg.grown.frame _) hg.grown.2.1 (ok_one (by kernel_rfl) rfl (okWide_bool_mk Try.underlying4 _))⟩

theorem bucketsValid_over : Rows.bucketsValidRow.holds Try.pinned (OpenSpec.ofChange Rows.bucketsValidSpec) :=
  OpenClaim.holds_of_wide 3 Try.f3 rfl rfl rfl rfl rfl rfl rfl ⟨rfl, rfl, rfl, rfl, rfl⟩ rfl rfl rfl rfl rfl (by kernel_rfl) Try.func3 (by kernel_rfl)
    (of_decide_eq_true (by kernel_rfl)) (by unfold Func.isWrapper; first | (rw [if_pos (by decide +kernel)]; kernel_rfl) | (rw [if_neg (by decide +kernel)]; exact ⟨rfl, rfl⟩))
    (fun os started H enc _ => bucketsValid_lifted os started H enc)

theorem bucketsValid_holds : Rows.BucketsValidSaid :=
  bucketsValid_over
#print axioms bucketsValid_holds
end Go.Proofs.Ytnhekeohbnmodaa
