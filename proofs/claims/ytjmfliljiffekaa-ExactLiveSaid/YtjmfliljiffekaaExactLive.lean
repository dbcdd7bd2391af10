/- Proved: for every list of items and any now and w the law ExactLive returns true: Valid and Live of package exact answer as the reference does. Conditions: none beside the form's own reach. -/
import Derived.Test.YtjmfliljiffekaaRows
import Derived.WalkKit
import Derived.ProofKit
import Derived.OpenShut
import Derived.Lib.SmallJoins
import Derived.Test.YtjmfliljiffekaaEFrame
import Derived.SizedLaws
import Derived.Test.YtjmfliljiffekaaELive2
import Derived.Test.YtjmfliljiffekaaGSame
namespace Go.Proofs.Ytjmfliljiffekaa
open Go.ChangeShapes Go.WideShapes Go.ChangeAt Go.RowKit Go.Joins
set_option linter.unusedVariables false

theorem exactLive_own : ownKnob Try.prog.godebug = none := by kernel_rfl

set_option maxRecDepth 100000 in
theorem exactLive_walk (n k : Nat) (A : Option Addr) (L : List It) (hk : n ≤ k) (hI : InI L) (now : Int) (_ : (Lit.int .i64 now).wf = true) (v : Int) (_ : (Lit.int .i64 v).wf = true) (w : World) (hS : Sl w A n L) :
    Calls Try.prog 3 #[.slice A n k, .int .i64 now, .int .i64 v] w fun e w' => e = .returned (.bool true) ∧ Up w w' := by
  have KW := Lib.hid awake8_up
  by_cases h3 : 300 < n
  · have t1 : decide ((300 : Int) < (n : Int)) = true := decide_eq_true (by omega)
    clear hS hI
    go_enter Try.func3, Try.ntmps3
    go_wp2_with fail
    refine (KW.out _).mono ?_
    rintro e w1 ⟨rfl, hu1⟩
    go_wp2_with fail
    go_ret
    exact ⟨rfl, hu1⟩
  · have t1 : decide ((300 : Int) < (n : Int)) = false := decide_eq_false (by omega)
    have HS := Lib.hid hS
    have K1 := Lib.hid (fun W (h : Sl W A n L) => valid8_up n k A L now (by omega) W h)
    have K2 := Lib.hid (fun W (h : Sl W A n L) => rvalid8_up n k A L now (by omega) W h)
    have K3 := Lib.hid (fun W (h : Sl W A n L) => live8_up n k A L now v (by omega) W h)
    have K4 := Lib.hid (fun W (h : Sl W A n L) => rlive8_up n k A L now v (by omega) W h)
    generalize valB L now = x at K1 K2
    generalize livE L now v = M at K3 K4
    have b1 : (x == x) = true := by simp
    clear hS hI
    go_enter Try.func3, Try.ntmps3
    go_wp2_with fail
    refine (K1.out _ HS.out).mono ?_
    rintro e w1 ⟨rfl, hu1⟩
    go_wp2_with fail
    refine (K2.out _ (HS.out.up hu1)).mono ?_
    rintro e w2 ⟨rfl, hu2⟩
    have hv2 := hu1.trans hu2
    go_wp2_with fail
    refine (K3.out _ (HS.out.up hv2)).mono ?_
    rintro e w3 ⟨A3, n3, k3, rfl, h3n, hM3, hu3⟩
    have hv3 := hv2.trans hu3
    go_wp2_with fail
    refine (K4.out _ (HS.out.up hv3)).mono ?_
    rintro e w4 ⟨A4, n4, k4, rfl, h4n, hM4, hu4⟩
    have hv4 := hv3.trans hu4
    have e34 : n4 = n3 := by rw [← hM3.1, ← hM4.1]
    subst e34
    have K5 := Lib.hid (sameItems_t n4 k3 k4 A3 A4 M (by omega) w4 (hM3.up hu4) hM4)
    clear hM3 hM4
    go_wp2_with fail
    refine K5.out.mono ?_
    rintro e w5 ⟨rfl, hu5⟩
    have hv5 := hv4.trans hu5
    go_wp2_with fail
    refine (KW.out _).mono ?_
    rintro e w6 ⟨rfl, hu6⟩
    go_wp2_with fail
    go_ret
    exact ⟨rfl, hv5.trans hu6⟩

set_option maxRecDepth 100000 in
theorem exactLive_lifted (os : Os) (started : os.Started) (H : Type) (enc : TypeId × Value → H) :
    ReturnsInHanded {} Try.checked os 3 .any (Rows.exactLiveSpec.pre6 enc Try.prog Try.f3 Rows.exactLiveRow.domain false) (Rows.exactLiveSpec.post enc Try.prog Try.f3 false true false false) := by
  refine returnsInHanded_of_change_sized (C := Try.checked) exactLive_own started (by kernel_rfl) Try.func3
    (ChangeSpec.witness6 (enc := enc) (C := Try.checked) false ⟨#[], #[.slice none 0 0, .int .i64 0, .int .i64 0], []⟩ 8 (by kernel_rfl) (by kernel_rfl) (by kernel_rfl) (by kernel_rfl)) ?_
  intro W base args ds gs before hval0 hW hcnd hsz0 _
  have hval : ∀ (j : Nat) t v, Try.f3.params[j]? = some t → args[j]? = some v → Value.okWide Try.prog W .any base t v := hval0
  have hW' := hW
  obtain ⟨p, q, hA0, hV, rfl, hfz, hnd⟩ := hW'
  have hA : DataW.TrodAll enc Try.prog W 0 (fun _ => true) true Try.f3.params.toList args.toList ds p := hA0
  rw [Try.params3] at hA hval
  obtain ⟨v0, vs0, d0, ds0, p0, q0, hargs, rfl, rfl, h0, r0⟩ := trodAll_cons hA
  obtain ⟨v1, vs1, d1, ds1, p1, q1, rfl, rfl, rfl, h1, r1⟩ := trodAll_cons r0
  obtain ⟨v2, vs2, d2, ds2, p2, q2, rfl, rfl, rfl, h2, r2⟩ := trodAll_cons r1
  obtain ⟨rfl, rfl, rfl⟩ := trodAll_nil r2
  obtain rfl : args = #[v0, v1, v2] := by cases args; simp_all
  obtain ⟨rfl, rfl⟩ := trodVars_none hV
  have hlt := fun x hx => hW.lt x hx
  have k0 := h0
  obtain ⟨n0, m0, A0, L0, rfl, hk0, hS0, hI0⟩ := open_items2 (hval 0 22 v0 rfl rfl) h0
  have k1 := h1
  obtain ⟨a1, rfl, rfl, rfl, w1⟩ := open_int Try.underlying2 (hval 1 2 v1 rfl rfl) h1
  have k2 := h2
  obtain ⟨a2, rfl, rfl, rfl, w2⟩ := open_int Try.underlying2 (hval 2 2 v2 rfl rfl) h2
  refine (exactLive_walk n0 m0 A0 L0 hk0 hI0 a1 w1 a2 w2 W hS0).mono fun e W' ⟨he, hg⟩ => ?_
  subst he
  exact ⟨_, rfl, post_of_same (pv := []) hW (fun _ _ _ => (trodAll_cons_mk (shut_bool Try.underlying4 _) trodAll_mk0)) (fun sp hsp => (trodAll_cons_mk (stay (by kernel_rfl) (of_decide_eq_true (by kernel_rfl)) k0 hg hlt (fun x hx => by first | (simp at hx; done) | simp [hx]) hsp) (trodAll_cons_mk (stay (by kernel_rfl) (of_decide_eq_true (by kernel_rfl)) k1 hg hlt (fun x hx => by first | (simp at hx; done) | simp [hx]) hsp) (trodAll_cons_mk (stay (by kernel_rfl) (of_decide_eq_true (by kernel_rfl)) k2 hg hlt (fun x hx => by first | (simp at hx; done) | simp [hx]) hsp) trodAll_mk0)))) (fun _ _ => rfl) rfl
    (hg.grown.frame _) hg.grown.2.1 (ok_one (by kernel_rfl) rfl (okWide_bool_mk Try.underlying4 _))⟩

theorem exactLive_over : Rows.exactLiveRow.holds Try.pinned (OpenSpec.ofChange Rows.exactLiveSpec) :=
  OpenClaim.holds_of_wide 3 Try.f3 rfl rfl rfl rfl rfl rfl rfl ⟨rfl, rfl, rfl, rfl, rfl⟩ rfl rfl rfl rfl rfl (by kernel_rfl) Try.func3 (by kernel_rfl)
    (of_decide_eq_true (by kernel_rfl)) (by unfold Func.isWrapper; first | (rw [if_pos (by decide +kernel)]; kernel_rfl) | (rw [if_neg (by decide +kernel)]; exact ⟨rfl, rfl⟩))
    (fun os started H enc _ => exactLive_lifted os started H enc)

theorem exactLive_holds : Rows.ExactLiveSaid :=
  exactLive_over
#print axioms exactLive_holds
end Go.Proofs.Ytjmfliljiffekaa
