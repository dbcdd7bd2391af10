/- Proved: for every list of items the law ExactSums returns true: Count, Sum and Squares of package exact answer as the reference does. Conditions: none beside the form's own reach. -/
import Derived.Test.YtjmfliljiffekaaRows
import Derived.WalkKit
import Derived.ProofKit
import Derived.OpenShut
import Derived.Lib.SmallJoins
import Derived.Test.YtjmfliljiffekaaEFrame
import Derived.SizedLaws
import Derived.Test.YtjmfliljiffekaaETot2
namespace Go.Proofs.Ytjmfliljiffekaa
open Go.ChangeShapes Go.WideShapes Go.ChangeAt Go.RowKit Go.Joins
set_option linter.unusedVariables false

theorem exactSums_own : ownKnob Try.prog.godebug = none := by kernel_rfl

set_option maxHeartbeats 4000000 in
set_option maxRecDepth 100000 in
theorem exactSums_walk (n k : Nat) (A : Option Addr) (L : List It) (hk : n ≤ k) (hI : InI L) (w : World) (hS : Sl w A n L) :
    Calls Try.prog 4 #[.slice A n k] w fun e w' => e = .returned (.bool true) ∧ Up w w' := by
  have KW := Lib.hid awake8_up
  by_cases h3 : 300 < n
  · have t1 : decide ((300 : Int) < (n : Int)) = true := decide_eq_true (by omega)
    clear hS hI
    go_enter Try.func4, Try.ntmps4
    go_wp2_with fail
    refine (KW.out _).mono ?_
    rintro e w1 ⟨rfl, hu1⟩
    go_wp2_with fail
    go_ret
    exact ⟨rfl, hu1⟩
  · have t1 : decide ((300 : Int) < (n : Int)) = false := decide_eq_false (by omega)
    have HS := Lib.hid hS
    have K1 := Lib.hid (fun W (h : Sl W A n L) => sumE_up n k A L (by omega) hI W h)
    have K2 := Lib.hid (fun W (h : Sl W A n L) => rsum_up n k A L (by omega) hI W h)
    have K3 := Lib.hid (fun W (h : Sl W A n L) => squaresE_up n k A L (by omega) hI W h)
    have K4 := Lib.hid (fun W (h : Sl W A n L) => rsquaresE_up n k A L (by omega) hI W h)
    have KC := Lib.hid (count_any n k A)
    unfold got at K1 K2 K3 K4
    generalize fit (smZ L) = x at *
    generalize fits (smZ L) = p at *
    generalize fit (sqZ L) = y at *
    generalize fits (sqZ L) = q at *
    have b0 : ((n : Int) == (n : Int)) = true := by simp
    have b1 : (x == x) = true := by simp
    have b2 : (y == y) = true := by simp
    have b3 : (p == p) = true := by simp
    have b4 : (q == q) = true := by simp
    clear hS hI
    go_enter Try.func4, Try.ntmps4
    go_wp2_with fail
    refine (K1.out _ HS.out).mono ?_
    rintro e w1 ⟨rfl, hu1⟩
    go_wp2_with fail
    refine (K2.out _ (HS.out.up hu1)).mono ?_
    rintro e w2 ⟨rfl, hu2⟩
    have hv2 := hu1.trans hu2
    go_wp2_with fail
    refine (K3.out _ (HS.out.up hv2)).mono ?_
    rintro e w3 ⟨rfl, hu3⟩
    have hv3 := hv2.trans hu3
    go_wp2_with fail
    refine (K4.out _ (HS.out.up hv3)).mono ?_
    rintro e w4 ⟨rfl, hu4⟩
    have hv4 := hv3.trans hu4
    go_wp2_with fail
    refine (KC.out _).mono ?_
    rintro e w' ⟨rfl, rfl⟩
    go_wp2_with fail
    refine (KW.out _).mono ?_
    rintro e w5 ⟨rfl, hu5⟩
    go_wp2_with fail
    go_ret
    exact ⟨rfl, hv4.trans hu5⟩

set_option maxRecDepth 100000 in
theorem exactSums_lifted (os : Os) (started : os.Started) (H : Type) (enc : TypeId × Value → H) :
    ReturnsInHanded {} Try.checked os 4 .any (Rows.exactSumsSpec.pre6 enc Try.prog Try.f4 Rows.exactSumsRow.domain false) (Rows.exactSumsSpec.post enc Try.prog Try.f4 false true false false) := by
  refine returnsInHanded_of_change_sized (C := Try.checked) exactSums_own started (by kernel_rfl) Try.func4
    (ChangeSpec.witness6 (enc := enc) (C := Try.checked) false ⟨#[], #[.slice none 0 0], []⟩ 8 (by kernel_rfl) (by kernel_rfl) (by kernel_rfl) (by kernel_rfl)) ?_
  intro W base args ds gs before hval0 hW hcnd hsz0 _
  have hval : ∀ (j : Nat) t v, Try.f4.params[j]? = some t → args[j]? = some v → Value.okWide Try.prog W .any base t v := hval0
  have hW' := hW
  obtain ⟨p, q, hA0, hV, rfl, hfz, hnd⟩ := hW'
  have hA : DataW.TrodAll enc Try.prog W 0 (fun _ => true) true Try.f4.params.toList args.toList ds p := hA0
  rw [Try.params4] at hA hval
  obtain ⟨v0, vs0, d0, ds0, p0, q0, hargs, rfl, rfl, h0, r0⟩ := trodAll_cons hA
  obtain ⟨rfl, rfl, rfl⟩ := trodAll_nil r0
  obtain rfl : args = #[v0] := by cases args; simp_all
  obtain ⟨rfl, rfl⟩ := trodVars_none hV
  have hlt := fun x hx => hW.lt x hx
  have k0 := h0
  obtain ⟨n0, m0, A0, L0, rfl, hk0, hS0, hI0⟩ := open_items2 (hval 0 22 v0 rfl rfl) h0
  refine (exactSums_walk n0 m0 A0 L0 hk0 hI0 W hS0).mono fun e W' ⟨he, hg⟩ => ?_
  subst he
  exact ⟨_, rfl, post_of_same (pv := []) hW (fun _ _ _ => (trodAll_cons_mk (shut_bool Try.underlying4 _) trodAll_mk0)) (fun sp hsp => (trodAll_cons_mk (stay (by kernel_rfl) (of_decide_eq_true (by kernel_rfl)) k0 hg hlt (fun x hx => by first | (simp at hx; done) | simp [hx]) hsp) trodAll_mk0)) (fun _ _ => rfl) rfl
    (hg.grown.frame _) hg.grown.2.1 (ok_one (by kernel_rfl) rfl (okWide_bool_mk Try.underlying4 _))⟩

theorem exactSums_over : Rows.exactSumsRow.holds Try.pinned (OpenSpec.ofChange Rows.exactSumsSpec) :=
  OpenClaim.holds_of_wide 4 Try.f4 rfl rfl rfl rfl rfl rfl rfl ⟨rfl, rfl, rfl, rfl, rfl⟩ rfl rfl rfl rfl rfl (by kernel_rfl) Try.func4 (by kernel_rfl)
    (of_decide_eq_true (by kernel_rfl)) (by unfold Func.isWrapper; first | (rw [if_pos (by decide +kernel)]; kernel_rfl) | (rw [if_neg (by decide +kernel)]; exact ⟨rfl, rfl⟩))
    (fun os started H enc _ => exactSums_lifted os started H enc)

theorem exactSums_holds : Rows.ExactSumsSaid :=
  exactSums_over
#print axioms exactSums_holds
end Go.Proofs.Ytjmfliljiffekaa
