/- Proved: for every list of items and any now and a the law ExactHalves returns true: Halve of package exact answers as the reference does. Conditions: none beside the form's own reach. -/
import Derived.Test.YtjmfliljiffekaaRows
import Derived.WalkKit
import Derived.ProofKit
import Derived.OpenShut
import Derived.Lib.SmallJoins
import Derived.Test.YtjmfliljiffekaaEFrame
import Derived.SizedLaws
import Derived.Test.YtjmfliljiffekaaERHalve
namespace Go.Proofs.Ytjmfliljiffekaa
open Go.ChangeShapes Go.WideShapes Go.ChangeAt Go.RowKit Go.Joins
set_option linter.unusedVariables false

theorem exactHalves_own : ownKnob Try.prog.godebug = none := by kernel_rfl

set_option maxHeartbeats 4000000 in
set_option maxRecDepth 100000 in
theorem exactHalves_walk (n k : Nat) (A : Option Addr) (L : List It) (hk : n ≤ k) (hI : InI L) (now : Int) (_ : (Lit.int .i64 now).wf = true) (a : Int) (_ : (Lit.int .i64 a).wf = true) (w : World) (hS : Sl w A n L) :
    Calls Try.prog 10 #[.slice A n k, .int .i64 now, .int .i64 a] w fun e w' => e = .returned (.bool true) ∧ Up w w' := by
  have KW := Lib.hid awake8_up
  by_cases h3 : 300 < n
  · have t1 : decide ((300 : Int) < (n : Int)) = true := decide_eq_true (by omega)
    clear hS hI
    go_enter Try.func10, Try.ntmps10
    go_wp2_with fail
    refine (KW.out _).mono ?_
    rintro e w1 ⟨rfl, hu1⟩
    go_wp2_with fail
    go_ret
    exact ⟨rfl, hu1⟩
  · have t1 : decide ((300 : Int) < (n : Int)) = false := decide_eq_false (by omega)
    have HS := Lib.hid hS
    have K1 := Lib.hid (fun W (h : Sl W A n L) => halve_up n k A L now a (by omega) hI W h)
    have K2 := Lib.hid (fun W (h : Sl W A n L) => rhalve_up n k A L now a (by omega) hI W h)
    obtain ⟨x0, x1, x2, x3, y, ee⟩ : ∃ x0 x1 x2 x3 y, gotH (hvO L now a) (leftV 1 (a - 1)) = .returned (.tuple #[.agg #[.int .u64 x0, .int .u64 x1, .int .u64 x2, .int .u64 x3], .bool y]) := by
      cases hvO L now a with
      | none => exact ⟨_, _, _, _, _, rfl⟩
      | some s => exact ⟨_, _, _, _, _, rfl⟩
    rw [ee] at K1 K2
    have b1 : (y == y) = true := by simp
    have b2 : (x0 == x0) = true := by simp
    have b3 : (x1 == x1) = true := by simp
    have b4 : (x2 == x2) = true := by simp
    have b5 : (x3 == x3) = true := by simp
    clear hS hI ee
    go_enter Try.func10, Try.ntmps10
    go_wp2_with fail
    refine (K1.out _ HS.out).mono ?_
    rintro e w1 ⟨rfl, hu1⟩
    have HU1 := Lib.hid (hu1.alloc #[.int .u64 x0, .int .u64 x1, .int .u64 x2, .int .u64 x3] 54)
    clear hu1
    go_wp2_with fail
    refine (K2.out _ (HS.out.up HU1.out)).mono ?_
    rintro e w2 ⟨rfl, hu2⟩
    have c0 := hu2.keep w1.heap.size 0 (.int .u64 x0) (by simp [go_sem])
    have c1 := hu2.keep w1.heap.size 1 (.int .u64 x1) (by simp [go_sem])
    have c2 := hu2.keep w1.heap.size 2 (.int .u64 x2) (by simp [go_sem])
    have c3 := hu2.keep w1.heap.size 3 (.int .u64 x3) (by simp [go_sem])
    have lw : w1.heap.size < w2.heap.size := World.block_lt_of_cell? _ _ c0
    have HU2 := Lib.hid ((HU1.out.trans hu2).alloc #[.int .u64 x0, .int .u64 x1, .int .u64 x2, .int .u64 x3] 54)
    clear hu2
    go_wp2_with fail
    refine (KW.out _).mono ?_
    rintro e w5 ⟨rfl, hu5⟩
    go_wp2_with fail
    go_ret
    exact ⟨rfl, HU2.out.trans hu5⟩

set_option maxRecDepth 100000 in
theorem exactHalves_lifted (os : Os) (started : os.Started) (H : Type) (enc : TypeId × Value → H) :
    ReturnsInHanded {} Try.checked os 10 .any (Rows.exactHalvesSpec.pre6 enc Try.prog Try.f10 Rows.exactHalvesRow.domain false) (Rows.exactHalvesSpec.post enc Try.prog Try.f10 false true false false) := by
  refine returnsInHanded_of_change_sized (C := Try.checked) exactHalves_own started (by kernel_rfl) Try.func10
    (ChangeSpec.witness6 (enc := enc) (C := Try.checked) false ⟨#[], #[.slice none 0 0, .int .i64 0, .int .i64 0], []⟩ 8 (by kernel_rfl) (by kernel_rfl) (by kernel_rfl) (by kernel_rfl)) ?_
  intro W base args ds gs before hval0 hW hcnd hsz0 _
  have hval : ∀ (j : Nat) t v, Try.f10.params[j]? = some t → args[j]? = some v → Value.okWide Try.prog W .any base t v := hval0
  have hW' := hW
  obtain ⟨p, q, hA0, hV, rfl, hfz, hnd⟩ := hW'
  have hA : DataW.TrodAll enc Try.prog W 0 (fun _ => true) true Try.f10.params.toList args.toList ds p := hA0
  rw [Try.params10] at hA hval
  obtain ⟨v0, vs0, d0, ds0, p0, q0, hargs, rfl, rfl, h0, r0⟩ := trodAll_cons hA
  obtain ⟨v1, vs1, d1, ds1, p1, q1, rfl, rfl, rfl, h1, r1⟩ := trodAll_cons r0
  obtain ⟨v2, vs2, d2, ds2, p2, q2, rfl, rfl, rfl, h2, r2⟩ := trodAll_cons r1
  obtain ⟨rfl, rfl, rfl⟩ := trodAll_nil r2
  obtain rfl : args = #[v0, v1, v2] := by cases args; simp_all
  obtain ⟨rfl, rfl⟩ := trodVars_none hV
  have hlt := fun x hx => hW.lt x hx
  have k0 := h0
  obtain ⟨n0, m0, A0, L0, rfl, hk0, hS0, hI0⟩ := open_items2 (hval 0 22 v0 rfl rfl) h0
  have k1 := h1
  obtain ⟨a1, rfl, rfl, rfl, w1⟩ := open_int Try.underlying2 (hval 1 2 v1 rfl rfl) h1
  have k2 := h2
  obtain ⟨a2, rfl, rfl, rfl, w2⟩ := open_int Try.underlying3 (hval 2 3 v2 rfl rfl) h2
  refine (exactHalves_walk n0 m0 A0 L0 hk0 hI0 a1 w1 a2 w2 W hS0).mono fun e W' ⟨he, hg⟩ => ?_
  subst he
  exact ⟨_, rfl, post_of_same (pv := []) hW (fun _ _ _ => (trodAll_cons_mk (shut_bool Try.underlying4 _) trodAll_mk0)) (fun sp hsp => (trodAll_cons_mk (stay (by kernel_rfl) (of_decide_eq_true (by kernel_rfl)) k0 hg hlt (fun x hx => by first | (simp at hx; done) | simp [hx]) hsp) (trodAll_cons_mk (stay (by kernel_rfl) (of_decide_eq_true (by kernel_rfl)) k1 hg hlt (fun x hx => by first | (simp at hx; done) | simp [hx]) hsp) (trodAll_cons_mk (stay (by kernel_rfl) (of_decide_eq_true (by kernel_rfl)) k2 hg hlt (fun x hx => by first | (simp at hx; done) | simp [hx]) hsp) trodAll_mk0)))) (fun _ _ => rfl) rfl
    (hg.grown.frame _) hg.grown.2.1 (ok_one (by kernel_rfl) rfl (okWide_bool_mk Try.underlying4 _))⟩

theorem exactHalves_over : Rows.exactHalvesRow.holds Try.pinned (OpenSpec.ofChange Rows.exactHalvesSpec) :=
  OpenClaim.holds_of_wide 10 Try.f10 rfl rfl rfl rfl rfl rfl rfl ⟨rfl, rfl, rfl, rfl, rfl⟩ rfl rfl rfl rfl rfl (by kernel_rfl) Try.func10 (by kernel_rfl)
    (of_decide_eq_true (by kernel_rfl)) (by unfold Func.isWrapper; first | (rw [if_pos (by decide +kernel)]; kernel_rfl) | (rw [if_neg (by decide +kernel)]; exact ⟨rfl, rfl⟩))
    (fun os started H enc _ => exactHalves_lifted os started H enc)

theorem exactHalves_holds : Rows.ExactHalvesSaid :=
  exactHalves_over
#print axioms exactHalves_holds
end Go.Proofs.Ytjmfliljiffekaa
