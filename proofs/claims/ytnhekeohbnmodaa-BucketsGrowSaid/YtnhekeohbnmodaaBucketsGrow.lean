/- Proved: for any two numbers the law BucketsGrow returns true: so many insertions lead to the closed form of the numbers of buckets. Conditions: none. -/
import Derived.Test.YtnhekeohbnmodaaRows
import Derived.WalkKit
import Derived.ProofKit
import Derived.OpenShut
import Derived.Lib.SmallJoins
import Derived.Test.YtnhekeohbnmodaaHFrame
import Derived.SizedLaws
import Derived.Test.YtnhekeohbnmodaaHLaws
import Derived.Test.YtnhekeohbnmodaaGMod
namespace Go.Proofs.Ytnhekeohbnmodaa
open Go.ChangeShapes Go.WideShapes Go.ChangeAt Go.RowKit Go.Joins
set_option linter.unusedVariables false

theorem bucketsGrow_own : ownKnob Try.prog.godebug = none := by kernel_rfl

set_option maxHeartbeats 4000000 in
set_option maxRecDepth 100000 in
theorem bucketsGrow_walk (n0 : Int) (_ : (Lit.int .i64 n0).wf = true) (k0 : Int) (_ : (Lit.int .i64 k0).wf = true) (w : World) :
    Calls Try.prog 10 #[.int .i64 n0, .int .i64 k0] w fun e w' => e = .returned (.bool true) ∧ Up w w' := by
  have KA := Lib.hid awake10_up
  have K1 := Lib.hid (fun W => int_any n0 300 (by omega) (by omega) W)
  have K2 := Lib.hid (fun W => int_any k0 6 (by omega) (by omega) W)
  have b1 : 0 ≤ n0 % 300 := Int.emod_nonneg _ (by omega)
  have b2 : n0 % 300 < 300 := Int.emod_lt_of_pos _ (by omega)
  have b3 : 0 ≤ k0 % 6 := Int.emod_nonneg _ (by omega)
  have b4 : k0 % 6 < 6 := Int.emod_lt_of_pos _ (by omega)
  generalize n0 % 300 = n at *
  generalize k0 % 6 = k at *
  obtain ⟨m, rfl⟩ : ∃ m : Nat, n = m := ⟨n.toNat, by omega⟩
  have HV := Lib.hid (fun i hi => itB_va (q := 1 + k) (t := 0) (Va.nil (by omega) (by omega)) (by omega) (by omega) (fun x hx => by cases hx) i hi)
  have KI := Lib.hid (fun (X : List It) (n' k' : Nat) (A' : Option Addr) (hn' : n' ≤ 50000) W (h : Sl W A' n' X) => insert_up n' k' A' X (1 + k) 0 hn' W h)
  have KC := Lib.hid (fun (X : List It) (n' k' : Nat) (A' : Option Addr) (hn' : n' ≤ 50000) W (h : Sl W A' n' X) => counts10_up n' k' A' X hn' W h)
  have KT := Lib.hid (fun (X : List It) (n' k' : Nat) (A' : Option Addr) (hn' : n' ≤ 100000) W (h : Sl W A' n' X) => total10_up n' k' A' X hn' W h)
  have KN := Lib.hid (canonical_up (m : Int) (1 + k))
  go_enter Try.func10, Try.ntmps10
  go_wp2_with (first | (go_at_call 35; (with_reducible refine (K1.out _).mono ?_); rintro e w' ⟨rfl, rfl⟩) | (go_at_call 35; (with_reducible refine (K2.out _).mono ?_); rintro e w' ⟨rfl, rfl⟩))
  go_loopw [5, 6] (fun s5 s6 wr => ∃ (i n' k' : Nat) (A' : Option Addr), s5 = .slice A' n' k' ∧ s6 = .int .i64 i ∧ i ≤ m ∧ Hid (Sl wr A' n' (itB (1 + k) 0 i [])) ∧ Hid (Up w wr)) (fun _ s6 _ => m - (intOf s6).toNat)
  case atStart => exact ⟨0, 0, 0, none, rfl, rfl, by omega, Lib.hid Sl.none_, Lib.hid (Up.refl _)⟩
  case round =>
    obtain ⟨i, n', k', A', rfl, rfl, hi, HS, HU⟩ := hrel
    obtain ⟨va, vt, vl⟩ := HV.out i (fun _ => by simp only [totB]; omega)
    have e0 : totB [] = 0 := rfl
    rw [e0] at vt
    have hn' : n' ≤ 300 := by have := va.short; rw [HS.out.1] at this; omega
    by_cases h : i < m
    · have f2 : (i : Int) < m := by omega
      have HE : Hid (imL (itB (1 + k) 0 i []) (1 + k) 0 1 = itB (1 + k) 0 (i + 1) []) := Lib.hid (imL_one va (by omega) (by omega) vl (by omega))
      have KJ := Lib.hid (KI.out (itB (1 + k) 0 i []) n' k' A' (by omega))
      rw [HE.out] at KJ
      clear va vt vl
      go_wp2_with (go_at_call 19; (with_reducible refine (KJ.out _ HS.out).mono ?_); rintro e w1 ⟨A1, n1, k1, rfl, _, ho1, hu1⟩)
      obtain ⟨A2, k2, e2, _, hs2⟩ := ho1.sl
      cases e2
      go_roundw
      case rel => exact ⟨i + 1, n1, k1, A1, rfl, by go_num, by omega, Lib.hid hs2, Lib.hid (HU.out.trans hu1)⟩
      case measure => simp [intOf]; omega
    · obtain rfl : m = i := by omega
      have KC1 := Lib.hid (KC.out _ n' k' A' (by omega) _ HS.out)
      have KT1 := Lib.hid (fun W h => KT.out (itB (1 + k) 0 m []) n' k' A' (by omega) W h)
      rw [va.cu (by omega), vt] at KC1
      rw [vt] at KT1
      simp only [Int.zero_add] at KC1 KT1
      generalize caR (m : Int) (1 + k) = Z at *
      have t1 : ((m : Int) == (m : Int)) = true := by simp
      clear va vt vl HV
      go_wp2_with (first | (go_at_call 27; (with_reducible refine KC1.out.mono ?_); rintro e w1 ⟨A1, c1, k1, rfl, hc1, hs1, hu1⟩; have HU1 := Lib.hid hu1; have HS1 := Lib.hid hs1; clear hu1 hs1) | (go_at_call 31; (with_reducible refine (KN.out _).mono ?_); rintro e w2 ⟨A2, c2, k2, rfl, hc2, ho2, hu2⟩; obtain ⟨A3, k3, e3, _, hs3⟩ := ho2.sl; cases e3; obtain rfl : c1 = c2 := HS1.out.1.symm.trans hs3.1; have HU2 := Lib.hid (HU1.out.trans hu2); have HS2 := Lib.hid hs3; have HS3 := Lib.hid (HS1.out.up hu2); clear hu2 ho2 hs3) | (go_at_call 26; (with_reducible refine (sameI_t c1 k1 k2 A1 A2 Z (by omega) _ HS3.out HS2.out).mono ?_); rintro e w3 ⟨rfl, hu3⟩; have HU3 := Lib.hid (HU2.out.trans hu3); clear hu3) | (go_at_call 16; (with_reducible refine (KT1.out _ (HS.out.up HU3.out)).mono ?_); rintro e w4 ⟨rfl, hu4⟩; have HU4 := Lib.hid (HU3.out.trans hu4); clear hu4) | (go_at_call 13; (with_reducible refine (KA.out _).mono ?_); rintro e w5 ⟨rfl, hu5⟩; have HU5 := Lib.hid (HU4.out.trans hu5); clear hu5))
      go_ret
      exact ⟨rfl, HU.out.trans HU5.out⟩

set_option maxRecDepth 100000 in
theorem bucketsGrow_lifted (os : Os) (started : os.Started) (H : Type) (enc : TypeId × Value → H) :
    ReturnsInHanded {} Try.checked os 10 .any (Rows.bucketsGrowSpec.pre6 enc Try.prog Try.f10 Rows.bucketsGrowRow.domain false) (Rows.bucketsGrowSpec.post enc Try.prog Try.f10 false true false false) := by
  refine returnsInHanded_of_change_sized (C := Try.checked) bucketsGrow_own started (by kernel_rfl) Try.func10
    (ChangeSpec.witness6 (enc := enc) (C := Try.checked) false ⟨#[], #[.int .i64 0, .int .i64 0], []⟩ 8 (by kernel_rfl) (by kernel_rfl) (by kernel_rfl) (by kernel_rfl)) ?_
  intro W base args ds gs before hval0 hW hcnd hsz0 _
  have hval : ∀ (j : Nat) t v, Try.f10.params[j]? = some t → args[j]? = some v → Value.okWide Try.prog W .any base t v := hval0
  have hW' := hW
  obtain ⟨p, q, hA0, hV, rfl, hfz, hnd⟩ := hW'
  have hA : DataW.TrodAll enc Try.prog W 0 (fun _ => true) true Try.f10.params.toList args.toList ds p := hA0
  rw [Try.params10] at hA hval
  obtain ⟨v0, vs0, d0, ds0, p0, q0, hargs, rfl, rfl, h0, r0⟩ := trodAll_cons hA
  obtain ⟨v1, vs1, d1, ds1, p1, q1, rfl, rfl, rfl, h1, r1⟩ := trodAll_cons r0
  obtain ⟨rfl, rfl, rfl⟩ := trodAll_nil r1
  obtain rfl : args = #[v0, v1] := by cases args; simp_all
  obtain ⟨rfl, rfl⟩ := trodVars_none hV
  have hlt := fun x hx => hW.lt x hx
  have k0 := h0
  obtain ⟨a0, rfl, rfl, rfl, w0⟩ := open_int Try.underlying3 (hval 0 3 v0 rfl rfl) h0
  have k1 := h1
  obtain ⟨a1, rfl, rfl, rfl, w1⟩ := open_int Try.underlying3 (hval 1 3 v1 rfl rfl) h1
  refine (bucketsGrow_walk a0 w0 a1 w1 W).mono fun e W' ⟨he, hg⟩ => ?_
  subst he
  exact ⟨_, rfl, post_of_same (pv := []) hW (fun _ _ _ => (trodAll_cons_mk (shut_bool Try.underlying4 _) trodAll_mk0)) (fun sp hsp => (trodAll_cons_mk (stay (by kernel_rfl) (of_decide_eq_true (by kernel_rfl)) k0 hg hlt (fun x hx => by first | (simp at hx; done) | simp [hx]) hsp) (trodAll_cons_mk (stay (by kernel_rfl) (of_decide_eq_true (by kernel_rfl)) k1 hg hlt (fun x hx => by first | (simp at hx; done) | simp [hx]) hsp) trodAll_mk0))) (fun _ _ => rfl) rfl
    (hg.grown.frame _) hg.grown.2.1 (ok_one (by kernel_rfl) rfl (okWide_bool_mk Try.underlying4 _))⟩

theorem bucketsGrow_over : Rows.bucketsGrowRow.holds Try.pinned (OpenSpec.ofChange Rows.bucketsGrowSpec) :=
  OpenClaim.holds_of_wide 10 Try.f10 rfl rfl rfl rfl rfl rfl rfl ⟨rfl, rfl, rfl, rfl, rfl⟩ rfl rfl rfl rfl rfl (by kernel_rfl) Try.func10 (by kernel_rfl)
    (of_decide_eq_true (by kernel_rfl)) (by unfold Func.isWrapper; first | (rw [if_pos (by decide +kernel)]; kernel_rfl) | (rw [if_neg (by decide +kernel)]; exact ⟨rfl, rfl⟩))
    (fun os started H enc _ => bucketsGrow_lifted os started H enc)

theorem bucketsGrow_holds : Rows.BucketsGrowSaid :=
  bucketsGrow_over
#print axioms bucketsGrow_holds
end Go.Proofs.Ytnhekeohbnmodaa
