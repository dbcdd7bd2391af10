/- Proved: for any list of buckets the law BucketsQuery returns true: Query and Counts of package buckets answer as the reference does. Conditions: none. -/
import Derived.Test.YtnhekeohbnmodaaRows
import Derived.Lib.SmallJoins
import Derived.OpenShut
import Derived.ProofKit
import Derived.SizedLaws
import Derived.WalkKit
import Derived.Test.YtnhekeohbnmodaaZGBase
import Derived.Test.YtnhekeohbnmodaaZGFrame
import Derived.Test.YtnhekeohbnmodaaZHCan
import Derived.Test.YtnhekeohbnmodaaZHEq
import Derived.Test.YtnhekeohbnmodaaZHFrame
import Derived.Test.YtnhekeohbnmodaaZHRow
import Derived.Test.YtnhekeohbnmodaaZHTally
import Derived.Test.YtnhekeohbnmodaaZJHNum
import Derived.Test.YtnhekeohbnmodaaZJHSame
import Derived.Test.YtnhekeohbnmodaaZJHSmall
import Derived.Test.YtnhekeohbnmodaaZMath
import Derived.Test.YtnhekeohbnmodaaZWide
namespace Go.Proofs.Ytnhekeohbnmodaa
open Go.ChangeShapes Go.WideShapes Go.ChangeAt Go.RowKit Go.Joins
set_option linter.unusedVariables false

theorem bucketsQuery_own : ownKnob Try.prog.godebug = none := by kernel_rfl

set_option maxHeartbeats 4000000 in
set_option maxRecDepth 100000 in
theorem bucketsQuery_walk (n k : Nat) (A : Option Addr) (L : List It) (hk : n ≤ k) (w : World) (hS : Sl w A n L) :
    Calls Try.prog 8 #[.slice A n k] w fun e w' => e = .returned (.bool true) ∧ Up w w' := by
  have KA := Lib.hid awake10_up
  have KF := Lib.hid (few10_any n k A)
  by_cases hn : n ≤ 300
  · rw [decide_eq_true (p := (n : Int) ≤ 300) (by omega)] at KF
    have K1 := Lib.hid (fun W (h : Sl W A n L) => counts10_up n k A L (by omega) W h)
    have K2 := Lib.hid (fun W (h : Sl W A n L) => rcounts10_up n k A L (by omega) W h)
    have HG := Lib.hid (show (∀ j, j < n → levB (L.getD j (0, 0)).2 = true) → lvB L = true from fun h => decide_eq_true (fun j hj => h j (by rw [← hS.1]; exact hj)))
    have HS := Lib.hid hS
    have KP := Lib.hid (fun h W (hs : Sl W A n L) => query10_up n k A L (by omega) h W hs)
    have KQ := Lib.hid (fun h W (hs : Sl W A n L) => rquery10_up n k A L (by omega) h W hs)
    obtain ⟨x0, x1, x2, x3, x4, x5, hq⟩ := quV_agg L
    rw [hq] at KP KQ
    have qe := fun W => eqB6 x0 x1 x2 x3 x4 x5 W
    generalize cuL L = Z at *
    clear hS hq
    go_enter Try.func8, Try.ntmps8
    go_wp2_with (first | (go_at_call 12; (with_reducible refine (KF.out _).mono ?_); rintro e w' ⟨rfl, rfl⟩) | (go_at_call 27; (with_reducible refine (K1.out _ HS.out).mono ?_); rintro e w1 ⟨A1, c1, k1, rfl, hc1, hs1, hu1⟩; have HU1 := Lib.hid hu1; have HS1 := Lib.hid hs1; clear hu1 hs1) | (go_at_call 28; (with_reducible refine (K2.out _ (HS.out.up HU1.out)).mono ?_); rintro e w2 ⟨A2, c2, k2, rfl, hc2, hs2, hu2⟩; obtain rfl : c1 = c2 := HS1.out.1.symm.trans hs2.1; have HU2 := Lib.hid (HU1.out.trans hu2); have HS2 := Lib.hid hs2; have HS3 := Lib.hid (HS1.out.up hu2); clear hu2 hs2) | (go_at_call 26; (with_reducible refine (sameI_t c1 k1 k2 A1 A2 Z (by omega) _ HS3.out HS2.out).mono ?_); rintro e w3 ⟨rfl, hu3⟩; have HU3 := Lib.hid (HU2.out.trans hu3); clear hu3))
    go_loopw [17] (fun t wr => ∃ i : Nat, t = .int .i64 i ∧ i ≤ n ∧ Hid (∀ j, j < i → levB (L.getD j (0, 0)).2 = true) ∧ Hid (Up w wr)) (fun t _ => n - (intOf t).toNat)
    case atStart => exact ⟨0, rfl, Nat.zero_le _, Lib.hid (fun j hj => absurd hj (by omega)), HU3⟩
    case round =>
      obtain ⟨i, rfl, hin, HA, HU⟩ := hrel
      by_cases hi : i < n
      · obtain ⟨b, o, rfl, d0, d1⟩ := (HS.out.up HU.out).at_ hi
        have HA1 : Hid (levB (L.getD i (0, 0)).2 = true → ∀ j, j < i + 1 → levB (L.getD j (0, 0)).2 = true) := Lib.hid (fun h j hj => by
          rcases Nat.lt_or_ge j i with g | g
          · exact HA.out j g
          · obtain rfl : j = i := by omega
            exact h)
        generalize (L.getD i (0, 0)).1 = p0 at *
        generalize hp1 : (L.getD i (0, 0)).2 = p1 at d1 HA1
        have f2 : (i : Int) < n := by omega
        have f3 : (0 : Int) ≤ i := by omega
        by_cases h1 : p1 < 0
        · clear HA HA1 HG hp1
          go_wp2_with (go_at_call 13; (with_reducible refine (KA.out _).mono ?_); rintro e w5 ⟨rfl, hu⟩)
          go_ret
          exact ⟨rfl, (HU.out.alloc _ _).trans hu⟩
        by_cases h2 : 30 < p1
        · clear HA HA1 HG hp1
          go_wp2_with (go_at_call 13; (with_reducible refine (KA.out _).mono ?_); rintro e w5 ⟨rfl, hu⟩)
          go_ret
          exact ⟨rfl, (HU.out.alloc _ _).trans hu⟩
        have HA2 := Lib.hid (HA1.out (decide_eq_true (by omega)))
        clear HA HA1 hp1
        go_wp2_with fail
        go_roundw
        case rel => exact ⟨i + 1, by go_num, by omega, HA2, Lib.hid (HU.out.alloc _ _)⟩
        case measure => simp [intOf]; omega
      · obtain rfl : n = i := by omega
        have HLV := Lib.hid (HG.out HA.out)
        clear HA HG
        go_wp2_with (first | (go_at_call 29; (with_reducible refine (KP.out HLV.out _ (HS.out.up HU.out)).mono ?_); rintro e w6 ⟨rfl, hu⟩; have HU6 := Lib.hid (HU.out.trans hu); clear hu) | (go_at_call 30; (with_reducible refine (KQ.out HLV.out _ (HS.out.up HU6.out)).mono ?_); rintro e w7 ⟨rfl, hu⟩; have HU7 := Lib.hid (HU6.out.trans hu); clear hu) | (go_at_call 13; (with_reducible refine (KA.out _).mono ?_); rintro e w8 ⟨rfl, hu⟩; have HU8 := Lib.hid (HU7.out.trans hu); clear hu))
        go_ret
        exact ⟨rfl, HU8.out⟩
  · rw [decide_eq_false (p := (n : Int) ≤ 300) (by omega)] at KF
    clear hS
    go_enter Try.func8, Try.ntmps8
    go_wp2_with (first | (go_at_call 12; (with_reducible refine (KF.out _).mono ?_); rintro e w' ⟨rfl, rfl⟩) | (go_at_call 13; (with_reducible refine (KA.out _).mono ?_); rintro e w5 ⟨rfl, hu⟩))
    go_ret
    exact ⟨rfl, hu⟩

set_option maxRecDepth 100000 in
theorem bucketsQuery_lifted (os : Os) (started : os.Started) (H : Type) (enc : TypeId × Value → H) :
    ReturnsInHanded {} Try.checked os 8 .any (Rows.bucketsQuerySpec.pre6 enc Try.prog Try.f8 Rows.bucketsQueryRow.domain false) (Rows.bucketsQuerySpec.post enc Try.prog Try.f8 false true false false) := by
  refine returnsInHanded_of_change_sized (C := Try.checked) bucketsQuery_own started (by kernel_rfl) Try.func8
    (ChangeSpec.witness6 (enc := enc) (C := Try.checked) false ⟨#[], #[.slice none 0 0], []⟩ 8 (by kernel_rfl) (by kernel_rfl) (by kernel_rfl) (by kernel_rfl)) ?_
  intro W base args ds gs before hval0 hW hcnd hsz0 _
  have hval : ∀ (j : Nat) t v, Try.f8.params[j]? = some t → args[j]? = some v → Value.okWide Try.prog W .any base t v := hval0
  have hW' := hW
  obtain ⟨p, q, hA0, hV, rfl, hfz, hnd⟩ := hW'
  have hA : DataW.TrodAll enc Try.prog W 0 (fun _ => true) true Try.f8.params.toList args.toList ds p := hA0
  rw [Try.params8] at hA hval
  obtain ⟨v0, vs0, d0, ds0, p0, q0, hargs, rfl, rfl, h0, r0⟩ := trodAll_cons hA
  obtain ⟨rfl, rfl, rfl⟩ := trodAll_nil r0
  obtain rfl : args = #[v0] := by cases args; simp_all
  obtain ⟨rfl, rfl⟩ := trodVars_none hV
  have hlt := fun x hx => hW.lt x hx
  have k0 := h0
  obtain ⟨n0, m0, A0, L0, rfl, hk0, hS0⟩ := open_buckets (hval 0 22 v0 rfl rfl) h0
  refine (bucketsQuery_walk n0 m0 A0 L0 hk0 W hS0).mono fun e W' ⟨he, hg⟩ => ?_
  subst he
  exact ⟨_, rfl, post_of_same (pv := []) hW (fun _ _ _ => (trodAll_cons_mk (shut_bool Try.underlying4 _) trodAll_mk0)) (fun sp hsp => (trodAll_cons_mk (stay (by kernel_rfl) (of_decide_eq_true (by kernel_rfl)) k0 hg hlt (fun x hx => by first | (simp at hx; done) | simp [hx]) hsp) trodAll_mk0)) (fun _ _ => rfl) rfl
    (hg.grown.frame _) hg.grown.2.1 (ok_one (by kernel_rfl) rfl (okWide_bool_mk Try.underlying4 _))⟩

theorem bucketsQuery_over : Rows.bucketsQueryRow.holds Try.pinned (OpenSpec.ofChange Rows.bucketsQuerySpec) :=
  OpenClaim.holds_of_wide 8 Try.f8 rfl rfl rfl rfl rfl rfl rfl ⟨rfl, rfl, rfl, rfl, rfl⟩ rfl rfl rfl rfl rfl (by kernel_rfl) Try.func8 (by kernel_rfl)
    (of_decide_eq_true (by kernel_rfl)) (by unfold Func.isWrapper; first | (rw [if_pos (by decide +kernel)]; kernel_rfl) | (rw [if_neg (by decide +kernel)]; exact ⟨rfl, rfl⟩))
    (fun os started H enc _ => bucketsQuery_lifted os started H enc)

theorem bucketsQuery_holds : Rows.BucketsQuerySaid :=
  bucketsQuery_over
#print axioms bucketsQuery_holds
end Go.Proofs.Ytnhekeohbnmodaa
