/- Proved: for any numbers the law BucketsCanonical returns true: the closed form of the numbers of buckets stands for so many items, with at most the bound of buckets. Conditions: none. -/
import Derived.Test.YtnhekeohbnmodaaRows
import Derived.WalkKit
import Derived.ProofKit
import Derived.OpenShut
import Derived.Lib.SmallJoins
import Derived.Test.YtnhekeohbnmodaaHFrame
import Derived.SizedLaws
import Derived.Test.YtnhekeohbnmodaaHLaws
namespace Go.Proofs.Ytnhekeohbnmodaa
open Go.ChangeShapes Go.WideShapes Go.ChangeAt Go.RowKit Go.Joins
set_option linter.unusedVariables false

theorem bucketsCanonical_own : ownKnob Try.prog.godebug = none := by kernel_rfl

set_option maxHeartbeats 4000000 in
set_option maxRecDepth 100000 in
theorem bucketsCanonical_walk (n : Int) (hwn : (Lit.int .i64 n).wf = true) (k : Int) (_ : (Lit.int .i64 k).wf = true) (c : Int) (hwc : (Lit.int .i64 c).wf = true) (w : World) :
    Calls Try.prog 9 #[.int .i64 n, .int .i64 k, .int .i64 c] w fun e w' => e = .returned (.bool true) ∧ Up w w' := by
  have hin := in_of_wf hwn
  have hic := in_of_wf hwc
  have KA := Lib.hid awake10_up
  have K1 := Lib.hid (canonical_up n k)
  have K2 := Lib.hid (rcanonical_up n k)
  have K3 := Lib.hid (most_any k c hic)
  have K4 := Lib.hid (rmost_any k c hic)
  have K5 := Lib.hid (most_any k n hin)
  cases hb : caB n k with
  | false =>
    rw [caR_no hb] at K1 K2
    generalize moZ k c = y at *
    have t1 : (y != y) = false := by simp
    clear hb hwn hwc hin hic
    go_enter Try.func9, Try.ntmps9
    go_wp2_with (first | (go_at_call 31; (with_reducible refine (K1.out _).mono ?_); rintro e w1 ⟨A1, c1, k1, rfl, hc1, ho1, hu1⟩; obtain ⟨A1', k1', e1, _, hs1⟩ := ho1.sl; cases e1; obtain rfl : c1 = 0 := hs1.1.symm; have HU1 := Lib.hid hu1; have HN0 := Lib.hid hs1; clear hu1 hs1 ho1) | (go_at_call 32; (with_reducible refine (K2.out _).mono ?_); rintro e w2 ⟨A2, c2, k2, rfl, hc2, ho2, hu2⟩; obtain ⟨A2', k2', e2, _, hs2⟩ := ho2.sl; cases e2; obtain rfl : c2 = 0 := hs2.1.symm; have HU2 := Lib.hid (HU1.out.trans hu2); have HN1 := Lib.hid (HN0.out.up hu2); have HN2 := Lib.hid hs2; clear hu2 ho2 hs2) | (go_at_call 26; (with_reducible refine (sameI_t 0 k1 k2 A1 A2 [] (by omega) w2 HN1.out HN2.out).mono ?_); rintro e w3 ⟨rfl, hu3⟩; have HU3 := Lib.hid (HU2.out.trans hu3); clear hu3) | (go_at_call 33; (with_reducible refine (K3.out _).mono ?_); rintro e w' ⟨rfl, rfl⟩) | (go_at_call 34; (with_reducible refine (K4.out _).mono ?_); rintro e w' ⟨rfl, rfl⟩))
    go_loopw [8, 9, 32] (fun s8 s9 s32 wr => s8 = .int .i64 0 ∧ s9 = .int .i64 0 ∧ s32 = .int .i64 0 ∧ Hid (Up w wr)) (fun _ _ _ _ => 0)
    case atStart => exact ⟨rfl, rfl, rfl, HU3⟩
    case round =>
      obtain ⟨rfl, rfl, rfl, HU⟩ := hrel
      go_wp2_with (go_at_call 13; (with_reducible refine (KA.out _).mono ?_); rintro e w5 ⟨rfl, hu⟩)
      go_ret
      exact ⟨rfl, HU.out.trans hu⟩
  | true =>
  obtain ⟨hn, hk⟩ := ca_true hb
  obtain ⟨f1, f2, f3⟩ := caL_facts hk.1 31 n hn.1 (by rw [pow31]; omega)
  have er := caR_yes hb
  rw [← er] at f1 f2 f3
  have g1 := fun i hi => pfS_le (L := caR n k) (fun c hc => Int.le_of_lt (f2 c hc).1) i hi
  have g2 := fun i hi => pfC_le (L := caR n k) (fun c hc => Int.le_of_lt (f2 c hc).1) i hi
  have g3 := pfS_all (caR n k)
  have g4 := pfC_all (caR n k)
  have g5 : smB (caR n k) ≤ (k + 1) * ((caR n k).length : Int) := smB_le (fun c hc => (f2 c hc).2)
  have g6 : smB (caR n k) ≤ moZ k n := by
    unfold moZ
    rw [if_pos (show kB k = true from decide_eq_true hk)]
    exact Int.le_trans g5 (Int.mul_le_mul_of_nonneg_left f3 (by omega))
  have g7 := (mo_bound (k := k) (c := n) (decide_eq_true hk) hin).2.2
  have g8 : moZ k n = (k + 1) * bitsZ n := by unfold moZ; rw [if_pos (show kB k = true from decide_eq_true hk)]
  rw [f1] at g1 g3
  generalize caR n k = Z at *
  generalize moZ k c = y at *
  have hmz : moZ k n ≤ 8127 := by rw [g8]; exact g7
  generalize moZ k n = mz at *
  have t1 : (y != y) = false := by simp
  have G1 := Lib.hid g1
  have G2 := Lib.hid g2
  have G3 := Lib.hid g3
  have G4 := Lib.hid g4
  have hsm : smB Z ≤ 8127 := by omega
  clear hb hwn hwc hin hic f1 f2 f3 er g1 g2 g3 g4 g5 g7 g8
  have HSM := Lib.hid (And.intro g6 hsm)
  clear g6 hsm
  go_enter Try.func9, Try.ntmps9
  go_wp2_with (first | (go_at_call 31; (with_reducible refine (K1.out _).mono ?_); rintro e w1 ⟨A1, c1, k1, rfl, hc1, ho1, hu1⟩; obtain ⟨A1', k1', e1, _, hs1⟩ := ho1.sl; cases e1; have HU1 := Lib.hid hu1; have HS1 := Lib.hid hs1; clear hu1 hs1 ho1) | (go_at_call 32; (with_reducible refine (K2.out _).mono ?_); rintro e w2 ⟨A2, c2, k2, rfl, hc2, ho2, hu2⟩; obtain ⟨A2', k2', e2, _, hs2⟩ := ho2.sl; cases e2; obtain rfl : c1 = c2 := HS1.out.1.symm.trans hs2.1; have HU2 := Lib.hid (HU1.out.trans hu2); have HS2 := Lib.hid hs2; have HS3 := Lib.hid (HS1.out.up hu2); clear hu2 ho2 hs2) | (go_at_call 26; (with_reducible refine (sameI_t c1 k1 k2 A1 A2 Z (by omega) _ HS3.out HS2.out).mono ?_); rintro e w3 ⟨rfl, hu3⟩; have HU3 := Lib.hid (HU2.out.trans hu3); have HS4 := Lib.hid (HS3.out.up hu3); clear hu3) | (go_at_call 33; (with_reducible refine (K3.out _).mono ?_); rintro e w' ⟨rfl, rfl⟩) | (go_at_call 34; (with_reducible refine (K4.out _).mono ?_); rintro e w' ⟨rfl, rfl⟩))
  have HL := Lib.hid HS4.out.1
  go_loopw [8, 9, 32] (fun s8 s9 s32 wr => ∃ i : Nat, s8 = .int .i64 (pfS Z i) ∧ s9 = .int .i64 (pfC Z i) ∧ s32 = .int .i64 i ∧ i ≤ c1 ∧ Hid (Sn wr A1 c1 Z) ∧ Hid (Up w wr)) (fun _ _ s32 _ => c1 - (intOf s32).toNat)
  case atStart => exact ⟨0, rfl, rfl, rfl, by omega, HS4, HU3⟩
  case round =>
    obtain ⟨i, rfl, rfl, rfl, hi, HS, HU⟩ := hrel
    have a1 := G1.out i (by rw [HL.out]; exact hi)
    have a2 := G2.out i (by rw [HL.out]; exact hi)
    have a3 := HSM.out
    by_cases h : i < c1
    · have b1 := G1.out (i + 1) (by rw [HL.out]; exact h)
      have b2 := G2.out (i + 1) (by rw [HL.out]; exact h)
      have E1 : pfS Z (i + 1) = pfS Z i + Z.getD i 0 * 2 ^ i := rfl
      have E2 : pfC Z (i + 1) = pfC Z i + Z.getD i 0 := rfl
      obtain ⟨b, o, rfl, d0⟩ := HS.out.2 (by omega)
      have d1 := d0 i h
      obtain ⟨v, hv⟩ : ∃ v, Z.getD i 0 = v := ⟨_, rfl⟩
      rw [hv] at d1 E1 E2
      rw [E1] at b1
      rw [E2] at b2
      have HE1 := Lib.hid E1
      have HE2 := Lib.hid E2
      clear d0 hv E1 E2
      obtain ⟨x, hx⟩ : ∃ x, pfS Z i = x := ⟨_, rfl⟩
      obtain ⟨z, hz⟩ : ∃ z, pfC Z i = z := ⟨_, rfl⟩
      rw [hx] at a1 b1 HE1
      rw [hz] at a2 b2 HE2
      rw [hx, hz]
      clear hx hz
      have f2 : (i : Int) < c1 := by omega
      have f3 : (0 : Int) ≤ i := by omega
      have h1 := hn.2
      have e1 : wrap64 (v * 2 ^ i) = v * 2 ^ i := by
        generalize v * 2 ^ i = u at *
        unfold wrap64; omega
      have e2 : wrap64 (x + v * 2 ^ i) = x + v * 2 ^ i := by
        generalize v * 2 ^ i = u at *
        unfold wrap64; omega
      have e3 : wrap64 (z + v) = z + v := by unfold wrap64; omega
      go_wp2_with fail
      go_roundw
      case rel => exact ⟨i + 1, by rw [HE1.out], by rw [HE2.out], by go_num, by omega, HS, HU⟩
      case measure => simp [intOf]; omega
    · obtain rfl : c1 = i := by omega
      have e0 : pfS Z c1 = n := by rw [← HL.out]; exact G3.out
      have e1 : pfC Z c1 = smB Z := by rw [← HL.out]; exact G4.out
      rw [e0, e1]
      have a4 := a3.1
      generalize smB Z = sm at *
      have t2 : (n == n) = true := by simp
      clear e0 e1 a1 a2 G1 G2 G3 G4 HSM HL
      by_cases h0 : c1 = 0
      · subst h0
        go_wp2_with (go_at_call 13; (with_reducible refine (KA.out _).mono ?_); rintro e w5 ⟨rfl, hu⟩)
        go_ret
        exact ⟨rfl, HU.out.trans hu⟩
      · have t3 : ((c1 : Int) == 0) = false := by simp; omega
        go_wp2_with (first | (go_at_call 33; (with_reducible refine (K5.out _).mono ?_); rintro e w' ⟨rfl, rfl⟩) | (go_at_call 13; (with_reducible refine (KA.out _).mono ?_); rintro e w5 ⟨rfl, hu⟩))
        go_ret
        exact ⟨rfl, HU.out.trans hu⟩

set_option maxRecDepth 100000 in
theorem bucketsCanonical_lifted (os : Os) (started : os.Started) (H : Type) (enc : TypeId × Value → H) :
    ReturnsInHanded {} Try.checked os 9 .any (Rows.bucketsCanonicalSpec.pre6 enc Try.prog Try.f9 Rows.bucketsCanonicalRow.domain false) (Rows.bucketsCanonicalSpec.post enc Try.prog Try.f9 false true false false) := by
  refine returnsInHanded_of_change_sized (C := Try.checked) bucketsCanonical_own started (by kernel_rfl) Try.func9
    (ChangeSpec.witness6 (enc := enc) (C := Try.checked) false ⟨#[], #[.int .i64 0, .int .i64 0, .int .i64 0], []⟩ 8 (by kernel_rfl) (by kernel_rfl) (by kernel_rfl) (by kernel_rfl)) ?_
  intro W base args ds gs before hval0 hW hcnd hsz0 _
  have hval : ∀ (j : Nat) t v, Try.f9.params[j]? = some t → args[j]? = some v → Value.okWide Try.prog W .any base t v := hval0
  have hW' := hW
  obtain ⟨p, q, hA0, hV, rfl, hfz, hnd⟩ := hW'
  have hA : DataW.TrodAll enc Try.prog W 0 (fun _ => true) true Try.f9.params.toList args.toList ds p := hA0
  rw [Try.params9] at hA hval
  obtain ⟨v0, vs0, d0, ds0, p0, q0, hargs, rfl, rfl, h0, r0⟩ := trodAll_cons hA
  obtain ⟨v1, vs1, d1, ds1, p1, q1, rfl, rfl, rfl, h1, r1⟩ := trodAll_cons r0
  obtain ⟨v2, vs2, d2, ds2, p2, q2, rfl, rfl, rfl, h2, r2⟩ := trodAll_cons r1
  obtain ⟨rfl, rfl, rfl⟩ := trodAll_nil r2
  obtain rfl : args = #[v0, v1, v2] := by cases args; simp_all
  obtain ⟨rfl, rfl⟩ := trodVars_none hV
  have hlt := fun x hx => hW.lt x hx
  have k0 := h0
  obtain ⟨a0, rfl, rfl, rfl, w0⟩ := open_int Try.underlying2 (hval 0 2 v0 rfl rfl) h0
  have k1 := h1
  obtain ⟨a1, rfl, rfl, rfl, w1⟩ := open_int Try.underlying3 (hval 1 3 v1 rfl rfl) h1
  have k2 := h2
  obtain ⟨a2, rfl, rfl, rfl, w2⟩ := open_int Try.underlying2 (hval 2 2 v2 rfl rfl) h2
  refine (bucketsCanonical_walk a0 w0 a1 w1 a2 w2 W).mono fun e W' ⟨he, hg⟩ => ?_
  subst he
  exact ⟨_, rfl, post_of_same (pv := []) hW (fun _ _ _ => (trodAll_cons_mk (shut_bool Try.underlying4 _) trodAll_mk0)) (fun sp hsp => (trodAll_cons_mk (stay (by kernel_rfl) (of_decide_eq_true (by kernel_rfl)) k0 hg hlt (fun x hx => by first | (simp at hx; done) | simp [hx]) hsp) (trodAll_cons_mk (stay (by kernel_rfl) (of_decide_eq_true (by kernel_rfl)) k1 hg hlt (fun x hx => by first | (simp at hx; done) | simp [hx]) hsp) (trodAll_cons_mk (stay (by kernel_rfl) (of_decide_eq_true (by kernel_rfl)) k2 hg hlt (fun x hx => by first | (simp at hx; done) | simp [hx]) hsp) trodAll_mk0)))) (fun _ _ => rfl) rfl
    (hg.grown.frame _) hg.grown.2.1 (ok_one (by kernel_rfl) rfl (okWide_bool_mk Try.underlying4 _))⟩

theorem bucketsCanonical_over : Rows.bucketsCanonicalRow.holds Try.pinned (OpenSpec.ofChange Rows.bucketsCanonicalSpec) :=
  OpenClaim.holds_of_wide 9 Try.f9 rfl rfl rfl rfl rfl rfl rfl ⟨rfl, rfl, rfl, rfl, rfl⟩ rfl rfl rfl rfl rfl (by kernel_rfl) Try.func9 (by kernel_rfl)
    (of_decide_eq_true (by kernel_rfl)) (by unfold Func.isWrapper; first | (rw [if_pos (by decide +kernel)]; kernel_rfl) | (rw [if_neg (by decide +kernel)]; exact ⟨rfl, rfl⟩))
    (fun os started H enc _ => bucketsCanonical_lifted os started H enc)

theorem bucketsCanonical_holds : Rows.BucketsCanonicalSaid :=
  bucketsCanonical_over
#print axioms bucketsCanonical_holds
end Go.Proofs.Ytnhekeohbnmodaa
