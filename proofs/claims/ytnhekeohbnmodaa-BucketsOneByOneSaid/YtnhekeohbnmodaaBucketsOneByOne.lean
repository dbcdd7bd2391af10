/- Proved: for any list of buckets and any numbers the law BucketsOneByOne returns true: inserting many items is inserting them one by one. Conditions: none. -/
import Derived.Test.YtnhekeohbnmodaaRows
import Derived.WalkKit
import Derived.ProofKit
import Derived.OpenShut
import Derived.Lib.SmallJoins
import Derived.Test.YtnhekeohbnmodaaHFrame
import Derived.SizedLaws
import Derived.Test.YtnhekeohbnmodaaHLaws
import Derived.Test.YtnhekeohbnmodaaHRIns
import Derived.Test.YtnhekeohbnmodaaGMod
namespace Go.Proofs.Ytnhekeohbnmodaa
open Go.ChangeShapes Go.WideShapes Go.ChangeAt Go.RowKit Go.Joins
set_option linter.unusedVariables false

theorem bucketsOneByOne_own : ownKnob Try.prog.godebug = none := by kernel_rfl

set_option maxHeartbeats 4000000 in
set_option maxRecDepth 100000 in
theorem bucketsOneByOne_walk (n k : Nat) (A : Option Addr) (L : List It) (hk : n ≤ k) (q : Int) (_ : (Lit.int .i64 q).wf = true) (t : Int) (_ : (Lit.int .i64 t).wf = true) (m0 : Int) (_ : (Lit.int .i64 m0).wf = true) (w : World) (hS : Sl w A n L) :
    Calls Try.prog 6 #[.slice A n k, .int .i64 q, .int .i64 t, .int .i64 m0] w fun e w' => e = .returned (.bool true) ∧ Up w w' := by
  have KA := Lib.hid awake10_up
  have KF := Lib.hid (few10_any n k A)
  have KM := Lib.hid (fun W => modm_any m0 40 (by omega) (by omega) W)
  have b1 : 0 ≤ m0 % 40 := Int.emod_nonneg _ (by omega)
  have b2 : m0 % 40 < 40 := Int.emod_lt_of_pos _ (by omega)
  generalize m0 % 40 = n1 at *
  obtain ⟨m, rfl⟩ : ∃ m : Nat, n1 = m := ⟨n1.toNat, by omega⟩
  by_cases hn : n ≤ 300
  · rw [decide_eq_true (p := (n : Int) ≤ 300) (by omega)] at KF
    have KR := Lib.hid (fun W (h : Sl W A n L) => rinsertMany_up n k A L q t m (by omega) W h)
    have HS := Lib.hid hS
    cases hi : inB L q t m with
    | false =>
      rw [imL_no hi] at KR
      clear hS hi
      go_enter Try.func6, Try.ntmps6
      go_wp2_with (first | (go_at_call 23; (with_reducible refine (KM.out _).mono ?_); rintro e w' ⟨rfl, rfl⟩) | (go_at_call 12; (with_reducible refine (KF.out _).mono ?_); rintro e w' ⟨rfl, rfl⟩) | (go_at_call 22; (with_reducible refine (KR.out _ HS.out).mono ?_); rintro e w1 ⟨A1, n1, k1, rfl, hn1, hs1, hu⟩; obtain rfl : n1 = 0 := hs1.1.symm; have HU1 := Lib.hid hu; clear hu hs1) | (go_at_call 13; (with_reducible refine (KA.out _).mono ?_); rintro e w5 ⟨rfl, hu⟩; have HU5 := Lib.hid (HU1.out.trans hu); clear hu))
      go_ret
      exact ⟨rfl, HU5.out⟩
    | true =>
    have ei := imL_yes hi
    rw [Int.toNat_natCast] at ei
    have h := hi
    unfold inB at h
    rw [Bool.and_eq_true, Bool.and_eq_true] at h
    have hva := vaB_iff.1 h.1
    obtain ⟨htt, hla⟩ := fol_all hva.as_ h.2.1
    have HRO := Lib.hid (roo_true h.2.2).2
    have HV := Lib.hid (fun i hi => itB_va hva htt.1 htt.2 hla i hi)
    rw [ei] at KR
    have KP := Lib.hid (fun W (h : Sl W A n L) => insertMany_up n k A L q t m (by omega) W h)
    rw [ei] at KP
    have KI := Lib.hid (fun (X : List It) (n' k' : Nat) (A' : Option Addr) (hn' : n' ≤ 50000) W (h : Sl W A' n' X) => insert_up n' k' A' X q t hn' W h)
    clear hS hi ei h hva hla
    by_cases hz : (itB q t m L).length = 0
    · go_enter Try.func6, Try.ntmps6
      go_wp2_with (first | (go_at_call 23; (with_reducible refine (KM.out _).mono ?_); rintro e w' ⟨rfl, rfl⟩) | (go_at_call 12; (with_reducible refine (KF.out _).mono ?_); rintro e w' ⟨rfl, rfl⟩) | (go_at_call 22; (with_reducible refine (KR.out _ HS.out).mono ?_); rintro e w1 ⟨A1, n1, k1, rfl, hn1, hs1, hu⟩; obtain rfl : n1 = 0 := hs1.1.symm.trans hz; have HU1 := Lib.hid hu; clear hu hs1) | (go_at_call 13; (with_reducible refine (KA.out _).mono ?_); rintro e w5 ⟨rfl, hu⟩; have HU5 := Lib.hid (HU1.out.trans hu); clear hu))
      go_ret
      exact ⟨rfl, HU5.out⟩
    have HZ := Lib.hid hz
    clear hz
    go_enter Try.func6, Try.ntmps6
    go_wp2_with (first | (go_at_call 23; (with_reducible refine (KM.out _).mono ?_); rintro e w' ⟨rfl, rfl⟩) | (go_at_call 12; (with_reducible refine (KF.out _).mono ?_); rintro e w' ⟨rfl, rfl⟩) | (go_at_call 22; (with_reducible refine (KR.out _ HS.out).mono ?_); rintro e w1 ⟨A1, n1, k1, rfl, hn1, hs1, hu⟩; have hl1 := hs1.1; have hz1 := HZ.out; have t9 : ((n1 : Int) == 0) = false := (by simp; omega); have HU1 := Lib.hid hu; clear hu hs1 hl1 hz1))
    go_loopw [9, 10] (fun s9 s10 wr => ∃ (i n' k' : Nat) (A' : Option Addr), s9 = .slice A' n' k' ∧ s10 = .int .i64 i ∧ i ≤ m ∧ n' ≤ n + 1024 * i ∧ Hid (Sl wr A' n' (itB q t i L)) ∧ Hid (Up w wr)) (fun _ s10 _ => m - (intOf s10).toNat)
    case atStart => exact ⟨0, n, k, A, rfl, rfl, by omega, by omega, Lib.hid (HS.out.up HU1.out), HU1⟩
    case round =>
      obtain ⟨i, n', k', A', rfl, rfl, hi, hn', HX, HU⟩ := hrel
      by_cases h : i < m
      · have f2 : (i : Int) < m := by omega
        have KJ := Lib.hid (KI.out (itB q t i L) n' k' A' (by omega))
        have HE : Hid (imL (itB q t i L) q t 1 = itB q t (i + 1) L) := Lib.hid (by
          have hT := HRO.out (by omega)
          obtain ⟨va, vt, vl⟩ := HV.out i (fun _ => by omega)
          exact imL_one va htt.1 htt.2 vl (by omega))
        rw [HE.out] at KJ
        go_wp2_with (go_at_call 19; (with_reducible refine (KJ.out _ HX.out).mono ?_); rintro e w1 ⟨A1, n1, k1, rfl, hn1, ho1, hu1⟩)
        obtain ⟨A2, k2, e2, _, hs2⟩ := ho1.sl
        cases e2
        go_roundw
        case rel => exact ⟨i + 1, _, _, _, rfl, by go_num, by omega, by omega, Lib.hid hs2, Lib.hid (HU.out.trans hu1)⟩
        case measure => simp [intOf]; omega
      · obtain rfl : m = i := by omega
        generalize itB q t m L = Z at *
        clear HV HRO KI
        go_wp2_with (first | (go_at_call 21; (with_reducible refine (KP.out _ (HS.out.up HU.out)).mono ?_); rintro e w3 ⟨A3, n3, k3, rfl, hn3, ho3, hu3⟩; obtain ⟨A4, k4, e4, _, hs4⟩ := ho3.sl; cases e4; obtain rfl : n3 = n' := hs4.1.symm.trans HX.out.1; have HU3 := Lib.hid (HU.out.trans hu3); have HS3 := Lib.hid hs4; have HS4 := Lib.hid (HX.out.up hu3); clear ho3 hu3 hs4) | (go_at_call 18; (with_reducible refine (sameB_t n3 k3 k' A3 A' Z (by omega) _ HS3.out HS4.out).mono ?_); rintro e w4 ⟨rfl, hu⟩; have HU4 := Lib.hid (HU3.out.trans hu); clear hu) | (go_at_call 13; (with_reducible refine (KA.out _).mono ?_); rintro e w5 ⟨rfl, hu⟩; have HU5 := Lib.hid (HU4.out.trans hu); clear hu))
        go_ret
        exact ⟨rfl, HU5.out⟩
  · rw [decide_eq_false (p := (n : Int) ≤ 300) (by omega)] at KF
    clear hS
    go_enter Try.func6, Try.ntmps6
    go_wp2_with (first | (go_at_call 23; (with_reducible refine (KM.out _).mono ?_); rintro e w' ⟨rfl, rfl⟩) | (go_at_call 12; (with_reducible refine (KF.out _).mono ?_); rintro e w' ⟨rfl, rfl⟩) | (go_at_call 13; (with_reducible refine (KA.out _).mono ?_); rintro e w5 ⟨rfl, hu⟩))
    go_ret
    exact ⟨rfl, hu⟩

set_option maxRecDepth 100000 in
theorem bucketsOneByOne_lifted (os : Os) (started : os.Started) (H : Type) (enc : TypeId × Value → H) :
    ReturnsInHanded {} Try.checked os 6 .any (Rows.bucketsOneByOneSpec.pre6 enc Try.prog Try.f6 Rows.bucketsOneByOneRow.domain false) (Rows.bucketsOneByOneSpec.post enc Try.prog Try.f6 false true false false) := by
  refine returnsInHanded_of_change_sized (C := Try.checked) bucketsOneByOne_own started (by kernel_rfl) Try.func6
    (ChangeSpec.witness6 (enc := enc) (C := Try.checked) false ⟨#[], #[.slice none 0 0, .int .i64 0, .int .i64 0, .int .i64 0], []⟩ 8 (by kernel_rfl) (by kernel_rfl) (by kernel_rfl) (by kernel_rfl)) ?_
  intro W base args ds gs before hval0 hW hcnd hsz0 _
  have hval : ∀ (j : Nat) t v, Try.f6.params[j]? = some t → args[j]? = some v → Value.okWide Try.prog W .any base t v := hval0
  have hW' := hW
  obtain ⟨p, q, hA0, hV, rfl, hfz, hnd⟩ := hW'
  have hA : DataW.TrodAll enc Try.prog W 0 (fun _ => true) true Try.f6.params.toList args.toList ds p := hA0
  rw [Try.params6] at hA hval
  obtain ⟨v0, vs0, d0, ds0, p0, q0, hargs, rfl, rfl, h0, r0⟩ := trodAll_cons hA
  obtain ⟨v1, vs1, d1, ds1, p1, q1, rfl, rfl, rfl, h1, r1⟩ := trodAll_cons r0
  obtain ⟨v2, vs2, d2, ds2, p2, q2, rfl, rfl, rfl, h2, r2⟩ := trodAll_cons r1
  obtain ⟨v3, vs3, d3, ds3, p3, q3, rfl, rfl, rfl, h3, r3⟩ := trodAll_cons r2
  obtain ⟨rfl, rfl, rfl⟩ := trodAll_nil r3
  obtain rfl : args = #[v0, v1, v2, v3] := by cases args; simp_all
  obtain ⟨rfl, rfl⟩ := trodVars_none hV
  have hlt := fun x hx => hW.lt x hx
  have k0 := h0
  obtain ⟨n0, m0, A0, L0, rfl, hk0, hS0⟩ := open_buckets (hval 0 22 v0 rfl rfl) h0
  have k1 := h1
  obtain ⟨a1, rfl, rfl, rfl, w1⟩ := open_int Try.underlying3 (hval 1 3 v1 rfl rfl) h1
  have k2 := h2
  obtain ⟨a2, rfl, rfl, rfl, w2⟩ := open_int Try.underlying2 (hval 2 2 v2 rfl rfl) h2
  have k3 := h3
  obtain ⟨a3, rfl, rfl, rfl, w3⟩ := open_int Try.underlying2 (hval 3 2 v3 rfl rfl) h3
  refine (bucketsOneByOne_walk n0 m0 A0 L0 hk0 a1 w1 a2 w2 a3 w3 W hS0).mono fun e W' ⟨he, hg⟩ => ?_
  subst he
  exact ⟨_, rfl, post_of_same (pv := []) hW (fun _ _ _ => (trodAll_cons_mk (shut_bool Try.underlying4 _) trodAll_mk0)) (fun sp hsp => (trodAll_cons_mk (stay (by kernel_rfl) (of_decide_eq_true (by kernel_rfl)) k0 hg hlt (fun x hx => by first | (simp at hx; done) | simp [hx]) hsp) (trodAll_cons_mk (stay (by kernel_rfl) (of_decide_eq_true (by kernel_rfl)) k1 hg hlt (fun x hx => by first | (simp at hx; done) | simp [hx]) hsp) (trodAll_cons_mk (stay (by kernel_rfl) (of_decide_eq_true (by kernel_rfl)) k2 hg hlt (fun x hx => by first | (simp at hx; done) | simp [hx]) hsp) (trodAll_cons_mk (stay (by kernel_rfl) (of_decide_eq_true (by kernel_rfl)) k3 hg hlt (fun x hx => by first | (simp at hx; done) | simp [hx]) hsp) trodAll_mk0))))) (fun _ _ => rfl) rfl
    (hg.grown.frame _) hg.grown.2.1 (ok_one (by kernel_rfl) rfl (okWide_bool_mk Try.underlying4 _))⟩

theorem bucketsOneByOne_over : Rows.bucketsOneByOneRow.holds Try.pinned (OpenSpec.ofChange Rows.bucketsOneByOneSpec) :=
  OpenClaim.holds_of_wide 6 Try.f6 rfl rfl rfl rfl rfl rfl rfl ⟨rfl, rfl, rfl, rfl, rfl⟩ rfl rfl rfl rfl rfl (by kernel_rfl) Try.func6 (by kernel_rfl)
    (of_decide_eq_true (by kernel_rfl)) (by unfold Func.isWrapper; first | (rw [if_pos (by decide +kernel)]; kernel_rfl) | (rw [if_neg (by decide +kernel)]; exact ⟨rfl, rfl⟩))
    (fun os started H enc _ => bucketsOneByOne_lifted os started H enc)

theorem bucketsOneByOne_holds : Rows.BucketsOneByOneSaid :=
  bucketsOneByOne_over
#print axioms bucketsOneByOne_holds
end Go.Proofs.Ytnhekeohbnmodaa
