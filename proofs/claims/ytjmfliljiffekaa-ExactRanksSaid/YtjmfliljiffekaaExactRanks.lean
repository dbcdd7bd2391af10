/- Proved: for every list of items and any v, p and q the law ExactRanks returns true: Rank, Below and Quantile of package exact answer as the reference does. Conditions: none beside the form's own reach. -/
import Derived.Test.YtjmfliljiffekaaRows
import Derived.WalkKit
import Derived.ProofKit
import Derived.OpenShut
import Derived.Lib.SmallJoins
import Derived.Test.YtjmfliljiffekaaELoFrame
import Derived.SizedLaws
import Derived.Test.YtjmfliljiffekaaESort
namespace Go.Proofs.Ytjmfliljiffekaa
open Go.ChangeShapes Go.WideShapes Go.ChangeAt Go.RowKit Go.Joins
set_option linter.unusedVariables false

theorem exactRanks_own : ownKnob Try.prog.godebug = none := by kernel_rfl

set_option maxHeartbeats 4000000 in
set_option maxRecDepth 100000 in
theorem exactRanks_walk (n k : Nat) (A : Option Addr) (L : List It) (hk : n ≤ k) (hI : InI L) (v : Int) (_ : (Lit.int .i64 v).wf = true) (p : Int) (_ : (Lit.int .i64 p).wf = true) (q : Int) (wq : (Lit.int .i64 q).wf = true) (w : World) (hS : Sl w A n L) :
    Calls Try.prog 8 #[.slice A n k, .int .i64 v, .int .i64 p, .int .i64 q] w fun e w' => e = .returned (.bool true) ∧ Lo w w' := by
  have KW := Lib.hid awake8_up
  by_cases h3 : 200 < n
  · have t1 : decide ((200 : Int) < (n : Int)) = true := decide_eq_true (by omega)
    clear hS hI
    go_enter Try.func8, Try.ntmps8
    go_wp2_with fail
    refine (KW.out _).mono ?_
    rintro e w1 ⟨rfl, hu1⟩
    go_wp2_with fail
    go_ret
    exact ⟨rfl, Lo.of_up hu1⟩
  · have t1 : decide ((200 : Int) < (n : Int)) = false := decide_eq_false (by omega)
    have HS := Lib.hid hS
    have K1 := Lib.hid (quantile_lo n k A L p q (in_of_wf wq).2 (by omega) w hS)
    have K2 := Lib.hid (fun W (h : Lo w W) => rquantile_up n k A L p q (in_of_wf wq).2 (by omega) W (hS.lo h))
    have K3 := Lib.hid (fun W (h : Lo w W) => rank_up n k A L v (by omega) W (hS.lo h))
    have K4 := Lib.hid (fun W (h : Lo w W) => rrank_up n k A L v (by omega) W (hS.lo h))
    have K5 := Lib.hid (fun W (h : Lo w W) => below_up n k A L v (by omega) W (hS.lo h))
    have K6 := Lib.hid (fun W (h : Lo w W) => rbelow_up n k A L v (by omega) W (hS.lo h))
    unfold got at K1 K2
    generalize (qnO L p q).getD 0 = x at *
    generalize (qnO L p q).isSome = y at *
    generalize ((rkN v L : Nat) : Int) = r at *
    generalize ((blN v L : Nat) : Int) = b at *
    have b1 : (x == x) = true := by simp
    have b2 : (y == y) = true := by simp
    have b3 : (r == r) = true := by simp
    have b4 : (b == b) = true := by simp
    clear hS hI
    go_enter Try.func8, Try.ntmps8
    go_wp2_with fail
    refine K1.out.mono ?_
    rintro e w1 ⟨rfl, h1⟩
    go_wp2_with fail
    refine (K2.out _ h1).mono ?_
    rintro e w2 ⟨rfl, hu2⟩
    have h2 := h1.up hu2
    go_wp2_with fail
    refine (K3.out _ h2).mono ?_
    rintro e w3 ⟨rfl, hu3⟩
    have h3 := h2.up hu3
    go_wp2_with fail
    refine (K4.out _ h3).mono ?_
    rintro e w4 ⟨rfl, hu4⟩
    have h4 := h3.up hu4
    go_wp2_with fail
    refine (K5.out _ h4).mono ?_
    rintro e w5 ⟨rfl, hu5⟩
    have h5 := h4.up hu5
    go_wp2_with fail
    refine (K6.out _ h5).mono ?_
    rintro e w6 ⟨rfl, hu6⟩
    have h6 := h5.up hu6
    go_wp2_with fail
    refine (KW.out _).mono ?_
    rintro e w7 ⟨rfl, hu7⟩
    go_wp2_with fail
    go_ret
    exact ⟨rfl, h6.up hu7⟩

set_option maxRecDepth 100000 in
theorem exactRanks_lifted (os : Os) (started : os.Started) (H : Type) (enc : TypeId × Value → H) :
    ReturnsInHanded {} Try.checked os 8 .any (Rows.exactRanksSpec.pre6 enc Try.prog Try.f8 Rows.exactRanksRow.domain false) (Rows.exactRanksSpec.post enc Try.prog Try.f8 false true false false) := by
  refine returnsInHanded_of_change_sized (C := Try.checked) exactRanks_own started (by kernel_rfl) Try.func8
    (ChangeSpec.witness6 (enc := enc) (C := Try.checked) false ⟨#[], #[.slice none 0 0, .int .i64 0, .int .i64 0, .int .i64 0], []⟩ 8 (by kernel_rfl) (by kernel_rfl) (by kernel_rfl) (by kernel_rfl)) ?_
  intro W base args ds gs before hval0 hW hcnd hsz0 _
  have hval : ∀ (j : Nat) t v, Try.f8.params[j]? = some t → args[j]? = some v → Value.okWide Try.prog W .any base t v := hval0
  have hW' := hW
  obtain ⟨p, q, hA0, hV, rfl, hfz, hnd⟩ := hW'
  have hA : DataW.TrodAll enc Try.prog W 0 (fun _ => true) true Try.f8.params.toList args.toList ds p := hA0
  rw [Try.params8] at hA hval
  obtain ⟨v0, vs0, d0, ds0, p0, q0, hargs, rfl, rfl, h0, r0⟩ := trodAll_cons hA
  obtain ⟨v1, vs1, d1, ds1, p1, q1, rfl, rfl, rfl, h1, r1⟩ := trodAll_cons r0
  obtain ⟨v2, vs2, d2, ds2, p2, q2, rfl, rfl, rfl, h2, r2⟩ := trodAll_cons r1
  obtain ⟨v3, vs3, d3, ds3, p3, q3, rfl, rfl, rfl, h3, r3⟩ := trodAll_cons r2
  obtain ⟨rfl, rfl, rfl⟩ := trodAll_nil r3
  obtain rfl : args = #[v0, v1, v2, v3] := by cases args; simp_all
  obtain ⟨rfl, rfl⟩ := trodVars_none hV
  have hlt := fun x hx => hW.lt x hx
  have k0 := h0
  obtain ⟨n0, m0, A0, L0, rfl, hk0, hS0, hI0⟩ := open_items2 (hval 0 22 v0 rfl rfl) h0
  have k1 := h1
  obtain ⟨a1, rfl, rfl, rfl, w1⟩ := open_int Try.underlying2 (hval 1 2 v1 rfl rfl) h1
  have k2 := h2
  obtain ⟨a2, rfl, rfl, rfl, w2⟩ := open_int Try.underlying2 (hval 2 2 v2 rfl rfl) h2
  have k3 := h3
  obtain ⟨a3, rfl, rfl, rfl, w3⟩ := open_int Try.underlying2 (hval 3 2 v3 rfl rfl) h3
  refine (exactRanks_walk n0 m0 A0 L0 hk0 hI0 a1 w1 a2 w2 a3 w3 W hS0).mono fun e W' ⟨he, hg⟩ => ?_
  subst he
  exact ⟨_, rfl, post_lo hg hW (fun _ _ _ => (trodAll_cons_mk (shut_bool Try.underlying4 _) trodAll_mk0)) (fun sp hsp => (trodAll_cons_mk (stayLo (by kernel_rfl) (of_decide_eq_true (by kernel_rfl)) k0 hg hlt (fun x hx => by first | (simp at hx; done) | simp [hx]) hsp) (trodAll_cons_mk (stayLo (by kernel_rfl) (of_decide_eq_true (by kernel_rfl)) k1 hg hlt (fun x hx => by first | (simp at hx; done) | simp [hx]) hsp) (trodAll_cons_mk (stayLo (by kernel_rfl) (of_decide_eq_true (by kernel_rfl)) k2 hg hlt (fun x hx => by first | (simp at hx; done) | simp [hx]) hsp) (trodAll_cons_mk (stayLo (by kernel_rfl) (of_decide_eq_true (by kernel_rfl)) k3 hg hlt (fun x hx => by first | (simp at hx; done) | simp [hx]) hsp) trodAll_mk0))))) (fun _ => rfl) (by simp)
    (ok_one (by kernel_rfl) rfl (okWide_bool_mk Try.underlying4 _))⟩

theorem exactRanks_over : Rows.exactRanksRow.holds Try.pinned (OpenSpec.ofChange Rows.exactRanksSpec) :=
  OpenClaim.holds_of_wide 8 Try.f8 rfl rfl rfl rfl rfl rfl rfl ⟨rfl, rfl, rfl, rfl, rfl⟩ rfl rfl rfl rfl rfl (by kernel_rfl) Try.func8 (by kernel_rfl)
    (of_decide_eq_true (by kernel_rfl)) (by unfold Func.isWrapper; first | (rw [if_pos (by decide +kernel)]; kernel_rfl) | (rw [if_neg (by decide +kernel)]; exact ⟨rfl, rfl⟩))
    (fun os started H enc _ => exactRanks_lifted os started H enc)

theorem exactRanks_holds : Rows.ExactRanksSaid :=
  exactRanks_over
#print axioms exactRanks_holds
end Go.Proofs.Ytjmfliljiffekaa
