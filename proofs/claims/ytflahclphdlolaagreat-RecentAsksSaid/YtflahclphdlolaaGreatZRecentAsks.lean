/- Proved: for every state and every question the law RecentAsks returns true: Ask of package recent answers as the reference does. Conditions: none. -/
import Derived.Test.YtflahclphdlolaaGreatRows
import Derived.Lib.SmallJoins
import Derived.OpenShut
import Derived.ProofKit
import Derived.SizedLaws
import Derived.WalkKit
import Derived.Test.YtflahclphdlolaaGreatZELoFrame
import Derived.Test.YtflahclphdlolaaGreatZESort
import Derived.Test.YtflahclphdlolaaGreatZEWords
import Derived.Test.YtflahclphdlolaaGreatZFAsk
import Derived.Test.YtflahclphdlolaaGreatZFAskM
import Derived.Test.YtflahclphdlolaaGreatZFAwake
import Derived.Test.YtflahclphdlolaaGreatZFBase
import Derived.Test.YtflahclphdlolaaGreatZFFrame
import Derived.Test.YtflahclphdlolaaGreatZG0a
import Derived.Test.YtflahclphdlolaaGreatZG2a
import Derived.Test.YtflahclphdlolaaGreatZJFEq
import Derived.Test.YtflahclphdlolaaGreatZJFRAsk1
namespace Go.Proofs.YtflahclphdlolaaGreat
open Go.ChangeShapes Go.WideShapes Go.ChangeAt Go.RowKit Go.Joins
set_option linter.unusedVariables false

theorem recentAsks_own : ownKnob Tryz.prog.godebug = none := by kernel_rfl

set_option maxHeartbeats 16000000 in
set_option maxRecDepth 100000 in
theorem recentAsks_walk (v c now : Int) (n k : Nat) (A : Option Addr) (L : List It) (hk : n ≤ k) (o a b : Int) (_ : In a) (ib : In b) (w : World) (hS : Sl w A n L) :
    Calls Tryz.prog 3 #[.agg #[.int .i64 v, .int .i64 c, .int .i64 now, .slice A n k], .agg #[.int .i64 o, .int .i64 a, .int .i64 b]] w fun e w' => e = .returned (.bool true) ∧ Lo w w' := by
  have KA := Lib.hid awake9_up
  have KF := Lib.hid (few9_any v c now n k A)
  by_cases hf : n ≤ 200
  case neg =>
    rw [decide_eq_false (show ¬ (n : Int) ≤ 200 by omega)] at KF
    clear hS hk
    go_enter Tryz.func3, Tryz.ntmps3
    go_wp2_with (first
      | (go_at_call 4; (with_reducible refine (KF.out _).mono ?_); rintro e w1 ⟨rfl, hu⟩; have HU1 := Lib.hid ((((Up.refl w).alloc #[.int .i64 v, .int .i64 c, .int .i64 now, .slice A n k] 24).alloc #[.int .i64 o, .int .i64 a, .int .i64 b] 26).trans hu); clear hu)
      | (go_at_call 5; (with_reducible refine (KA.out _).mono ?_); rintro e w2 ⟨rfl, hu⟩; have HU2 := Lib.hid (HU1.out.trans hu); clear hu))
    go_ret
    exact ⟨rfl, Lo.of_up HU2.out⟩
  rw [decide_eq_true (show (n : Int) ≤ 200 by omega)] at KF
  have HS := Lib.hid hS
  obtain ⟨N, D, Vs, e0, h1⟩ : ∃ N D Vs e0, askR v c now L o a b = (N, D, Vs, e0) := ⟨_, _, _, _, rfl⟩
  have hV := askR_len h1
  have K1 := Lib.hid (fun W (h : Sl W A n L) => ask9_all v c now o a b n k A L ib.2 h1 W h)
  have K2 := Lib.hid (fun W (h : Sl W A n L) => rask9_all v c now o a b n k A L ib.2 h1 W h)
  have K3 := Lib.hid (fun W B1 B2 j1 j2 (hA : Sn W B1 Vs.length Vs) (hB : Sn W B2 Vs.length Vs) => sameAns_t N D Vs.length j1 j2 B1 B2 Vs (by omega) W hA hB)
  clear h1 hS hk hf hV ib
  generalize Vs.length = m at *
  have b1 : (e0 == e0) = true := by simp
  go_enter Tryz.func3, Tryz.ntmps3
  go_wp2_with (go_at_call 4; (with_reducible refine (KF.out _).mono ?_); rintro e w0 ⟨rfl, hu⟩; have HU0 := Lib.hid ((((Up.refl w).alloc #[.int .i64 v, .int .i64 c, .int .i64 now, .slice A n k] 24).alloc #[.int .i64 o, .int .i64 a, .int .i64 b] 26).trans hu); have s0 := hu.keep w.heap.size 0 (.int .i64 v) (by simp [go_sem]); have s1 := hu.keep w.heap.size 1 (.int .i64 c) (by simp [go_sem]); have s2 := hu.keep w.heap.size 2 (.int .i64 now) (by simp [go_sem]); have s3 := hu.keep w.heap.size 3 (.slice A n k) (by simp [go_sem]); have q0 := hu.keep (w.heap.size + 1) 0 (.int .i64 o) (by simp [go_sem]); have q1 := hu.keep (w.heap.size + 1) 1 (.int .i64 a) (by simp [go_sem]); have q2 := hu.keep (w.heap.size + 1) 2 (.int .i64 b) (by simp [go_sem]); clear hu)
  (with_reducible refine (K1.out _ (HS.out.up HU0.out)).mono ?_)
  rintro e w1 ⟨A1, k1, rfl, hN, hl⟩
  have x0 := hl.keep _ _ _ s0
  have x1 := hl.keep _ _ _ s1
  have x2 := hl.keep _ _ _ s2
  have x3 := hl.keep _ _ _ s3
  have y0 := hl.keep _ _ _ q0
  have y1 := hl.keep _ _ _ q1
  have y2 := hl.keep _ _ _ q2
  have HN := Lib.hid hN
  have HS1 := Lib.hid ((HS.out.up HU0.out).lo hl)
  have HL1 : Hid (Lo w w1) := Lib.hid (Below.trans HU0.out.below (hl.mono HU0.out.size))
  have l1 : w.heap.size < w1.heap.size := World.block_lt_of_cell? _ _ x0
  have l2 : w.heap.size + 1 < w1.heap.size := World.block_lt_of_cell? _ _ y0
  clear hN hl s0 s1 s2 s3 q0 q1 q2
  go_wp2_with fail
  (with_reducible refine (K2.out _ (HS1.out.up ((Up.refl _).alloc _ _))).mono ?_)
  rintro e w2 ⟨A2, k2, rfl, hN2, hu⟩
  have z0 := hu.keep w1.heap.size 0 (.int .i64 N) (by simp [go_sem])
  have z1 := hu.keep w1.heap.size 1 (.int .i64 D) (by simp [go_sem])
  have z2 := hu.keep w1.heap.size 2 (.int .i64 N) (by simp [go_sem])
  have z3 := hu.keep w1.heap.size 3 (.int .i64 D) (by simp [go_sem])
  have z4 := hu.keep w1.heap.size 4 (.int .i64 N) (by simp [go_sem])
  have z5 := hu.keep w1.heap.size 5 (.int .i64 D) (by simp [go_sem])
  have z6 := hu.keep w1.heap.size 6 (.slice A1 m k1) (by simp [go_sem])
  have z7 := hu.keep w1.heap.size 7 (.int .u64 0) (by simp [go_sem])
  have z8 := hu.keep w1.heap.size 8 (.int .u64 0) (by simp [go_sem])
  have z9 := hu.keep w1.heap.size 9 (.int .u64 0) (by simp [go_sem])
  have z10 := hu.keep w1.heap.size 10 (.int .u64 0) (by simp [go_sem])
  have HNA := Lib.hid ((HN.out.up ((Up.refl _).alloc #[.int .i64 N, .int .i64 D, .int .i64 N, .int .i64 D, .int .i64 N, .int .i64 D, .slice A1 m k1, .int .u64 0, .int .u64 0, .int .u64 0, .int .u64 0] 40)).up hu)
  have HNB := Lib.hid hN2
  have HL2 : Hid (Lo w w2) := Lib.hid (HL1.out.up (((Up.refl _).alloc #[.int .i64 N, .int .i64 D, .int .i64 N, .int .i64 D, .int .i64 N, .int .i64 D, .slice A1 m k1, .int .u64 0, .int .u64 0, .int .u64 0, .int .u64 0] 40).trans hu))
  have l3 : w1.heap.size < w2.heap.size := World.block_lt_of_cell? _ _ z0
  clear hu hN2 HN x0 x1 x2 x3 y0 y1 y2 l1 l2 K1 K2
  go_wp2_with (first
    | (go_at_call 8; (with_reducible refine (K3.out _ _ _ _ _ (HNA.out.up ((Up.refl _).alloc _ _)) (HNB.out.up ((Up.refl _).alloc _ _))).mono ?_); rintro e w3 ⟨rfl, hu⟩; have HU3 := Lib.hid (((Up.refl w2).alloc #[.int .i64 N, .int .i64 D, .int .i64 N, .int .i64 D, .int .i64 N, .int .i64 D, .slice A2 m k2, .int .u64 0, .int .u64 0, .int .u64 0, .int .u64 0] 40).trans hu); clear hu)
    | (go_at_call 5; (with_reducible refine (KA.out _).mono ?_); rintro e w4 ⟨rfl, hu⟩; have HU4 := Lib.hid (HU3.out.trans hu); clear hu))
  go_ret
  exact ⟨rfl, HL2.out.up HU4.out⟩

set_option maxRecDepth 100000 in
theorem recentAsks_lifted (os : Os) (started : os.Started) (H : Type) (enc : TypeId × Value → H) :
    ReturnsInHanded {} Tryz.checked os 3 .any (Rows.recentAsksSpec.pre6 enc Tryz.prog Tryz.f3 Rows.recentAsksRow.domain false) (Rows.recentAsksSpec.post enc Tryz.prog Tryz.f3 false true false false) := by
  refine returnsInHanded_of_change_sized (C := Tryz.checked) recentAsks_own started (by kernel_rfl) Tryz.func3
    (ChangeSpec.witness6 (enc := enc) (C := Tryz.checked) false ⟨#[], #[.agg #[.int .i64 0, .int .i64 0, .int .i64 0, .slice none 0 0], .agg #[.int .i64 0, .int .i64 0, .int .i64 0]], []⟩ 8 (by kernel_rfl) (by kernel_rfl) (by kernel_rfl) (by kernel_rfl)) ?_
  intro W base args ds gs before hval0 hW hcnd hsz0 _
  have hval : ∀ (j : Nat) t v, Tryz.f3.params[j]? = some t → args[j]? = some v → Value.okWide Tryz.prog W .any base t v := hval0
  have hW' := hW
  obtain ⟨p, q, hA0, hV, rfl, hfz, hnd⟩ := hW'
  have hA : DataW.TrodAll enc Tryz.prog W 0 (fun _ => true) true Tryz.f3.params.toList args.toList ds p := hA0
  rw [Tryz.params3] at hA hval
  obtain ⟨v0, vs0, d0, ds0, p0, q0, hargs, rfl, rfl, h0, r0⟩ := trodAll_cons hA
  obtain ⟨v1, vs1, d1, ds1, p1, q1, rfl, rfl, rfl, h1, r1⟩ := trodAll_cons r0
  obtain ⟨rfl, rfl, rfl⟩ := trodAll_nil r1
  obtain rfl : args = #[v0, v1] := by cases args; simp_all
  obtain ⟨rfl, rfl⟩ := trodVars_none hV
  have hlt := fun x hx => hW.lt x hx
  have k0 := h0
  obtain ⟨c0, e0, l0, n0, m0, A0, L0, rfl, hk0, hS0⟩ := open_recent (hval 0 24 v0 rfl rfl) h0
  have k1 := h1
  obtain ⟨x1, y1, z1, rfl, iy1, iz1⟩ := open_query (hval 1 26 v1 rfl rfl) h1
  refine (recentAsks_walk c0 e0 l0 n0 m0 A0 L0 hk0 x1 y1 z1 iy1 iz1 W hS0).mono fun e W' ⟨he, hg⟩ => ?_
  subst he
  exact ⟨_, rfl, post_lo hg hW (fun _ _ _ => (trodAll_cons_mk (shut_bool Tryz.underlying4 _) trodAll_mk0)) (fun sp hsp => (trodAll_cons_mk (stayLo (by kernel_rfl) (of_decide_eq_true (by kernel_rfl)) k0 hg hlt (fun x hx => by first | (simp at hx; done) | simp [hx]) hsp) (trodAll_cons_mk (stayLo (by kernel_rfl) (of_decide_eq_true (by kernel_rfl)) k1 hg hlt (fun x hx => by first | (simp at hx; done) | simp [hx]) hsp) trodAll_mk0))) (fun _ => rfl) (by simp)
    (ok_one (by kernel_rfl) rfl (okWide_bool_mk Tryz.underlying4 _))⟩

theorem recentAsks_over : Rows.recentAsksRow.holds Tryz.pinned (OpenSpec.ofChange Rows.recentAsksSpec) :=
  OpenClaim.holds_of_wide 3 Tryz.f3 rfl rfl rfl rfl rfl rfl rfl ⟨rfl, rfl, rfl, rfl, rfl⟩ rfl rfl rfl rfl rfl (by kernel_rfl) Tryz.func3 (by kernel_rfl)
    (of_decide_eq_true (by kernel_rfl)) (by unfold Func.isWrapper; first | (rw [if_pos (by decide +kernel)]; kernel_rfl) | (rw [if_neg (by decide +kernel)]; exact ⟨rfl, rfl⟩))
    (fun os started H enc _ => recentAsks_lifted os started H enc)

theorem recentAsks_holds : Rows.RecentAsksSaid :=
  recentAsks_over
#print axioms recentAsks_holds
end Go.Proofs.YtflahclphdlolaaGreat
