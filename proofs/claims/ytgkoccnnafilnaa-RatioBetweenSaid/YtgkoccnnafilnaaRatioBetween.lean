/- Proved: for every rational number a the law RatioBetween returns true: a valid number lies between its floor and its ceiling, which differ by at most 1, and by 0 exactly if its denominator is 1. Conditions: none. -/
import Derived.Test.YtgkoccnnafilnaaRows
import Derived.WalkKit
import Derived.ProofKit
import Derived.OpenShut
import Derived.Lib.SmallJoins
import Derived.Test.YtgkoccnnafilnaaRBetw
import Derived.Deep.RegionHeld3
import Derived.IntWalk
namespace Go.Proofs.Ytgkoccnnafilnaa
open Go.ChangeShapes Go.WideShapes Go.ChangeAt Go.RowKit Go.Joins
set_option linter.unusedVariables false

theorem ratioBetween_own : ownKnob Try.prog.godebug = none := by kernel_rfl
theorem ratioBetween_cellsr : Try.prog.cellsOf 23 = 2 := by kernel_rfl

set_option maxHeartbeats 4000000 in
set_option maxRecDepth 100000 in
theorem ratioBetween_walk (n d : Int) (w0 : (Lit.int .i64 n).wf = true) (w1 : (Lit.int .i64 d).wf = true) (w : World) :
    Calls Try.prog 10 #[.agg #[.int .i64 n, .int .i64 d]] w fun e w' => e = .returned (.bool true) ∧ Grown w w' := by
  have h0 := in_of_wf w0
  have h1 := in_of_wf w1
  clear w0 w1
  have HV := Lib.hid (fun W => rvalid_up n d h0 h1 W)
  by_cases hv : validB n d = true
  · obtain ⟨i1, i2, ⟨b1, b2⟩, b3, b4, b5⟩ := between h0 h1 hv
    have HF := Lib.hid (fun W => floorr_up n d h0 h1 W)
    have HG := Lib.hid (fun W => ceilr_up n d h0 h1 W)
    have HC := Lib.hid (fun W => comparer_up (floR n d) 1 n d i1 ⟨by decide, by decide⟩ h0 h1 W)
    have HD := Lib.hid (fun W => comparer_up n d (ceiR n d) 1 h0 h1 i2 ⟨by decide, by decide⟩ W)
    generalize cmpR (floR n d) 1 n d = k1 at *
    generalize cmpR n d (ceiR n d) 1 = k2 at *
    generalize floR n d = f at *
    generalize ceiR n d = g at *
    have hw : IntKind.i64.wrap (g - f) = g - f := IntWalk.i64_in _ (by omega)
    have t1 : decide (k1 ≤ 0) = true := decide_eq_true b4
    have t2 : decide (k2 ≤ 0) = true := decide_eq_true b5
    have t3 : decide (g - f ≤ 1) = true := decide_eq_true b1
    have t4 : decide (f ≤ g) = true := decide_eq_true b2
    rw [hv] at HV
    clear h0 h1 hv i1 i2 b1 b2 b4 b5
    rcases b3 with ⟨e1, e2⟩ | ⟨e1, e2⟩
    · have t5 : (g == f) = true := beq_iff_eq.2 e1
      have t6 : (d == 1) = true := beq_iff_eq.2 e2
      clear e1 e2
      go_enter Try.func10, Try.ntmps10
      go_wp2_with fail
      refine (HV.out _).mono ?_
      rintro e w1 ⟨rfl, hu1⟩
      try unfold got2
      have c1_0 := hu1.keep (w.heap.size) (0) (.int .i64 n) (by simp [go_sem, *])
      have c1_1 := hu1.keep (w.heap.size) (1) (.int .i64 d) (by simp [go_sem, *])
      have l1_0 : w.heap.size < w1.heap.size := World.block_lt_of_cell? _ _ c1_0
      have m1_0 : w.heap.size < w1.heap.size + 1 := by omega
      have n1_0 : w.heap.size < w1.heap.size + 1 + 1 := by omega
      have x1_0 : ¬ w1.heap.size = w.heap.size := by omega
      have y1_0 : ¬ w1.heap.size + 1 = w.heap.size := by omega
      have HU1 : Hid (Up w w1) := Lib.hid (by ((repeat (first | (with_reducible exact Up.refl _) | (with_reducible refine Up.trans ?_ hu1) | (with_reducible refine Up.alloc ?_ _ _) | (with_reducible refine Up.setCell ?_ ?_ _) | (with_reducible refine Up.drewN ?_ _) | (with_reducible refine Up.drew ?_))); all_goals (first | (simp; done) | (simp; omega) | omega)))
      clear hu1
      go_wp2_with fail
      go_region_held3 (fun w' => Up w w' ∧ w'.cell? ⟨w.heap.size, 0, none⟩ = some (.int .i64 n) ∧ w'.cell? ⟨w.heap.size, 1, none⟩ = some (.int .i64 d))
        (first | (with_reducible exact keep2 (by assumption) (by assumption)) | (refine ⟨?_, by simp [go_sem, *], by simp [go_sem, *]⟩; ((repeat (first | (with_reducible exact Up.refl _) | (with_reducible exact HU1.out) | (with_reducible refine Up.alloc ?_ _ _) | (with_reducible refine Up.setCell ?_ ?_ _) | (with_reducible refine Up.drewN ?_ _) | (with_reducible refine Up.drew ?_))); all_goals (first | (simp; done) | (simp; omega) | omega))))
        (first
          | (go_at_call 27; (with_reducible refine (HF.out _).mono ?_); rintro e w' ⟨rfl, hu⟩; have HU := Lib.hid hu; clear hu; (try unfold got2); (try unfold gotR))
          | (go_at_call 29; (with_reducible refine (HG.out _).mono ?_); rintro e w' ⟨rfl, hu⟩; have HU := Lib.hid hu; clear hu; (try unfold got2); (try unfold gotR)))
      rename_i hS
      have HS := Lib.hid hS
      obtain ⟨hup, a0, a1⟩ := hS
      have HUP := Lib.hid hup
      clear hup
      go_wp2_with fail
      go_region_held3 (fun w' => Up w w' ∧ w'.cell? ⟨w.heap.size, 0, none⟩ = some (.int .i64 n) ∧ w'.cell? ⟨w.heap.size, 1, none⟩ = some (.int .i64 d))
        (first | (with_reducible exact keep2 (by assumption) (by assumption)) | (refine ⟨?_, by simp [go_sem, *], by simp [go_sem, *]⟩; ((repeat (first | (with_reducible exact Up.refl _) | (with_reducible exact HUP.out) | (with_reducible refine Up.alloc ?_ _ _) | (with_reducible refine Up.setCell ?_ ?_ _) | (with_reducible refine Up.drewN ?_ _) | (with_reducible refine Up.drew ?_))); all_goals (first | (simp; done) | (simp; omega) | omega))))
        (first
          | (go_at_call 13; (with_reducible refine (ofr_up _ _).mono ?_); rintro e w' ⟨rfl, hu⟩; have HU := Lib.hid hu; clear hu; (try unfold got2); (try unfold gotR))
          | (go_at_call 18; (with_reducible refine (HC.out _).mono ?_); rintro e w' ⟨rfl, hu⟩; have HU := Lib.hid hu; clear hu; (try unfold got2); (try unfold gotR))
          | (go_at_call 18; (with_reducible refine (HD.out _).mono ?_); rintro e w' ⟨rfl, hu⟩; have HU := Lib.hid hu; clear hu; (try unfold got2); (try unfold gotR))
          | (go_at_call 16; (with_reducible refine (awaker_up _).mono ?_); rintro e w' ⟨rfl, hu⟩; have HU := Lib.hid hu; clear hu; (try unfold got2); (try unfold gotR)))
      all_goals
        go_wp2
        go_ret
        exact ⟨rfl, Up.grown (And.left (by assumption))⟩
    · have t5 : (g == f) = false := beq_eq_false_iff_ne.2 e1
      have t6 : (d == 1) = false := beq_eq_false_iff_ne.2 e2
      clear e1 e2
      go_enter Try.func10, Try.ntmps10
      go_wp2_with fail
      refine (HV.out _).mono ?_
      rintro e w1 ⟨rfl, hu1⟩
      try unfold got2
      have c1_0 := hu1.keep (w.heap.size) (0) (.int .i64 n) (by simp [go_sem, *])
      have c1_1 := hu1.keep (w.heap.size) (1) (.int .i64 d) (by simp [go_sem, *])
      have l1_0 : w.heap.size < w1.heap.size := World.block_lt_of_cell? _ _ c1_0
      have m1_0 : w.heap.size < w1.heap.size + 1 := by omega
      have n1_0 : w.heap.size < w1.heap.size + 1 + 1 := by omega
      have x1_0 : ¬ w1.heap.size = w.heap.size := by omega
      have y1_0 : ¬ w1.heap.size + 1 = w.heap.size := by omega
      have HU1 : Hid (Up w w1) := Lib.hid (by ((repeat (first | (with_reducible exact Up.refl _) | (with_reducible refine Up.trans ?_ hu1) | (with_reducible refine Up.alloc ?_ _ _) | (with_reducible refine Up.setCell ?_ ?_ _) | (with_reducible refine Up.drewN ?_ _) | (with_reducible refine Up.drew ?_))); all_goals (first | (simp; done) | (simp; omega) | omega)))
      clear hu1
      go_wp2_with fail
      go_region_held3 (fun w' => Up w w' ∧ w'.cell? ⟨w.heap.size, 0, none⟩ = some (.int .i64 n) ∧ w'.cell? ⟨w.heap.size, 1, none⟩ = some (.int .i64 d))
        (first | (with_reducible exact keep2 (by assumption) (by assumption)) | (refine ⟨?_, by simp [go_sem, *], by simp [go_sem, *]⟩; ((repeat (first | (with_reducible exact Up.refl _) | (with_reducible exact HU1.out) | (with_reducible refine Up.alloc ?_ _ _) | (with_reducible refine Up.setCell ?_ ?_ _) | (with_reducible refine Up.drewN ?_ _) | (with_reducible refine Up.drew ?_))); all_goals (first | (simp; done) | (simp; omega) | omega))))
        (first
          | (go_at_call 27; (with_reducible refine (HF.out _).mono ?_); rintro e w' ⟨rfl, hu⟩; have HU := Lib.hid hu; clear hu; (try unfold got2); (try unfold gotR))
          | (go_at_call 29; (with_reducible refine (HG.out _).mono ?_); rintro e w' ⟨rfl, hu⟩; have HU := Lib.hid hu; clear hu; (try unfold got2); (try unfold gotR)))
      rename_i hS
      have HS := Lib.hid hS
      obtain ⟨hup, a0, a1⟩ := hS
      have HUP := Lib.hid hup
      clear hup
      go_wp2_with fail
      go_region_held3 (fun w' => Up w w' ∧ w'.cell? ⟨w.heap.size, 0, none⟩ = some (.int .i64 n) ∧ w'.cell? ⟨w.heap.size, 1, none⟩ = some (.int .i64 d))
        (first | (with_reducible exact keep2 (by assumption) (by assumption)) | (refine ⟨?_, by simp [go_sem, *], by simp [go_sem, *]⟩; ((repeat (first | (with_reducible exact Up.refl _) | (with_reducible exact HUP.out) | (with_reducible refine Up.alloc ?_ _ _) | (with_reducible refine Up.setCell ?_ ?_ _) | (with_reducible refine Up.drewN ?_ _) | (with_reducible refine Up.drew ?_))); all_goals (first | (simp; done) | (simp; omega) | omega))))
        (first
          | (go_at_call 13; (with_reducible refine (ofr_up _ _).mono ?_); rintro e w' ⟨rfl, hu⟩; have HU := Lib.hid hu; clear hu; (try unfold got2); (try unfold gotR))
          | (go_at_call 18; (with_reducible refine (HC.out _).mono ?_); rintro e w' ⟨rfl, hu⟩; have HU := Lib.hid hu; clear hu; (try unfold got2); (try unfold gotR))
          | (go_at_call 18; (with_reducible refine (HD.out _).mono ?_); rintro e w' ⟨rfl, hu⟩; have HU := Lib.hid hu; clear hu; (try unfold got2); (try unfold gotR))
          | (go_at_call 16; (with_reducible refine (awaker_up _).mono ?_); rintro e w' ⟨rfl, hu⟩; have HU := Lib.hid hu; clear hu; (try unfold got2); (try unfold gotR)))
      all_goals
        go_wp2
        go_ret
        exact ⟨rfl, Up.grown (And.left (by assumption))⟩
  · have hv' : validB n d = false := by simpa using hv
    rw [hv'] at HV
    clear hv hv' h0 h1
    go_enter Try.func10, Try.ntmps10
    go_wp2_with fail
    refine (HV.out _).mono ?_
    rintro e w1 ⟨rfl, hu1⟩
    try unfold got2
    have c1_0 := hu1.keep (w.heap.size) (0) (.int .i64 n) (by simp [go_sem, *])
    have c1_1 := hu1.keep (w.heap.size) (1) (.int .i64 d) (by simp [go_sem, *])
    have l1_0 : w.heap.size < w1.heap.size := World.block_lt_of_cell? _ _ c1_0
    have m1_0 : w.heap.size < w1.heap.size + 1 := by omega
    have n1_0 : w.heap.size < w1.heap.size + 1 + 1 := by omega
    have x1_0 : ¬ w1.heap.size = w.heap.size := by omega
    have y1_0 : ¬ w1.heap.size + 1 = w.heap.size := by omega
    have HU1 : Hid (Up w w1) := Lib.hid (by ((repeat (first | (with_reducible exact Up.refl _) | (with_reducible refine Up.trans ?_ hu1) | (with_reducible refine Up.alloc ?_ _ _) | (with_reducible refine Up.setCell ?_ ?_ _) | (with_reducible refine Up.drewN ?_ _) | (with_reducible refine Up.drew ?_))); all_goals (first | (simp; done) | (simp; omega) | omega)))
    clear hu1
    go_wp2_with fail
    refine (awaker_up _).mono ?_
    rintro e w3 ⟨rfl, hu3⟩
    go_wp2
    go_ret
    exact ⟨rfl, (HU1.out.trans hu3).grown⟩

set_option maxRecDepth 100000 in
theorem ratioBetween_lifted (os : Os) (started : os.Started) (H : Type) (enc : TypeId × Value → H) :
    ReturnsInHanded {} Try.checked os 10 .any (Rows.ratioBetweenSpec.pre6 enc Try.prog Try.f10 Rows.ratioBetweenRow.domain false) (Rows.ratioBetweenSpec.post enc Try.prog Try.f10 false true false false) := by
  refine returnsInHanded_of_change (C := Try.checked) ratioBetween_own started (by kernel_rfl) Try.func10
    (ChangeSpec.witness6 (enc := enc) (C := Try.checked) false ⟨#[], #[.agg #[.int .i64 0, .int .i64 0]], []⟩ 8 (by kernel_rfl) (by kernel_rfl) (by kernel_rfl) (by kernel_rfl)) ?_
  intro W base args ds gs before hval0 hW hcnd _
  have hval : ∀ (j : Nat) t v, Try.f10.params[j]? = some t → args[j]? = some v → Value.okWide Try.prog W .any base t v := hval0
  have hW' := hW
  obtain ⟨p, q, hA0, hV, rfl, hfz, hnd⟩ := hW
  have hA : DataW.TrodAll enc Try.prog W 0 (fun _ => true) true Try.f10.params.toList args.toList ds p := hA0
  rw [Try.params10] at hA hval
  obtain ⟨v0, vs0, d0, ds0, p0, q0, hargs, rfl, rfl, h0, r0⟩ := trodAll_cons hA
  obtain ⟨rfl, rfl, rfl⟩ := trodAll_nil r0
  obtain rfl : args = #[v0] := by cases args; simp_all
  obtain ⟨rfl, rfl⟩ := trodVars_none hV
  obtain ⟨ca0, cb0, ya0, yb0, m0, rfl, rfl, rfl, hya0, hyb0⟩ := open_agg2 Try.underlying23 (by kernel_rfl) ratioBetween_cellsr (hval 0 23 v0 rfl rfl) h0
  obtain ⟨a0, ea0, rfl, w0⟩ := DataW.trod_int Try.underlying2 hya0
  obtain ⟨b0, eb0, rfl, x0⟩ := DataW.trod_int Try.underlying2 hyb0
  simp at ea0 eb0
  subst ea0 eb0
  clear hA0 hval0
  simp only [List.append_nil] at hW'
  refine (ratioBetween_walk a0 b0 w0 x0 W).mono fun e W' ⟨he, hg⟩ => ?_
  subst he
  exact ⟨_, rfl, post_of_same (pa := []) (pv := []) hW' (fun _ _ _ => (trodAll_cons_mk (shut_bool Try.underlying4 _) trodAll_mk0)) (fun sp _ => (trodAll_cons_mk (shut_agg2 (y0 := (.lit (.int .i64 a0), [])) (y1 := (.lit (.int .i64 b0), [])) Try.underlying23 (by kernel_rfl) ratioBetween_cellsr ⟨1, by simp [DataW.trod, Try.underlying2, w0]⟩ ⟨1, by simp [DataW.trod, Try.underlying2, x0]⟩) trodAll_mk0)) (fun _ _ => rfl) rfl
    (hg.frame _) hg.2.1 (ok_one (by kernel_rfl) rfl (okWide_bool_mk Try.underlying4 _))⟩

theorem ratioBetween_over : Rows.ratioBetweenRow.holds Try.pinned (OpenSpec.ofChange Rows.ratioBetweenSpec) :=
  OpenClaim.holds_of_wide 10 Try.f10 rfl rfl rfl rfl rfl rfl rfl ⟨rfl, rfl, rfl, rfl, rfl⟩ rfl rfl rfl rfl rfl (by kernel_rfl) Try.func10 (by kernel_rfl)
    (of_decide_eq_true (by kernel_rfl)) (by unfold Func.isWrapper; first | (rw [if_pos (by decide +kernel)]; kernel_rfl) | (rw [if_neg (by decide +kernel)]; exact ⟨rfl, rfl⟩))
    (fun os started H enc _ => ratioBetween_lifted os started H enc)

theorem ratioBetween_holds : Rows.RatioBetweenSaid :=
  ratioBetween_over
#print axioms ratioBetween_holds
end Go.Proofs.Ytgkoccnnafilnaa
