/- Proved: for all rational numbers a and b the law RatioCompares returns true: ratio.Compare answers as the reference does, in both orders. Conditions: none. -/
import Derived.Test.YtgkoccnnafilnaaRows
import Derived.WalkKit
import Derived.ProofKit
import Derived.OpenShut
import Derived.Lib.SmallJoins
import Derived.Test.YtgkoccnnafilnaaREasy
import Derived.Deep.RegionHeld3
import Derived.IntWalk
namespace Go.Proofs.Ytgkoccnnafilnaa
open Go.ChangeShapes Go.WideShapes Go.ChangeAt Go.RowKit Go.Joins
set_option linter.unusedVariables false

theorem ratioCompares_own : ownKnob Try.prog.godebug = none := by kernel_rfl
theorem ratioCompares_cellsr : Try.prog.cellsOf 23 = 2 := by kernel_rfl

theorem cmpR_anti (n d m c : Int) : cmpR m c n d = -cmpR n d m c := by
  unfold cmpR
  rw [Bool.and_comm (validB m c)]
  by_cases h : (validB n d && validB m c) = true
  · rw [if_pos h, if_pos h, crossZ_anti]
  · rw [if_neg h, if_neg h]; rfl
theorem cmpR_bound (n d m c : Int) : -1 ≤ cmpR n d m c ∧ cmpR n d m c ≤ 1 := by
  unfold cmpR
  split
  · exact crossZ_bound _ _ _ _
  · decide
set_option maxHeartbeats 4000000 in
set_option maxRecDepth 100000 in
theorem ratioCompares_walk (n d m c : Int) (w0 : (Lit.int .i64 n).wf = true) (w1 : (Lit.int .i64 d).wf = true) (w2 : (Lit.int .i64 m).wf = true) (w3 : (Lit.int .i64 c).wf = true) (w : World) :
    Calls Try.prog 5 #[.agg #[.int .i64 n, .int .i64 d], .agg #[.int .i64 m, .int .i64 c]] w fun e w' => e = .returned (.bool true) ∧ Grown w w' := by
  have h0 := in_of_wf w0
  have h1 := in_of_wf w1
  have h2 := in_of_wf w2
  have h3 := in_of_wf w3
  clear w0 w1 w2 w3
  have HI := Lib.hid (fun W => comparer_up n d m c h0 h1 h2 h3 W)
  have HR := Lib.hid (fun W => rcomparer_up n d m c h0 h1 h2 h3 W)
  have HJ := Lib.hid (fun W => comparer_up m c n d h2 h3 h0 h1 W)
  have hwr : IntKind.i64.wrap (-cmpR n d m c) = cmpR m c n d := by
    rw [cmpR_anti n d m c]
    have := cmpR_bound n d m c
    exact IntWalk.i64_in _ (by omega)
  generalize cmpR n d m c = r at *
  generalize cmpR m c n d = k at *
  clear h0 h1 h2 h3
  go_enter Try.func5, Try.ntmps5
  go_wp2_with fail
  go_region_held3 (fun w' => Up w w' ∧ w'.cell? ⟨w.heap.size, 0, none⟩ = some (.int .i64 n) ∧ w'.cell? ⟨w.heap.size, 1, none⟩ = some (.int .i64 d) ∧ w'.cell? ⟨w.heap.size + 1, 0, none⟩ = some (.int .i64 m) ∧ w'.cell? ⟨w.heap.size + 1, 1, none⟩ = some (.int .i64 c))
    (first | (with_reducible exact keep4 (by assumption) (by assumption)) | (refine ⟨?_, by simp [go_sem, *], by simp [go_sem, *], by simp [go_sem, *], by simp [go_sem, *]⟩; ((repeat (first | (with_reducible exact Up.refl _) | (with_reducible refine Up.alloc ?_ _ _) | (with_reducible refine Up.setCell ?_ ?_ _) | (with_reducible refine Up.drewN ?_ _) | (with_reducible refine Up.drew ?_))); all_goals (first | (simp; done) | (simp; omega) | omega))))
    (first
      | (go_at_call 18; (with_reducible refine (HI.out _).mono ?_); rintro e w' ⟨rfl, hu⟩; have HU := Lib.hid hu; clear hu; (try unfold got2); (try unfold gotR))
      | (go_at_call 18; (with_reducible refine (HJ.out _).mono ?_); rintro e w' ⟨rfl, hu⟩; have HU := Lib.hid hu; clear hu; (try unfold got2); (try unfold gotR))
      | (go_at_call 19; (with_reducible refine (HR.out _).mono ?_); rintro e w' ⟨rfl, hu⟩; have HU := Lib.hid hu; clear hu; (try unfold got2); (try unfold gotR))
      | (go_at_call 16; (with_reducible refine (awaker_up _).mono ?_); rintro e w' ⟨rfl, hu⟩; have HU := Lib.hid hu; clear hu; (try unfold got2); (try unfold gotR)))
  all_goals
    go_wp2
    go_ret
    exact ⟨rfl, Up.grown (And.left (by assumption))⟩

set_option maxRecDepth 100000 in
theorem ratioCompares_lifted (os : Os) (started : os.Started) (H : Type) (enc : TypeId × Value → H) :
    ReturnsInHanded {} Try.checked os 5 .any (Rows.ratioComparesSpec.pre6 enc Try.prog Try.f5 Rows.ratioComparesRow.domain false) (Rows.ratioComparesSpec.post enc Try.prog Try.f5 false true false false) := by
  refine returnsInHanded_of_change (C := Try.checked) ratioCompares_own started (by kernel_rfl) Try.func5
    (ChangeSpec.witness6 (enc := enc) (C := Try.checked) false ⟨#[], #[.agg #[.int .i64 0, .int .i64 0], .agg #[.int .i64 0, .int .i64 0]], []⟩ 8 (by kernel_rfl) (by kernel_rfl) (by kernel_rfl) (by kernel_rfl)) ?_
  intro W base args ds gs before hval0 hW hcnd _
  have hval : ∀ (j : Nat) t v, Try.f5.params[j]? = some t → args[j]? = some v → Value.okWide Try.prog W .any base t v := hval0
  have hW' := hW
  obtain ⟨p, q, hA0, hV, rfl, hfz, hnd⟩ := hW
  have hA : DataW.TrodAll enc Try.prog W 0 (fun _ => true) true Try.f5.params.toList args.toList ds p := hA0
  rw [Try.params5] at hA hval
  obtain ⟨v0, vs0, d0, ds0, p0, q0, hargs, rfl, rfl, h0, r0⟩ := trodAll_cons hA
  obtain ⟨v1, vs1, d1, ds1, p1, q1, rfl, rfl, rfl, h1, r1⟩ := trodAll_cons r0
  obtain ⟨rfl, rfl, rfl⟩ := trodAll_nil r1
  obtain rfl : args = #[v0, v1] := by cases args; simp_all
  obtain ⟨rfl, rfl⟩ := trodVars_none hV
  obtain ⟨ca0, cb0, ya0, yb0, m0, rfl, rfl, rfl, hya0, hyb0⟩ := open_agg2 Try.underlying23 (by kernel_rfl) ratioCompares_cellsr (hval 0 23 v0 rfl rfl) h0
  obtain ⟨a0, ea0, rfl, w0⟩ := DataW.trod_int Try.underlying2 hya0
  obtain ⟨b0, eb0, rfl, x0⟩ := DataW.trod_int Try.underlying2 hyb0
  simp at ea0 eb0
  subst ea0 eb0
  obtain ⟨ca1, cb1, ya1, yb1, m1, rfl, rfl, rfl, hya1, hyb1⟩ := open_agg2 Try.underlying23 (by kernel_rfl) ratioCompares_cellsr (hval 1 23 v1 rfl rfl) h1
  obtain ⟨a1, ea1, rfl, w1⟩ := DataW.trod_int Try.underlying2 hya1
  obtain ⟨b1, eb1, rfl, x1⟩ := DataW.trod_int Try.underlying2 hyb1
  simp at ea1 eb1
  subst ea1 eb1
  clear hA0 hval0
  simp only [List.append_nil] at hW'
  refine (ratioCompares_walk a0 b0 a1 b1 w0 x0 w1 x1 W).mono fun e W' ⟨he, hg⟩ => ?_
  subst he
  exact ⟨_, rfl, post_of_same (pa := []) (pv := []) hW' (fun _ _ _ => (trodAll_cons_mk (shut_bool Try.underlying4 _) trodAll_mk0)) (fun sp _ => (trodAll_cons_mk (shut_agg2 (y0 := (.lit (.int .i64 a0), [])) (y1 := (.lit (.int .i64 b0), [])) Try.underlying23 (by kernel_rfl) ratioCompares_cellsr ⟨1, by simp [DataW.trod, Try.underlying2, w0]⟩ ⟨1, by simp [DataW.trod, Try.underlying2, x0]⟩) (trodAll_cons_mk (shut_agg2 (y0 := (.lit (.int .i64 a1), [])) (y1 := (.lit (.int .i64 b1), [])) Try.underlying23 (by kernel_rfl) ratioCompares_cellsr ⟨1, by simp [DataW.trod, Try.underlying2, w1]⟩ ⟨1, by simp [DataW.trod, Try.underlying2, x1]⟩) trodAll_mk0))) (fun _ _ => rfl) rfl
    (hg.frame _) hg.2.1 (ok_one (by kernel_rfl) rfl (okWide_bool_mk Try.underlying4 _))⟩

theorem ratioCompares_over : Rows.ratioComparesRow.holds Try.pinned (OpenSpec.ofChange Rows.ratioComparesSpec) :=
  OpenClaim.holds_of_wide 5 Try.f5 rfl rfl rfl rfl rfl rfl rfl ⟨rfl, rfl, rfl, rfl, rfl⟩ rfl rfl rfl rfl rfl (by kernel_rfl) Try.func5 (by kernel_rfl)
    (of_decide_eq_true (by kernel_rfl)) (by unfold Func.isWrapper; first | (rw [if_pos (by decide +kernel)]; kernel_rfl) | (rw [if_neg (by decide +kernel)]; exact ⟨rfl, rfl⟩))
    (fun os started H enc _ => ratioCompares_lifted os started H enc)

theorem ratioCompares_holds : Rows.RatioComparesSaid :=
  ratioCompares_over
#print axioms ratioCompares_holds
end Go.Proofs.Ytgkoccnnafilnaa
