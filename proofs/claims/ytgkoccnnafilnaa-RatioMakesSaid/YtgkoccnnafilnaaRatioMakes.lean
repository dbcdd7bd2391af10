/- Proved: for all int64 numbers num and den the law RatioMakes returns true: ratio.Make and ratio.Of answer as the reference does, and what Make returns is valid. Conditions: none. -/
import Derived.Test.YtgkoccnnafilnaaRows
import Derived.WalkKit
import Derived.ProofKit
import Derived.OpenShut
import Derived.Lib.SmallJoins
import Derived.Test.YtgkoccnnafilnaaRMake
import Derived.Deep.RegionHeld3
namespace Go.Proofs.Ytgkoccnnafilnaa
open Go.ChangeShapes Go.WideShapes Go.ChangeAt Go.RowKit Go.Joins
set_option linter.unusedVariables false

theorem ratioMakes_own : ownKnob Try.prog.godebug = none := by kernel_rfl

set_option maxHeartbeats 4000000 in
set_option maxRecDepth 100000 in
theorem ratioMakes_walk (n d : Int) (w0 : (Lit.int .i64 n).wf = true) (w1 : (Lit.int .i64 d).wf = true) (w : World) :
    Calls Try.prog 3 #[.int .i64 n, .int .i64 d] w fun e w' => e = .returned (.bool true) ∧ Grown w w' := by
  have h0 := in_of_wf w0
  have h1 := in_of_wf w1
  clear w0 w1
  have HI := Lib.hid (fun W => make_up n d h0 h1 W)
  have HR := Lib.hid (fun W => rmake_up n d h0 h1 W)
  obtain ⟨i1, i2⟩ := quo_in n d
  have HV := Lib.hid (fun W => valid_up (quoN n d) (quoD n d) i1 i2 W)
  have hx : quoB n d = false ∨ (quoB n d = true ∧ validB (quoN n d) (quoD n d) = true) := by
    cases h : quoB n d
    · exact Or.inl rfl
    · exact Or.inr ⟨rfl, (quo_yes h).2.2.2.1⟩
  generalize validB (quoN n d) (quoD n d) = v at *
  generalize quoN n d = N at *
  generalize quoD n d = D at *
  generalize quoB n d = B at *
  clear h0 h1 i1 i2
  rcases hx with rfl | ⟨rfl, rfl⟩
  · go_enter Try.func3, Try.ntmps3
    go_wp2_with fail
    refine (HI.out _).mono ?_
    rintro e w1 ⟨rfl, hu1⟩
    try unfold got2
    have HU1 : Hid (Up w w1) := Lib.hid (by ((repeat (first | (with_reducible exact Up.refl _) | (with_reducible refine Up.trans ?_ hu1) | (with_reducible refine Up.alloc ?_ _ _) | (with_reducible refine Up.setCell ?_ ?_ _) | (with_reducible refine Up.drewN ?_ _) | (with_reducible refine Up.drew ?_))); all_goals (first | (simp; done) | (simp; omega) | omega)))
    clear hu1
    unfold gotR
    go_wp2_with fail
    refine (HR.out _).mono ?_
    rintro e w2 ⟨rfl, hu2⟩
    try unfold got2
    have c2_0 := hu2.keep (w1.heap.size) (0) (.int .i64 N) (by simp [go_sem, *])
    have c2_1 := hu2.keep (w1.heap.size) (1) (.int .i64 D) (by simp [go_sem, *])
    have l2_0 : w1.heap.size < w2.heap.size := World.block_lt_of_cell? _ _ c2_0
    have m2_0 : w1.heap.size < w2.heap.size + 1 := by omega
    have n2_0 : w1.heap.size < w2.heap.size + 1 + 1 := by omega
    have x2_0 : ¬ w2.heap.size = w1.heap.size := by omega
    have y2_0 : ¬ w2.heap.size + 1 = w1.heap.size := by omega
    have HU2 : Hid (Up w w2) := Lib.hid (by ((repeat (first | (with_reducible exact Up.refl _) | (with_reducible exact HU1.out) | (with_reducible refine Up.trans ?_ hu2) | (with_reducible refine Up.alloc ?_ _ _) | (with_reducible refine Up.setCell ?_ ?_ _) | (with_reducible refine Up.drewN ?_ _) | (with_reducible refine Up.drew ?_))); all_goals (first | (simp; done) | (simp; omega) | omega)))
    clear hu2
    unfold gotR
    go_wp2_with fail
    refine (ofr_up _ _).mono ?_
    rintro e w3 ⟨rfl, hu3⟩
    try unfold got2
    have c3_0 := hu3.keep (w1.heap.size) (0) (.int .i64 N) (by simp [go_sem, *])
    have c3_1 := hu3.keep (w1.heap.size) (1) (.int .i64 D) (by simp [go_sem, *])
    have l3_0 : w1.heap.size < w3.heap.size := World.block_lt_of_cell? _ _ c3_0
    have m3_0 : w1.heap.size < w3.heap.size + 1 := by omega
    have n3_0 : w1.heap.size < w3.heap.size + 1 + 1 := by omega
    have x3_0 : ¬ w3.heap.size = w1.heap.size := by omega
    have y3_0 : ¬ w3.heap.size + 1 = w1.heap.size := by omega
    have HU3 : Hid (Up w w3) := Lib.hid (by ((repeat (first | (with_reducible exact Up.refl _) | (with_reducible exact HU2.out) | (with_reducible refine Up.trans ?_ hu3) | (with_reducible refine Up.alloc ?_ _ _) | (with_reducible refine Up.setCell ?_ ?_ _) | (with_reducible refine Up.drewN ?_ _) | (with_reducible refine Up.drew ?_))); all_goals (first | (simp; done) | (simp; omega) | omega)))
    clear hu3 c2_0 c2_1
    go_wp2_with fail
    refine (rofr_up _ _).mono ?_
    rintro e w4 ⟨rfl, hu4⟩
    try unfold got2
    have c4_0 := hu4.keep (w1.heap.size) (0) (.int .i64 N) (by simp [go_sem, *])
    have c4_1 := hu4.keep (w1.heap.size) (1) (.int .i64 D) (by simp [go_sem, *])
    have l4_0 : w1.heap.size < w4.heap.size := World.block_lt_of_cell? _ _ c4_0
    have m4_0 : w1.heap.size < w4.heap.size + 1 := by omega
    have n4_0 : w1.heap.size < w4.heap.size + 1 + 1 := by omega
    have x4_0 : ¬ w4.heap.size = w1.heap.size := by omega
    have y4_0 : ¬ w4.heap.size + 1 = w1.heap.size := by omega
    have HU4 : Hid (Up w w4) := Lib.hid (by ((repeat (first | (with_reducible exact Up.refl _) | (with_reducible exact HU3.out) | (with_reducible refine Up.trans ?_ hu4) | (with_reducible refine Up.alloc ?_ _ _) | (with_reducible refine Up.setCell ?_ ?_ _) | (with_reducible refine Up.drewN ?_ _) | (with_reducible refine Up.drew ?_))); all_goals (first | (simp; done) | (simp; omega) | omega)))
    clear hu4 c3_0 c3_1
    go_wp2_with fail
    refine (awaker_up _).mono ?_
    rintro e w5 ⟨rfl, hu5⟩
    go_wp2
    go_ret
    exact ⟨rfl, (HU4.out.trans hu5).grown⟩
  · go_enter Try.func3, Try.ntmps3
    go_wp2_with fail
    refine (HI.out _).mono ?_
    rintro e w1 ⟨rfl, hu1⟩
    try unfold got2
    have HU1 : Hid (Up w w1) := Lib.hid (by ((repeat (first | (with_reducible exact Up.refl _) | (with_reducible refine Up.trans ?_ hu1) | (with_reducible refine Up.alloc ?_ _ _) | (with_reducible refine Up.setCell ?_ ?_ _) | (with_reducible refine Up.drewN ?_ _) | (with_reducible refine Up.drew ?_))); all_goals (first | (simp; done) | (simp; omega) | omega)))
    clear hu1
    unfold gotR
    go_wp2_with fail
    refine (HR.out _).mono ?_
    rintro e w2 ⟨rfl, hu2⟩
    try unfold got2
    have c2_0 := hu2.keep (w1.heap.size) (0) (.int .i64 N) (by simp [go_sem, *])
    have c2_1 := hu2.keep (w1.heap.size) (1) (.int .i64 D) (by simp [go_sem, *])
    have l2_0 : w1.heap.size < w2.heap.size := World.block_lt_of_cell? _ _ c2_0
    have m2_0 : w1.heap.size < w2.heap.size + 1 := by omega
    have n2_0 : w1.heap.size < w2.heap.size + 1 + 1 := by omega
    have x2_0 : ¬ w2.heap.size = w1.heap.size := by omega
    have y2_0 : ¬ w2.heap.size + 1 = w1.heap.size := by omega
    have HU2 : Hid (Up w w2) := Lib.hid (by ((repeat (first | (with_reducible exact Up.refl _) | (with_reducible exact HU1.out) | (with_reducible refine Up.trans ?_ hu2) | (with_reducible refine Up.alloc ?_ _ _) | (with_reducible refine Up.setCell ?_ ?_ _) | (with_reducible refine Up.drewN ?_ _) | (with_reducible refine Up.drew ?_))); all_goals (first | (simp; done) | (simp; omega) | omega)))
    clear hu2
    unfold gotR
    go_wp2_with fail
    refine (ofr_up _ _).mono ?_
    rintro e w3 ⟨rfl, hu3⟩
    try unfold got2
    have c3_0 := hu3.keep (w1.heap.size) (0) (.int .i64 N) (by simp [go_sem, *])
    have c3_1 := hu3.keep (w1.heap.size) (1) (.int .i64 D) (by simp [go_sem, *])
    have l3_0 : w1.heap.size < w3.heap.size := World.block_lt_of_cell? _ _ c3_0
    have m3_0 : w1.heap.size < w3.heap.size + 1 := by omega
    have n3_0 : w1.heap.size < w3.heap.size + 1 + 1 := by omega
    have x3_0 : ¬ w3.heap.size = w1.heap.size := by omega
    have y3_0 : ¬ w3.heap.size + 1 = w1.heap.size := by omega
    have HU3 : Hid (Up w w3) := Lib.hid (by ((repeat (first | (with_reducible exact Up.refl _) | (with_reducible exact HU2.out) | (with_reducible refine Up.trans ?_ hu3) | (with_reducible refine Up.alloc ?_ _ _) | (with_reducible refine Up.setCell ?_ ?_ _) | (with_reducible refine Up.drewN ?_ _) | (with_reducible refine Up.drew ?_))); all_goals (first | (simp; done) | (simp; omega) | omega)))
    clear hu3 c2_0 c2_1
    go_wp2_with fail
    refine (rofr_up _ _).mono ?_
    rintro e w4 ⟨rfl, hu4⟩
    try unfold got2
    have c4_0 := hu4.keep (w1.heap.size) (0) (.int .i64 N) (by simp [go_sem, *])
    have c4_1 := hu4.keep (w1.heap.size) (1) (.int .i64 D) (by simp [go_sem, *])
    have l4_0 : w1.heap.size < w4.heap.size := World.block_lt_of_cell? _ _ c4_0
    have m4_0 : w1.heap.size < w4.heap.size + 1 := by omega
    have n4_0 : w1.heap.size < w4.heap.size + 1 + 1 := by omega
    have x4_0 : ¬ w4.heap.size = w1.heap.size := by omega
    have y4_0 : ¬ w4.heap.size + 1 = w1.heap.size := by omega
    have HU4 : Hid (Up w w4) := Lib.hid (by ((repeat (first | (with_reducible exact Up.refl _) | (with_reducible exact HU3.out) | (with_reducible refine Up.trans ?_ hu4) | (with_reducible refine Up.alloc ?_ _ _) | (with_reducible refine Up.setCell ?_ ?_ _) | (with_reducible refine Up.drewN ?_ _) | (with_reducible refine Up.drew ?_))); all_goals (first | (simp; done) | (simp; omega) | omega)))
    clear hu4 c3_0 c3_1
    go_wp2_with fail
    refine (HV.out _).mono ?_
    rintro e w5 ⟨rfl, hu5⟩
    try unfold got2
    have HU5 : Hid (Up w w5) := Lib.hid (by ((repeat (first | (with_reducible exact Up.refl _) | (with_reducible exact HU4.out) | (with_reducible refine Up.trans ?_ hu5) | (with_reducible refine Up.alloc ?_ _ _) | (with_reducible refine Up.setCell ?_ ?_ _) | (with_reducible refine Up.drewN ?_ _) | (with_reducible refine Up.drew ?_))); all_goals (first | (simp; done) | (simp; omega) | omega)))
    clear hu5 c4_0 c4_1
    go_wp2_with fail
    refine (awaker_up _).mono ?_
    rintro e w6 ⟨rfl, hu6⟩
    go_wp2
    go_ret
    exact ⟨rfl, (HU5.out.trans hu6).grown⟩

set_option maxRecDepth 100000 in
theorem ratioMakes_lifted (os : Os) (started : os.Started) (H : Type) (enc : TypeId × Value → H) :
    ReturnsInHanded {} Try.checked os 3 .any (Rows.ratioMakesSpec.pre6 enc Try.prog Try.f3 Rows.ratioMakesRow.domain false) (Rows.ratioMakesSpec.post enc Try.prog Try.f3 false true false false) := by
  refine returnsInHanded_of_change (C := Try.checked) ratioMakes_own started (by kernel_rfl) Try.func3
    (ChangeSpec.witness6 (enc := enc) (C := Try.checked) false ⟨#[], #[.int .i64 0, .int .i64 0], []⟩ 8 (by kernel_rfl) (by kernel_rfl) (by kernel_rfl) (by kernel_rfl)) ?_
  intro W base args ds gs before hval0 hW hcnd _
  have hval : ∀ (j : Nat) t v, Try.f3.params[j]? = some t → args[j]? = some v → Value.okWide Try.prog W .any base t v := hval0
  have hW' := hW
  obtain ⟨p, q, hA0, hV, rfl, hfz, hnd⟩ := hW
  have hA : DataW.TrodAll enc Try.prog W 0 (fun _ => true) true Try.f3.params.toList args.toList ds p := hA0
  rw [Try.params3] at hA hval
  obtain ⟨v0, vs0, d0, ds0, p0, q0, hargs, rfl, rfl, h0, r0⟩ := trodAll_cons hA
  obtain ⟨v1, vs1, d1, ds1, p1, q1, rfl, rfl, rfl, h1, r1⟩ := trodAll_cons r0
  obtain ⟨rfl, rfl, rfl⟩ := trodAll_nil r1
  obtain rfl : args = #[v0, v1] := by cases args; simp_all
  obtain ⟨rfl, rfl⟩ := trodVars_none hV
  obtain ⟨a0, rfl, rfl, rfl, w0⟩ := open_int Try.underlying2 (hval 0 2 v0 rfl rfl) h0
  obtain ⟨a1, rfl, rfl, rfl, w1⟩ := open_int Try.underlying2 (hval 1 2 v1 rfl rfl) h1
  clear hA0 hval0
  simp only [List.append_nil] at hW'
  refine (ratioMakes_walk a0 a1 w0 w1 W).mono fun e W' ⟨he, hg⟩ => ?_
  subst he
  exact ⟨_, rfl, post_of_same (pa := []) (pv := []) hW' (fun _ _ _ => (trodAll_cons_mk (shut_bool Try.underlying4 _) trodAll_mk0)) (fun sp _ => (trodAll_cons_mk (shut_int Try.underlying2 w0) (trodAll_cons_mk (shut_int Try.underlying2 w1) trodAll_mk0))) (fun _ _ => rfl) rfl
    (hg.frame _) hg.2.1 (ok_one (by kernel_rfl) rfl (okWide_bool_mk Try.underlying4 _))⟩

theorem ratioMakes_over : Rows.ratioMakesRow.holds Try.pinned (OpenSpec.ofChange Rows.ratioMakesSpec) :=
  OpenClaim.holds_of_wide 3 Try.f3 rfl rfl rfl rfl rfl rfl rfl ⟨rfl, rfl, rfl, rfl, rfl⟩ rfl rfl rfl rfl rfl (by kernel_rfl) Try.func3 (by kernel_rfl)
    (of_decide_eq_true (by kernel_rfl)) (by unfold Func.isWrapper; first | (rw [if_pos (by decide +kernel)]; kernel_rfl) | (rw [if_neg (by decide +kernel)]; exact ⟨rfl, rfl⟩))
    (fun os started H enc _ => ratioMakes_lifted os started H enc)

theorem ratioMakes_holds : Rows.RatioMakesSaid :=
  ratioMakes_over
#print axioms ratioMakes_holds
end Go.Proofs.Ytgkoccnnafilnaa
