/- Proved: for every aggregate, window, K, capacity and tick, and every mark, the law SmoothNew returns true: New, Of and Most of package smooth answer as the reference does. Conditions: none. -/
import Derived.Test.YtafkoddgefcpnaaRows
import Derived.Test.YtafkoddgefcpnaaZKAllq269
import Derived.Test.YtafkoddgefcpnaaZKFrameq147
namespace Go.Proofs.Ytafkoddgefcpnaa
open Go.ChangeShapes Go.WideShapes Go.ChangeAt Go.RowKit Go.Joins
set_option linter.unusedVariables false

theorem smoothNew_own : ownKnob Try.prog.godebug = none := by kernel_rfl

set_option maxHeartbeats 16000000 in
set_option maxRecDepth 100000 in
theorem smoothNew_walk (g : Int) (_ : (Lit.int .i64 g).wf = true) (v : Int) (_ : (Lit.int .i64 v).wf = true) (q : Int) (_ : (Lit.int .i64 q).wf = true) (c : Int) (_ : (Lit.int .i64 c).wf = true) (now : Int) (_ : (Lit.int .i64 now).wf = true) (sq t n s qq lo hi : Int) (i0 : In sq) (i1 : In t) (i2 : In n) (i3 : In s) (i4 : In qq) (i5 : In lo) (i6 : In hi) (w : World) :
    Calls Try.prog 3 #[.int .i64 g, .int .i64 v, .int .i64 q, .int .i64 c, .int .i64 now, .agg #[.int .i64 sq, .int .i64 t, .int .i64 n, .int .i64 s, .int .i64 qq, .int .i64 lo, .int .i64 hi]] w fun e w' => e = .returned (.bool true) ∧ Up w w' := by
  have KA := Lib.hid awake13_up
  obtain ⟨a0, a1, a2, a3, a4, a5, e0, k1, k2⟩ := new13_both g v q c now
  have K1 := Lib.hid k1
  have K2 := Lib.hid k2
  have K3 := Lib.hid (fun W => of13_up g sq t n s qq lo hi i5 i6 W)
  have K4 := Lib.hid (fun W => rof13_up g sq t n s qq lo hi i5 i6 W)
  have K5 := Lib.hid (most13_any g q c)
  have K6 := Lib.hid (rmost13_any g q c)
  have K7 := Lib.hid (fun W => same13_t a0 a1 a2 a3 a4 a5 0 0 0 none none [] (by omega) W SG.none_ SG.none_)
  generalize ofZ g ⟨sq, t, n, s, qq, lo, hi⟩ = y at *
  generalize mostZ g q c = z at *
  clear k1 k2 i0 i1 i2 i3 i4 i5 i6
  have tt1 : (e0 == e0) = true := by simp
  have tt2 : (y == y) = true := by simp
  have tt3 : (z == z) = true := by simp
  go_enter Try.func3, Try.ntmps3
  go_wp2_with (first
    | (go_at_call 13; (with_reducible refine (K1.out _).mono ?_); rintro e w1 ⟨rfl, hu⟩; have hv := ((Up.refl w).alloc #[.int .i64 sq, .int .i64 t, .int .i64 n, .int .i64 s, .int .i64 qq, .int .i64 lo, .int .i64 hi] 23).trans hu; have HV1 := Lib.hid hv; have HU1 := Lib.hid ((Up.refl w).trans hv); have s_1_0 := hu.keep (w.heap.size) 0 (.int .i64 sq) (by simp [go_sem]); have s_1_1 := hu.keep (w.heap.size) 1 (.int .i64 t) (by simp [go_sem]); have s_1_2 := hu.keep (w.heap.size) 2 (.int .i64 n) (by simp [go_sem]); have s_1_3 := hu.keep (w.heap.size) 3 (.int .i64 s) (by simp [go_sem]); have s_1_4 := hu.keep (w.heap.size) 4 (.int .i64 qq) (by simp [go_sem]); have s_1_5 := hu.keep (w.heap.size) 5 (.int .i64 lo) (by simp [go_sem]); have s_1_6 := hu.keep (w.heap.size) 6 (.int .i64 hi) (by simp [go_sem]); have ls1 := World.block_lt_of_cell? _ _ s_1_0; clear hu hv )
    | (go_at_call 14; (with_reducible refine (K2.out _).mono ?_); rintro e w2 ⟨rfl, hu⟩; have hv := ((Up.refl w1).alloc #[.int .i64 a0, .int .i64 a1, .int .i64 a2, .int .i64 a3, .int .i64 a4, .int .i64 a5, .slice none 0 0] 26).trans hu; have HV2 := Lib.hid hv; have HU2 := Lib.hid (HU1.out.trans hv); have s_2_0 := hv.keep _ _ _ s_1_0; have s_2_1 := hv.keep _ _ _ s_1_1; have s_2_2 := hv.keep _ _ _ s_1_2; have s_2_3 := hv.keep _ _ _ s_1_3; have s_2_4 := hv.keep _ _ _ s_1_4; have s_2_5 := hv.keep _ _ _ s_1_5; have s_2_6 := hv.keep _ _ _ s_1_6; have r_2_0 := hu.keep (w1.heap.size) 0 (.int .i64 a0) (by simp [go_sem]); have r_2_1 := hu.keep (w1.heap.size) 1 (.int .i64 a1) (by simp [go_sem]); have r_2_2 := hu.keep (w1.heap.size) 2 (.int .i64 a2) (by simp [go_sem]); have r_2_3 := hu.keep (w1.heap.size) 3 (.int .i64 a3) (by simp [go_sem]); have r_2_4 := hu.keep (w1.heap.size) 4 (.int .i64 a4) (by simp [go_sem]); have r_2_5 := hu.keep (w1.heap.size) 5 (.int .i64 a5) (by simp [go_sem]); have r_2_6 := hu.keep (w1.heap.size) 6 (.slice none 0 0) (by simp [go_sem]); have ls2 := World.block_lt_of_cell? _ _ s_2_0; have lr2 := World.block_lt_of_cell? _ _ r_2_0; clear hu hv ls1 s_1_0 s_1_1 s_1_2 s_1_3 s_1_4 s_1_5 s_1_6))
  obtain ⟨w3, hw3⟩ : ∃ z, z = w2.alloc (.cells #[.int .i64 a0, .int .i64 a1, .int .i64 a2, .int .i64 a3, .int .i64 a4, .int .i64 a5, .slice none 0 0] 26) := ⟨_, rfl⟩
  rw [← hw3]
  have hv : Up w2 w3 := by rw [hw3]; exact (Up.refl _).alloc _ _
  have HSS : Hid (Up w w3 ∧ w3.cell? ⟨w.heap.size, 0, none⟩ = some (.int .i64 sq) ∧ w3.cell? ⟨w.heap.size, 1, none⟩ = some (.int .i64 t) ∧ w3.cell? ⟨w.heap.size, 2, none⟩ = some (.int .i64 n) ∧ w3.cell? ⟨w.heap.size, 3, none⟩ = some (.int .i64 s) ∧ w3.cell? ⟨w.heap.size, 4, none⟩ = some (.int .i64 qq) ∧ w3.cell? ⟨w.heap.size, 5, none⟩ = some (.int .i64 lo) ∧ w3.cell? ⟨w.heap.size, 6, none⟩ = some (.int .i64 hi) ∧ w3.cell? ⟨w1.heap.size, 0, none⟩ = some (.int .i64 a0) ∧ w3.cell? ⟨w1.heap.size, 1, none⟩ = some (.int .i64 a1) ∧ w3.cell? ⟨w1.heap.size, 2, none⟩ = some (.int .i64 a2) ∧ w3.cell? ⟨w1.heap.size, 3, none⟩ = some (.int .i64 a3) ∧ w3.cell? ⟨w1.heap.size, 4, none⟩ = some (.int .i64 a4) ∧ w3.cell? ⟨w1.heap.size, 5, none⟩ = some (.int .i64 a5) ∧ w3.cell? ⟨w1.heap.size, 6, none⟩ = some (.slice none 0 0) ∧ w3.cell? ⟨w2.heap.size, 0, none⟩ = some (.int .i64 a0) ∧ w3.cell? ⟨w2.heap.size, 1, none⟩ = some (.int .i64 a1) ∧ w3.cell? ⟨w2.heap.size, 2, none⟩ = some (.int .i64 a2) ∧ w3.cell? ⟨w2.heap.size, 3, none⟩ = some (.int .i64 a3) ∧ w3.cell? ⟨w2.heap.size, 4, none⟩ = some (.int .i64 a4) ∧ w3.cell? ⟨w2.heap.size, 5, none⟩ = some (.int .i64 a5) ∧ w3.cell? ⟨w2.heap.size, 6, none⟩ = some (.slice none 0 0)) := Lib.hid ⟨HU2.out.trans hv, hv.keep _ _ _ s_2_0, hv.keep _ _ _ s_2_1, hv.keep _ _ _ s_2_2, hv.keep _ _ _ s_2_3, hv.keep _ _ _ s_2_4, hv.keep _ _ _ s_2_5, hv.keep _ _ _ s_2_6, hv.keep _ _ _ r_2_0, hv.keep _ _ _ r_2_1, hv.keep _ _ _ r_2_2, hv.keep _ _ _ r_2_3, hv.keep _ _ _ r_2_4, hv.keep _ _ _ r_2_5, hv.keep _ _ _ r_2_6, by rw [hw3]; simp [go_sem], by rw [hw3]; simp [go_sem], by rw [hw3]; simp [go_sem], by rw [hw3]; simp [go_sem], by rw [hw3]; simp [go_sem], by rw [hw3]; simp [go_sem], by rw [hw3]; simp [go_sem]⟩
  clear hv hw3 s_2_0 s_2_1 s_2_2 s_2_3 s_2_4 s_2_5 s_2_6 r_2_0 r_2_1 r_2_2 r_2_3 r_2_4 r_2_5 r_2_6
  generalize w1.heap.size = p1 at *
  generalize w2.heap.size = p2 at *
  go_region_held3 (fun w' => Up w w' ∧ w'.cell? ⟨w.heap.size, 0, none⟩ = some (.int .i64 sq) ∧ w'.cell? ⟨w.heap.size, 1, none⟩ = some (.int .i64 t) ∧ w'.cell? ⟨w.heap.size, 2, none⟩ = some (.int .i64 n) ∧ w'.cell? ⟨w.heap.size, 3, none⟩ = some (.int .i64 s) ∧ w'.cell? ⟨w.heap.size, 4, none⟩ = some (.int .i64 qq) ∧ w'.cell? ⟨w.heap.size, 5, none⟩ = some (.int .i64 lo) ∧ w'.cell? ⟨w.heap.size, 6, none⟩ = some (.int .i64 hi) ∧ w'.cell? ⟨p1, 0, none⟩ = some (.int .i64 a0) ∧ w'.cell? ⟨p1, 1, none⟩ = some (.int .i64 a1) ∧ w'.cell? ⟨p1, 2, none⟩ = some (.int .i64 a2) ∧ w'.cell? ⟨p1, 3, none⟩ = some (.int .i64 a3) ∧ w'.cell? ⟨p1, 4, none⟩ = some (.int .i64 a4) ∧ w'.cell? ⟨p1, 5, none⟩ = some (.int .i64 a5) ∧ w'.cell? ⟨p1, 6, none⟩ = some (.slice none 0 0) ∧ w'.cell? ⟨p2, 0, none⟩ = some (.int .i64 a0) ∧ w'.cell? ⟨p2, 1, none⟩ = some (.int .i64 a1) ∧ w'.cell? ⟨p2, 2, none⟩ = some (.int .i64 a2) ∧ w'.cell? ⟨p2, 3, none⟩ = some (.int .i64 a3) ∧ w'.cell? ⟨p2, 4, none⟩ = some (.int .i64 a4) ∧ w'.cell? ⟨p2, 5, none⟩ = some (.int .i64 a5) ∧ w'.cell? ⟨p2, 6, none⟩ = some (.slice none 0 0))
    (repeat (first | (with_reducible exact HSS.out) | (with_reducible exact keepM21 (by assumption) (by assumption)) | (with_reducible exact Hid.out (by assumption)) | (with_reducible refine keepM21 (Lib.hid (Up.refl _).drew) ?_)))
    (first
      | (go_at_call 15; (with_reducible refine (K7.out _).mono ?_); rintro e v5 ⟨rfl, hu⟩; have HY := Lib.hid hu; have HX_v5 := Lib.hid (keepM21 HY (by assumption)); clear hu HY)
      | (go_at_call 16; (with_reducible refine (K3.out _).mono ?_); rintro e v6 ⟨rfl, hu⟩; have HY := Lib.hid hu; have HX_v6 := Lib.hid (keepM21 HY (by assumption)); clear hu HY)
      | (go_at_call 17; (with_reducible refine (K4.out _).mono ?_); rintro e v7 ⟨rfl, hu⟩; have HY := Lib.hid hu; have HX_v7 := Lib.hid (keepM21 HY (by assumption)); clear hu HY)
      | (go_at_call 18; (with_reducible refine (K5.out _).mono ?_); rintro e w' ⟨rfl, rfl⟩)
      | (go_at_call 19; (with_reducible refine (K6.out _).mono ?_); rintro e w' ⟨rfl, rfl⟩)
      | (go_at_call 20; (with_reducible refine (KA.out _).mono ?_); rintro e v9 ⟨rfl, hu⟩; have HY := Lib.hid hu; have HX_v9 := Lib.hid (keepM21 HY (by assumption)); clear hu HY))
  clear ‹Up w _ ∧ _›
  go_wp2_with fail
  go_ret
  exact ⟨rfl, HX_v9.out.1⟩

set_option maxRecDepth 100000 in
theorem smoothNew_lifted (os : Os) (started : os.Started) (H : Type) (enc : TypeId × Value → H) :
    ReturnsInHanded {} Try.checked os 3 .any (Rows.smoothNewSpec.pre6 enc Try.prog Try.f3 Rows.smoothNewRow.domain false) (Rows.smoothNewSpec.post enc Try.prog Try.f3 false true false false) := by
  refine returnsInHanded_of_change_sized (C := Try.checked) smoothNew_own started (by kernel_rfl) Try.func3
    (ChangeSpec.witness6 (enc := enc) (C := Try.checked) false ⟨#[], #[.int .i64 0, .int .i64 0, .int .i64 0, .int .i64 0, .int .i64 0, .agg #[.int .i64 0, .int .i64 0, .int .i64 0, .int .i64 0, .int .i64 0, .int .i64 0, .int .i64 0]], []⟩ 8 (by kernel_rfl) (by kernel_rfl) (by kernel_rfl) (by kernel_rfl)) ?_
  intro W base args ds gs before hval0 hW hcnd hsz0 _
  have hval : ∀ (j : Nat) t v, Try.f3.params[j]? = some t → args[j]? = some v → Value.okWide Try.prog W .any base t v := hval0
  have hW' := hW
  obtain ⟨p, q, hA0, hV, rfl, hfz, hnd⟩ := hW'
  have hA : DataW.TrodAll enc Try.prog W 0 (fun _ => true) true Try.f3.params.toList args.toList ds p := hA0
  rw [Try.params3] at hA hval
  obtain ⟨v0, vs0, d0, ds0, p0, q0, hargs, rfl, rfl, h0, r0⟩ := trodAll_cons hA
  obtain ⟨v1, vs1, d1, ds1, p1, q1, rfl, rfl, rfl, h1, r1⟩ := trodAll_cons r0
  obtain ⟨v2, vs2, d2, ds2, p2, q2, rfl, rfl, rfl, h2, r2⟩ := trodAll_cons r1
  obtain ⟨v3, vs3, d3, ds3, p3, q3, rfl, rfl, rfl, h3, r3⟩ := trodAll_cons r2
  obtain ⟨v4, vs4, d4, ds4, p4, q4, rfl, rfl, rfl, h4, r4⟩ := trodAll_cons r3
  obtain ⟨v5, vs5, d5, ds5, p5, q5, rfl, rfl, rfl, h5, r5⟩ := trodAll_cons r4
  obtain ⟨rfl, rfl, rfl⟩ := trodAll_nil r5
  obtain rfl : args = #[v0, v1, v2, v3, v4, v5] := by cases args; simp_all
  obtain ⟨rfl, rfl⟩ := trodVars_none hV
  have hlt := fun x hx => hW.lt x hx
  have k0 := h0
  obtain ⟨a0, rfl, rfl, rfl, w0⟩ := open_int Try.underlying3 (hval 0 3 v0 rfl rfl) h0
  have k1 := h1
  obtain ⟨a1, rfl, rfl, rfl, w1⟩ := open_int Try.underlying2 (hval 1 2 v1 rfl rfl) h1
  have k2 := h2
  obtain ⟨a2, rfl, rfl, rfl, w2⟩ := open_int Try.underlying3 (hval 2 3 v2 rfl rfl) h2
  have k3 := h3
  obtain ⟨a3, rfl, rfl, rfl, w3⟩ := open_int Try.underlying3 (hval 3 3 v3 rfl rfl) h3
  have k4 := h4
  obtain ⟨a4, rfl, rfl, rfl, w4⟩ := open_int Try.underlying2 (hval 4 2 v4 rfl rfl) h4
  have k5 := h5
  obtain ⟨z5_0, z5_1, z5_2, z5_3, z5_4, z5_5, z5_6, rfl, i5_0, i5_1, i5_2, i5_3, i5_4, i5_5, i5_6⟩ := open_mark (hval 5 23 v5 rfl rfl) h5
  refine (smoothNew_walk a0 w0 a1 w1 a2 w2 a3 w3 a4 w4 z5_0 z5_1 z5_2 z5_3 z5_4 z5_5 z5_6 i5_0 i5_1 i5_2 i5_3 i5_4 i5_5 i5_6 W).mono fun e W' ⟨he, hg⟩ => ?_
  subst he
  exact ⟨_, rfl, post_of_same (pv := []) hW (fun _ _ _ => (trodAll_cons_mk (shut_bool Try.underlying4 _) trodAll_mk0)) (fun sp hsp => (trodAll_cons_mk (stay (by kernel_rfl) (of_decide_eq_true (by kernel_rfl)) k0 hg hlt (fun x hx => by first | (simp at hx; done) | simp [hx]) hsp) (trodAll_cons_mk (stay (by kernel_rfl) (of_decide_eq_true (by kernel_rfl)) k1 hg hlt (fun x hx => by first | (simp at hx; done) | simp [hx]) hsp) (trodAll_cons_mk (stay (by kernel_rfl) (of_decide_eq_true (by kernel_rfl)) k2 hg hlt (fun x hx => by first | (simp at hx; done) | simp [hx]) hsp) (trodAll_cons_mk (stay (by kernel_rfl) (of_decide_eq_true (by kernel_rfl)) k3 hg hlt (fun x hx => by first | (simp at hx; done) | simp [hx]) hsp) (trodAll_cons_mk (stay (by kernel_rfl) (of_decide_eq_true (by kernel_rfl)) k4 hg hlt (fun x hx => by first | (simp at hx; done) | simp [hx]) hsp) (trodAll_cons_mk (stay (by kernel_rfl) (of_decide_eq_true (by kernel_rfl)) k5 hg hlt (fun x hx => by first | (simp at hx; done) | simp [hx]) hsp) trodAll_mk0))))))) (fun _ _ => rfl) rfl
    (hg.grown.frame _) hg.grown.2.1 (ok_one (by kernel_rfl) rfl (okWide_bool_mk Try.underlying4 _))⟩

theorem smoothNew_over : Rows.smoothNewRow.holds Try.pinned (OpenSpec.ofChange Rows.smoothNewSpec) :=
  OpenClaim.holds_of_wide 3 Try.f3 rfl rfl rfl rfl rfl rfl rfl ⟨rfl, rfl, rfl, rfl, rfl⟩ rfl rfl rfl rfl rfl (by kernel_rfl) Try.func3 (by kernel_rfl)
    (of_decide_eq_true (by kernel_rfl)) (by unfold Func.isWrapper; first | (rw [if_pos (by decide +kernel)]; kernel_rfl) | (rw [if_neg (by decide +kernel)]; exact ⟨rfl, rfl⟩))
    (fun os started H enc _ => smoothNew_lifted os started H enc)

theorem smoothNew_holds : Rows.SmoothNewSaid :=
  smoothNew_over
end Go.Proofs.Ytafkoddgefcpnaa
