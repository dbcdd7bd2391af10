/- Proved: for every window, K, capacity and tick the law SpreadNew returns true: New and Most of package spread answer as the reference does. Conditions: none. -/
import Derived.Test.YtafkoddgefcpnaaRows
import Derived.Test.YtafkoddgefcpnaaZLAllq334
namespace Go.Proofs.Ytafkoddgefcpnaa
open Go.ChangeShapes Go.WideShapes Go.ChangeAt Go.RowKit Go.Joins
set_option linter.unusedVariables false

theorem spreadNew_own : ownKnob Try.prog.godebug = none := by kernel_rfl

set_option maxHeartbeats 16000000 in
set_option maxRecDepth 100000 in
theorem spreadNew_walk (v : Int) (_ : (Lit.int .i64 v).wf = true) (q : Int) (_ : (Lit.int .i64 q).wf = true) (c : Int) (_ : (Lit.int .i64 c).wf = true) (now : Int) (_ : (Lit.int .i64 now).wf = true) (w : World) :
    Calls Try.prog 10 #[.int .i64 v, .int .i64 q, .int .i64 c, .int .i64 now] w fun e w' => e = .returned (.bool true) ∧ Up w w' := by
  have KA := Lib.hid awake14_up
  obtain ⟨a0, a1, a2, a3, a4, e0, k1, k2⟩ := new14_both v q c now
  have K1 := Lib.hid k1
  have K2 := Lib.hid k2
  have K5 := Lib.hid (most14_any q c)
  have K6 := Lib.hid (rmost14_any q c)
  have K7 := Lib.hid (fun W => same14_t a0 a1 a2 a3 a4 0 0 0 none none [] (by omega) W SG.none_ SG.none_)
  generalize mostS q c = z at *
  clear k1 k2
  have tt1 : (e0 == e0) = true := by simp
  have tt3 : (z == z) = true := by simp
  go_enter Try.func10, Try.ntmps10
  go_wp2_with (first
    | (go_at_call 39; (with_reducible refine (K1.out _).mono ?_); rintro e w1 ⟨rfl, hu⟩; have hv := (Up.refl w).trans hu; have HV1 := Lib.hid hv; have HU1 := Lib.hid ((Up.refl w).trans hv); clear hu hv )
    | (go_at_call 40; (with_reducible refine (K2.out _).mono ?_); rintro e w2 ⟨rfl, hu⟩; have hv := ((Up.refl w1).alloc #[.int .i64 a0, .int .i64 a1, .int .i64 a2, .int .i64 a3, .int .i64 a4, .slice none 0 0] 61).trans hu; have HV2 := Lib.hid hv; have HU2 := Lib.hid (HU1.out.trans hv); have r_2_0 := hu.keep (w1.heap.size) 0 (.int .i64 a0) (by simp [go_sem]); have r_2_1 := hu.keep (w1.heap.size) 1 (.int .i64 a1) (by simp [go_sem]); have r_2_2 := hu.keep (w1.heap.size) 2 (.int .i64 a2) (by simp [go_sem]); have r_2_3 := hu.keep (w1.heap.size) 3 (.int .i64 a3) (by simp [go_sem]); have r_2_4 := hu.keep (w1.heap.size) 4 (.int .i64 a4) (by simp [go_sem]); have r_2_5 := hu.keep (w1.heap.size) 5 (.slice none 0 0) (by simp [go_sem]); have lr2 := World.block_lt_of_cell? _ _ r_2_0; clear hu hv )
    | (go_at_call 41; (with_reducible refine (K7.out _).mono ?_); rintro e w3 ⟨rfl, hu⟩; have hv := ((Up.refl w2).alloc #[.int .i64 a0, .int .i64 a1, .int .i64 a2, .int .i64 a3, .int .i64 a4, .slice none 0 0] 61).trans hu; have HV3 := Lib.hid hv; have HU3 := Lib.hid (HU2.out.trans hv); have r_3_0 := hv.keep _ _ _ r_2_0; have r_3_1 := hv.keep _ _ _ r_2_1; have r_3_2 := hv.keep _ _ _ r_2_2; have r_3_3 := hv.keep _ _ _ r_2_3; have r_3_4 := hv.keep _ _ _ r_2_4; have r_3_5 := hv.keep _ _ _ r_2_5; have t_3_0 := hu.keep (w2.heap.size) 0 (.int .i64 a0) (by simp [go_sem]); have t_3_1 := hu.keep (w2.heap.size) 1 (.int .i64 a1) (by simp [go_sem]); have t_3_2 := hu.keep (w2.heap.size) 2 (.int .i64 a2) (by simp [go_sem]); have t_3_3 := hu.keep (w2.heap.size) 3 (.int .i64 a3) (by simp [go_sem]); have t_3_4 := hu.keep (w2.heap.size) 4 (.int .i64 a4) (by simp [go_sem]); have t_3_5 := hu.keep (w2.heap.size) 5 (.slice none 0 0) (by simp [go_sem]); have lr3 := World.block_lt_of_cell? _ _ r_3_0; have lt3 := World.block_lt_of_cell? _ _ t_3_0; clear hu hv lr2 r_2_0 r_2_1 r_2_2 r_2_3 r_2_4 r_2_5)
    | (go_at_call 44; (with_reducible refine (KA.out _).mono ?_); rintro e w4 ⟨rfl, hu⟩; have hv := (Up.refl w3).trans hu; have HV4 := Lib.hid hv; have HU4 := Lib.hid (HU3.out.trans hv); have r_4_0 := hv.keep _ _ _ r_3_0; have r_4_1 := hv.keep _ _ _ r_3_1; have r_4_2 := hv.keep _ _ _ r_3_2; have r_4_3 := hv.keep _ _ _ r_3_3; have r_4_4 := hv.keep _ _ _ r_3_4; have r_4_5 := hv.keep _ _ _ r_3_5; have t_4_0 := hv.keep _ _ _ t_3_0; have t_4_1 := hv.keep _ _ _ t_3_1; have t_4_2 := hv.keep _ _ _ t_3_2; have t_4_3 := hv.keep _ _ _ t_3_3; have t_4_4 := hv.keep _ _ _ t_3_4; have t_4_5 := hv.keep _ _ _ t_3_5; have lr4 := World.block_lt_of_cell? _ _ r_4_0; have lt4 := World.block_lt_of_cell? _ _ t_4_0; clear hu hv lr3 r_3_0 r_3_1 r_3_2 r_3_3 r_3_4 r_3_5 lt3 t_3_0 t_3_1 t_3_2 t_3_3 t_3_4 t_3_5)
    | (go_at_call 42; (with_reducible refine (K5.out _).mono ?_); rintro e w' ⟨rfl, rfl⟩)
    | (go_at_call 43; (with_reducible refine (K6.out _).mono ?_); rintro e w' ⟨rfl, rfl⟩))
  go_ret
  exact ⟨rfl, HU4.out⟩

set_option maxRecDepth 100000 in
theorem spreadNew_lifted (os : Os) (started : os.Started) (H : Type) (enc : TypeId × Value → H) :
    ReturnsInHanded {} Try.checked os 10 .any (Rows.spreadNewSpec.pre6 enc Try.prog Try.f10 Rows.spreadNewRow.domain false) (Rows.spreadNewSpec.post enc Try.prog Try.f10 false true false false) := by
  refine returnsInHanded_of_change_sized (C := Try.checked) spreadNew_own started (by kernel_rfl) Try.func10
    (ChangeSpec.witness6 (enc := enc) (C := Try.checked) false ⟨#[], #[.int .i64 0, .int .i64 0, .int .i64 0, .int .i64 0], []⟩ 8 (by kernel_rfl) (by kernel_rfl) (by kernel_rfl) (by kernel_rfl)) ?_
  intro W base args ds gs before hval0 hW hcnd hsz0 _
  have hval : ∀ (j : Nat) t v, Try.f10.params[j]? = some t → args[j]? = some v → Value.okWide Try.prog W .any base t v := hval0
  have hW' := hW
  obtain ⟨p, q, hA0, hV, rfl, hfz, hnd⟩ := hW'
  have hA : DataW.TrodAll enc Try.prog W 0 (fun _ => true) true Try.f10.params.toList args.toList ds p := hA0
  rw [Try.params10] at hA hval
  obtain ⟨v0, vs0, d0, ds0, p0, q0, hargs, rfl, rfl, h0, r0⟩ := trodAll_cons hA
  obtain ⟨v1, vs1, d1, ds1, p1, q1, rfl, rfl, rfl, h1, r1⟩ := trodAll_cons r0
  obtain ⟨v2, vs2, d2, ds2, p2, q2, rfl, rfl, rfl, h2, r2⟩ := trodAll_cons r1
  obtain ⟨v3, vs3, d3, ds3, p3, q3, rfl, rfl, rfl, h3, r3⟩ := trodAll_cons r2
  obtain ⟨rfl, rfl, rfl⟩ := trodAll_nil r3
  obtain rfl : args = #[v0, v1, v2, v3] := by cases args; simp_all
  obtain ⟨rfl, rfl⟩ := trodVars_none hV
  have hlt := fun x hx => hW.lt x hx
  have k0 := h0
  obtain ⟨a0, rfl, rfl, rfl, w0⟩ := open_int Try.underlying2 (hval 0 2 v0 rfl rfl) h0
  have k1 := h1
  obtain ⟨a1, rfl, rfl, rfl, w1⟩ := open_int Try.underlying3 (hval 1 3 v1 rfl rfl) h1
  have k2 := h2
  obtain ⟨a2, rfl, rfl, rfl, w2⟩ := open_int Try.underlying3 (hval 2 3 v2 rfl rfl) h2
  have k3 := h3
  obtain ⟨a3, rfl, rfl, rfl, w3⟩ := open_int Try.underlying2 (hval 3 2 v3 rfl rfl) h3
  refine (spreadNew_walk a0 w0 a1 w1 a2 w2 a3 w3 W).mono fun e W' ⟨he, hg⟩ => ?_
  subst he
  exact ⟨_, rfl, post_of_same (pv := []) hW (fun _ _ _ => (trodAll_cons_mk (shut_bool Try.underlying4 _) trodAll_mk0)) (fun sp hsp => (trodAll_cons_mk (stay (by kernel_rfl) (of_decide_eq_true (by kernel_rfl)) k0 hg hlt (fun x hx => by first | (simp at hx; done) | simp [hx]) hsp) (trodAll_cons_mk (stay (by kernel_rfl) (of_decide_eq_true (by kernel_rfl)) k1 hg hlt (fun x hx => by first | (simp at hx; done) | simp [hx]) hsp) (trodAll_cons_mk (stay (by kernel_rfl) (of_decide_eq_true (by kernel_rfl)) k2 hg hlt (fun x hx => by first | (simp at hx; done) | simp [hx]) hsp) (trodAll_cons_mk (stay (by kernel_rfl) (of_decide_eq_true (by kernel_rfl)) k3 hg hlt (fun x hx => by first | (simp at hx; done) | simp [hx]) hsp) trodAll_mk0))))) (fun _ _ => rfl) rfl
    (hg.grown.frame _) hg.grown.2.1 (ok_one (by kernel_rfl) rfl (okWide_bool_mk Try.underlying4 _))⟩

theorem spreadNew_over : Rows.spreadNewRow.holds Try.pinned (OpenSpec.ofChange Rows.spreadNewSpec) :=
  OpenClaim.holds_of_wide 10 Try.f10 rfl rfl rfl rfl rfl rfl rfl ⟨rfl, rfl, rfl, rfl, rfl⟩ rfl rfl rfl rfl rfl (by kernel_rfl) Try.func10 (by kernel_rfl)
    (of_decide_eq_true (by kernel_rfl)) (by unfold Func.isWrapper; first | (rw [if_pos (by decide +kernel)]; kernel_rfl) | (rw [if_neg (by decide +kernel)]; exact ⟨rfl, rfl⟩))
    (fun os started H enc _ => spreadNew_lifted os started H enc)

theorem spreadNew_holds : Rows.SpreadNewSaid :=
  spreadNew_over
end Go.Proofs.Ytafkoddgefcpnaa
