/- Proved: for every state and value the law SmoothAdd returns true: Add of package smooth answers as the reference does. Conditions: none. -/
import Derived.Test.YtafkoddgefcpnaaRows
import Derived.Test.YtafkoddgefcpnaaZKAllq266
import Derived.Test.YtafkoddgefcpnaaZKFrameq146
namespace Go.Proofs.Ytafkoddgefcpnaa
open Go.ChangeShapes Go.WideShapes Go.ChangeAt Go.RowKit Go.Joins
set_option linter.unusedVariables false

theorem smoothAdd_own : ownKnob Try.prog.godebug = none := by kernel_rfl

set_option maxHeartbeats 16000000 in
set_option maxRecDepth 100000 in
theorem smoothAdd_walk (g v q c now seq : Int) (n k : Nat) (A : Option Addr) (X : List Mrk) (hk : n ≤ k) (d : Int) (_ : (Lit.int .i64 d).wf = true) (w : World) (hS : SG cM w A n X) :
    Calls Try.prog 6 #[.agg #[.int .i64 g, .int .i64 v, .int .i64 q, .int .i64 c, .int .i64 now, .int .i64 seq, .slice A n k], .int .i64 d] w fun e w' => e = .returned (.bool true) ∧ Up w w' := by
  have KA := Lib.hid awake13_up
  have KF := Lib.hid (few13_any g v q c now seq n k A)
  by_cases hf : n ≤ 300
  case neg =>
    rw [decide_eq_false (show ¬ (n : Int) ≤ 300 by omega)] at KF
    clear hS hk
    go_enter Try.func6, Try.ntmps6
    go_wp2_with (first
      | (go_at_call 21; (with_reducible refine (KF.out _).mono ?_); rintro e w1 ⟨rfl, hu⟩; have HU1 := Lib.hid (((Up.refl w).alloc _ _).trans hu); clear hu)
      | (go_at_call 20; (with_reducible refine (KA.out _).mono ?_); rintro e w2 ⟨rfl, hu⟩; have HU2 := Lib.hid (HU1.out.trans hu); clear hu))
    go_ret
    exact ⟨rfl, HU2.out⟩
  rw [decide_eq_true (show (n : Int) ≤ 300 by omega)] at KF
  have HS := Lib.hid hS
  have hn : n ≤ 50000 := by omega
  obtain ⟨a0, a1, a2, a3, a4, a5, M, e0, h1⟩ : ∃ a0 a1 a2 a3 a4 a5 M e0, addM g v q c now seq d X = (a0, a1, a2, a3, a4, a5, M, e0) := ⟨_, _, _, _, _, _, _, _, rfl⟩
  have K1 := Lib.hid (fun W (h : SG cM W A n X) => add13_all g v q c now seq d n k A X hn hk h1 W h)
  have K2 := Lib.hid (fun W (h : SG cM W A n X) => radd13_all g v q c now seq d n k A X hn hk h1 W h)
  have K7 := Lib.hid (fun W A1 A2 k1 k2 (hl : M.length ≤ 1000000) (hA : SG cM W A1 M.length M) (hB : SG cM W A2 M.length M) => same13_t a0 a1 a2 a3 a4 a5 M.length k1 k2 A1 A2 M hl W hA hB)
  clear h1 hS hk
  generalize M.length = m at *
  have tt1 : (e0 == e0) = true := by simp
  go_enter Try.func6, Try.ntmps6
  go_wp2_with (first
    | (go_at_call 21; (with_reducible refine (KF.out _).mono ?_); rintro e w1 ⟨rfl, hu⟩; have hv := ((Up.refl w).alloc #[.int .i64 g, .int .i64 v, .int .i64 q, .int .i64 c, .int .i64 now, .int .i64 seq, .slice A n k] 26).trans hu; have HV1 := Lib.hid hv; have HU1 := Lib.hid ((Up.refl w).trans hv); have s_1_0 := hu.keep (w.heap.size) 0 (.int .i64 g) (by simp [go_sem]); have s_1_1 := hu.keep (w.heap.size) 1 (.int .i64 v) (by simp [go_sem]); have s_1_2 := hu.keep (w.heap.size) 2 (.int .i64 q) (by simp [go_sem]); have s_1_3 := hu.keep (w.heap.size) 3 (.int .i64 c) (by simp [go_sem]); have s_1_4 := hu.keep (w.heap.size) 4 (.int .i64 now) (by simp [go_sem]); have s_1_5 := hu.keep (w.heap.size) 5 (.int .i64 seq) (by simp [go_sem]); have s_1_6 := hu.keep (w.heap.size) 6 (.slice A n k) (by simp [go_sem]); have ls1 := World.block_lt_of_cell? _ _ s_1_0; clear hu hv )
    | (go_at_call 26; (with_reducible refine (K1.out _ (HS.out.up HU1.out)).mono ?_); rintro e w2 ⟨A1, k1, rfl, hq1, hM1, hu⟩; have hv := (Up.refl w1).trans hu; have HV2 := Lib.hid hv; have HU2 := Lib.hid (HU1.out.trans hv); have s_2_0 := hv.keep _ _ _ s_1_0; have s_2_1 := hv.keep _ _ _ s_1_1; have s_2_2 := hv.keep _ _ _ s_1_2; have s_2_3 := hv.keep _ _ _ s_1_3; have s_2_4 := hv.keep _ _ _ s_1_4; have s_2_5 := hv.keep _ _ _ s_1_5; have s_2_6 := hv.keep _ _ _ s_1_6; have ls2 := World.block_lt_of_cell? _ _ s_2_0; have HM1 := Lib.hid hM1; have HQ1 := Lib.hid hq1; clear hM1 hq1; clear hu hv ls1 s_1_0 s_1_1 s_1_2 s_1_3 s_1_4 s_1_5 s_1_6)
    | (go_at_call 27; (with_reducible refine (K2.out _ (HS.out.up (HU2.out.alloc _ _))).mono ?_); rintro e w3 ⟨A2, k2, rfl, hq2, hM2, hu⟩; have hv := ((Up.refl w2).alloc #[.int .i64 a0, .int .i64 a1, .int .i64 a2, .int .i64 a3, .int .i64 a4, .int .i64 a5, .slice A1 m k1] 26).trans hu; have HV3 := Lib.hid hv; have HU3 := Lib.hid (HU2.out.trans hv); have s_3_0 := hv.keep _ _ _ s_2_0; have s_3_1 := hv.keep _ _ _ s_2_1; have s_3_2 := hv.keep _ _ _ s_2_2; have s_3_3 := hv.keep _ _ _ s_2_3; have s_3_4 := hv.keep _ _ _ s_2_4; have s_3_5 := hv.keep _ _ _ s_2_5; have s_3_6 := hv.keep _ _ _ s_2_6; have r_3_0 := hu.keep (w2.heap.size) 0 (.int .i64 a0) (by simp [go_sem]); have r_3_1 := hu.keep (w2.heap.size) 1 (.int .i64 a1) (by simp [go_sem]); have r_3_2 := hu.keep (w2.heap.size) 2 (.int .i64 a2) (by simp [go_sem]); have r_3_3 := hu.keep (w2.heap.size) 3 (.int .i64 a3) (by simp [go_sem]); have r_3_4 := hu.keep (w2.heap.size) 4 (.int .i64 a4) (by simp [go_sem]); have r_3_5 := hu.keep (w2.heap.size) 5 (.int .i64 a5) (by simp [go_sem]); have r_3_6 := hu.keep (w2.heap.size) 6 (.slice A1 m k1) (by simp [go_sem]); have ls3 := World.block_lt_of_cell? _ _ s_3_0; have lr3 := World.block_lt_of_cell? _ _ r_3_0; have HM2 := Lib.hid hM2; clear hM2 hq2; clear hu hv ls2 s_2_0 s_2_1 s_2_2 s_2_3 s_2_4 s_2_5 s_2_6)
    | (go_at_call 15; (with_reducible refine (K7.out _ A1 A2 k1 k2 (by have := HQ1.out; omega) ((HM1.out.up HV3.out).up ((Up.refl _).alloc _ _)) (HM2.out.up ((Up.refl _).alloc _ _))).mono ?_); rintro e w4 ⟨rfl, hu⟩; have hv := ((Up.refl w3).alloc #[.int .i64 a0, .int .i64 a1, .int .i64 a2, .int .i64 a3, .int .i64 a4, .int .i64 a5, .slice A2 m k2] 26).trans hu; have HV4 := Lib.hid hv; have HU4 := Lib.hid (HU3.out.trans hv); have s_4_0 := hv.keep _ _ _ s_3_0; have s_4_1 := hv.keep _ _ _ s_3_1; have s_4_2 := hv.keep _ _ _ s_3_2; have s_4_3 := hv.keep _ _ _ s_3_3; have s_4_4 := hv.keep _ _ _ s_3_4; have s_4_5 := hv.keep _ _ _ s_3_5; have s_4_6 := hv.keep _ _ _ s_3_6; have r_4_0 := hv.keep _ _ _ r_3_0; have r_4_1 := hv.keep _ _ _ r_3_1; have r_4_2 := hv.keep _ _ _ r_3_2; have r_4_3 := hv.keep _ _ _ r_3_3; have r_4_4 := hv.keep _ _ _ r_3_4; have r_4_5 := hv.keep _ _ _ r_3_5; have r_4_6 := hv.keep _ _ _ r_3_6; have t_4_0 := hu.keep (w3.heap.size) 0 (.int .i64 a0) (by simp [go_sem]); have t_4_1 := hu.keep (w3.heap.size) 1 (.int .i64 a1) (by simp [go_sem]); have t_4_2 := hu.keep (w3.heap.size) 2 (.int .i64 a2) (by simp [go_sem]); have t_4_3 := hu.keep (w3.heap.size) 3 (.int .i64 a3) (by simp [go_sem]); have t_4_4 := hu.keep (w3.heap.size) 4 (.int .i64 a4) (by simp [go_sem]); have t_4_5 := hu.keep (w3.heap.size) 5 (.int .i64 a5) (by simp [go_sem]); have t_4_6 := hu.keep (w3.heap.size) 6 (.slice A2 m k2) (by simp [go_sem]); have ls4 := World.block_lt_of_cell? _ _ s_4_0; have lr4 := World.block_lt_of_cell? _ _ r_4_0; have lt4 := World.block_lt_of_cell? _ _ t_4_0; clear hu hv ls3 s_3_0 s_3_1 s_3_2 s_3_3 s_3_4 s_3_5 s_3_6 lr3 r_3_0 r_3_1 r_3_2 r_3_3 r_3_4 r_3_5 r_3_6)
    | (go_at_call 20; (with_reducible refine (KA.out _).mono ?_); rintro e w5 ⟨rfl, hu⟩; have hv := (Up.refl w4).trans hu; have HV5 := Lib.hid hv; have HU5 := Lib.hid (HU4.out.trans hv); have s_5_0 := hv.keep _ _ _ s_4_0; have s_5_1 := hv.keep _ _ _ s_4_1; have s_5_2 := hv.keep _ _ _ s_4_2; have s_5_3 := hv.keep _ _ _ s_4_3; have s_5_4 := hv.keep _ _ _ s_4_4; have s_5_5 := hv.keep _ _ _ s_4_5; have s_5_6 := hv.keep _ _ _ s_4_6; have r_5_0 := hv.keep _ _ _ r_4_0; have r_5_1 := hv.keep _ _ _ r_4_1; have r_5_2 := hv.keep _ _ _ r_4_2; have r_5_3 := hv.keep _ _ _ r_4_3; have r_5_4 := hv.keep _ _ _ r_4_4; have r_5_5 := hv.keep _ _ _ r_4_5; have r_5_6 := hv.keep _ _ _ r_4_6; have t_5_0 := hv.keep _ _ _ t_4_0; have t_5_1 := hv.keep _ _ _ t_4_1; have t_5_2 := hv.keep _ _ _ t_4_2; have t_5_3 := hv.keep _ _ _ t_4_3; have t_5_4 := hv.keep _ _ _ t_4_4; have t_5_5 := hv.keep _ _ _ t_4_5; have t_5_6 := hv.keep _ _ _ t_4_6; have ls5 := World.block_lt_of_cell? _ _ s_5_0; have lr5 := World.block_lt_of_cell? _ _ r_5_0; have lt5 := World.block_lt_of_cell? _ _ t_5_0; clear hu hv ls4 s_4_0 s_4_1 s_4_2 s_4_3 s_4_4 s_4_5 s_4_6 lr4 r_4_0 r_4_1 r_4_2 r_4_3 r_4_4 r_4_5 r_4_6 lt4 t_4_0 t_4_1 t_4_2 t_4_3 t_4_4 t_4_5 t_4_6))
  go_ret
  exact ⟨rfl, HU5.out⟩

set_option maxRecDepth 100000 in
theorem smoothAdd_lifted (os : Os) (started : os.Started) (H : Type) (enc : TypeId × Value → H) :
    ReturnsInHanded {} Try.checked os 6 .any (Rows.smoothAddSpec.pre6 enc Try.prog Try.f6 Rows.smoothAddRow.domain false) (Rows.smoothAddSpec.post enc Try.prog Try.f6 false true false false) := by
  refine returnsInHanded_of_change_sized (C := Try.checked) smoothAdd_own started (by kernel_rfl) Try.func6
    (ChangeSpec.witness6 (enc := enc) (C := Try.checked) false ⟨#[], #[.agg #[.int .i64 0, .int .i64 0, .int .i64 0, .int .i64 0, .int .i64 0, .int .i64 0, .slice none 0 0], .int .i64 0], []⟩ 8 (by kernel_rfl) (by kernel_rfl) (by kernel_rfl) (by kernel_rfl)) ?_
  intro W base args ds gs before hval0 hW hcnd hsz0 _
  have hval : ∀ (j : Nat) t v, Try.f6.params[j]? = some t → args[j]? = some v → Value.okWide Try.prog W .any base t v := hval0
  have hW' := hW
  obtain ⟨p, q, hA0, hV, rfl, hfz, hnd⟩ := hW'
  have hA : DataW.TrodAll enc Try.prog W 0 (fun _ => true) true Try.f6.params.toList args.toList ds p := hA0
  rw [Try.params6] at hA hval
  obtain ⟨v0, vs0, d0, ds0, p0, q0, hargs, rfl, rfl, h0, r0⟩ := trodAll_cons hA
  obtain ⟨v1, vs1, d1, ds1, p1, q1, rfl, rfl, rfl, h1, r1⟩ := trodAll_cons r0
  obtain ⟨rfl, rfl, rfl⟩ := trodAll_nil r1
  obtain rfl : args = #[v0, v1] := by cases args; simp_all
  obtain ⟨rfl, rfl⟩ := trodVars_none hV
  have hlt := fun x hx => hW.lt x hx
  have k0 := h0
  obtain ⟨b0, c0, e0, l0, o0, r_0, n0, m0, A0, L0, rfl, hk0, hS0⟩ := open_state13 (hval 0 26 v0 rfl rfl) h0
  have k1 := h1
  obtain ⟨a1, rfl, rfl, rfl, w1⟩ := open_int Try.underlying2 (hval 1 2 v1 rfl rfl) h1
  refine (smoothAdd_walk b0 c0 e0 l0 o0 r_0 n0 m0 A0 L0 hk0 a1 w1 W hS0).mono fun e W' ⟨he, hg⟩ => ?_
  subst he
  exact ⟨_, rfl, post_of_same (pv := []) hW (fun _ _ _ => (trodAll_cons_mk (shut_bool Try.underlying4 _) trodAll_mk0)) (fun sp hsp => (trodAll_cons_mk (stay (by kernel_rfl) (of_decide_eq_true (by kernel_rfl)) k0 hg hlt (fun x hx => by first | (simp at hx; done) | simp [hx]) hsp) (trodAll_cons_mk (stay (by kernel_rfl) (of_decide_eq_true (by kernel_rfl)) k1 hg hlt (fun x hx => by first | (simp at hx; done) | simp [hx]) hsp) trodAll_mk0))) (fun _ _ => rfl) rfl
    (hg.grown.frame _) hg.grown.2.1 (ok_one (by kernel_rfl) rfl (okWide_bool_mk Try.underlying4 _))⟩

theorem smoothAdd_over : Rows.smoothAddRow.holds Try.pinned (OpenSpec.ofChange Rows.smoothAddSpec) :=
  OpenClaim.holds_of_wide 6 Try.f6 rfl rfl rfl rfl rfl rfl rfl ⟨rfl, rfl, rfl, rfl, rfl⟩ rfl rfl rfl rfl rfl (by kernel_rfl) Try.func6 (by kernel_rfl)
    (of_decide_eq_true (by kernel_rfl)) (by unfold Func.isWrapper; first | (rw [if_pos (by decide +kernel)]; kernel_rfl) | (rw [if_neg (by decide +kernel)]; exact ⟨rfl, rfl⟩))
    (fun os started H enc _ => smoothAdd_lifted os started H enc)

theorem smoothAdd_holds : Rows.SmoothAddSaid :=
  smoothAdd_over
end Go.Proofs.Ytafkoddgefcpnaa
