/- Proved: for every state the law SmoothAsk returns true: Ask of package smooth answers as the reference does. Conditions: none. -/
import Derived.Test.YtafkoddgefcpnaaRows
import Derived.Test.YtafkoddgefcpnaaZHEqq271
import Derived.Test.YtafkoddgefcpnaaZKAskq246
import Derived.Test.YtafkoddgefcpnaaZKFrameq146
namespace Go.Proofs.Ytafkoddgefcpnaa
open Go.ChangeShapes Go.WideShapes Go.ChangeAt Go.RowKit Go.Joins
set_option linter.unusedVariables false

theorem smoothAsk_own : ownKnob Try.prog.godebug = none := by kernel_rfl

set_option maxHeartbeats 16000000 in
set_option maxRecDepth 100000 in
theorem smoothAsk_walk (g v q c now seq : Int) (n k : Nat) (A : Option Addr) (X : List Mrk) (hk : n ≤ k) (w : World) (hS : SG cM w A n X) :
    Calls Try.prog 7 #[.agg #[.int .i64 g, .int .i64 v, .int .i64 q, .int .i64 c, .int .i64 now, .int .i64 seq, .slice A n k]] w fun e w' => e = .returned (.bool true) ∧ Up w w' := by
  have KA := Lib.hid awake13_up
  have KF := Lib.hid (few13_any g v q c now seq n k A)
  by_cases hf : n ≤ 300
  case neg =>
    rw [decide_eq_false (show ¬ (n : Int) ≤ 300 by omega)] at KF
    clear hS hk
    go_enter Try.func7, Try.ntmps7
    go_wp2_with (first
      | (go_at_call 21; (with_reducible refine (KF.out _).mono ?_); rintro e w1 ⟨rfl, hu⟩; have HU1 := Lib.hid (((Up.refl w).alloc _ _).trans hu); clear hu)
      | (go_at_call 20; (with_reducible refine (KA.out _).mono ?_); rintro e w2 ⟨rfl, hu⟩; have HU2 := Lib.hid (HU1.out.trans hu); clear hu))
    go_ret
    exact ⟨rfl, HU2.out⟩
  rw [decide_eq_true (show (n : Int) ≤ 300 by omega)] at KF
  have HS := Lib.hid hS
  have hn : n ≤ 50000 := by omega
  have KK1 := Lib.hid (fun W (h : SG cM W A n X) => ask13_up g v q c now seq n k A X hn W h)
  have KK2 := Lib.hid (fun W (h : SG cM W A n X) => rask13_up g v q c now seq n k A X hn W h)
  obtain ⟨x0, x1, x2, x3, x4, x5, e2, h3⟩ := akM_agg (stM g v q c now seq X) (asM g now v X)
  rw [h3] at KK1 KK2
  clear h3 hS hk
  have tt1 : (e2 == e2) = true := by simp
  have qe := fun W => eqB6 x0 x1 x2 x3 x4 x5 W
  go_enter Try.func7, Try.ntmps7
  go_wp2_with (first
    | (go_at_call 21; (with_reducible refine (KF.out _).mono ?_); rintro e w1 ⟨rfl, hu⟩; have hv := ((Up.refl w).alloc #[.int .i64 g, .int .i64 v, .int .i64 q, .int .i64 c, .int .i64 now, .int .i64 seq, .slice A n k] 26).trans hu; have HV1 := Lib.hid hv; have HU1 := Lib.hid ((Up.refl w).trans hv); have s_1_0 := hu.keep (w.heap.size) 0 (.int .i64 g) (by simp [go_sem]); have s_1_1 := hu.keep (w.heap.size) 1 (.int .i64 v) (by simp [go_sem]); have s_1_2 := hu.keep (w.heap.size) 2 (.int .i64 q) (by simp [go_sem]); have s_1_3 := hu.keep (w.heap.size) 3 (.int .i64 c) (by simp [go_sem]); have s_1_4 := hu.keep (w.heap.size) 4 (.int .i64 now) (by simp [go_sem]); have s_1_5 := hu.keep (w.heap.size) 5 (.int .i64 seq) (by simp [go_sem]); have s_1_6 := hu.keep (w.heap.size) 6 (.slice A n k) (by simp [go_sem]); have ls1 := World.block_lt_of_cell? _ _ s_1_0; clear hu hv )
    | (go_at_call 28; (with_reducible refine (KK1.out _ (HS.out.up HU1.out)).mono ?_); rintro e w2 ⟨rfl, hu⟩; have hv := (Up.refl w1).trans hu; have HV2 := Lib.hid hv; have HU2 := Lib.hid (HU1.out.trans hv); have s_2_0 := hv.keep _ _ _ s_1_0; have s_2_1 := hv.keep _ _ _ s_1_1; have s_2_2 := hv.keep _ _ _ s_1_2; have s_2_3 := hv.keep _ _ _ s_1_3; have s_2_4 := hv.keep _ _ _ s_1_4; have s_2_5 := hv.keep _ _ _ s_1_5; have s_2_6 := hv.keep _ _ _ s_1_6; have ls2 := World.block_lt_of_cell? _ _ s_2_0; clear hu hv ls1 s_1_0 s_1_1 s_1_2 s_1_3 s_1_4 s_1_5 s_1_6)
    | (go_at_call 29; (with_reducible refine (KK2.out _ (HS.out.up (HU2.out.alloc _ _))).mono ?_); rintro e w3 ⟨rfl, hu⟩; have hv := ((Up.refl w2).alloc #[.int .i64 x0, .int .i64 x1, .int .i64 x2, .int .i64 x3, .int .i64 x4, .int .i64 x5] 42).trans hu; have HV3 := Lib.hid hv; have HU3 := Lib.hid (HU2.out.trans hv); have s_3_0 := hv.keep _ _ _ s_2_0; have s_3_1 := hv.keep _ _ _ s_2_1; have s_3_2 := hv.keep _ _ _ s_2_2; have s_3_3 := hv.keep _ _ _ s_2_3; have s_3_4 := hv.keep _ _ _ s_2_4; have s_3_5 := hv.keep _ _ _ s_2_5; have s_3_6 := hv.keep _ _ _ s_2_6; have r_3_0 := hu.keep (w2.heap.size) 0 (.int .i64 x0) (by simp [go_sem]); have r_3_1 := hu.keep (w2.heap.size) 1 (.int .i64 x1) (by simp [go_sem]); have r_3_2 := hu.keep (w2.heap.size) 2 (.int .i64 x2) (by simp [go_sem]); have r_3_3 := hu.keep (w2.heap.size) 3 (.int .i64 x3) (by simp [go_sem]); have r_3_4 := hu.keep (w2.heap.size) 4 (.int .i64 x4) (by simp [go_sem]); have r_3_5 := hu.keep (w2.heap.size) 5 (.int .i64 x5) (by simp [go_sem]); have ls3 := World.block_lt_of_cell? _ _ s_3_0; have lr3 := World.block_lt_of_cell? _ _ r_3_0; clear hu hv ls2 s_2_0 s_2_1 s_2_2 s_2_3 s_2_4 s_2_5 s_2_6)
    | (go_at_call 20; (with_reducible refine (KA.out _).mono ?_); rintro e w4 ⟨rfl, hu⟩; have hv := ((Up.refl w3).alloc #[.int .i64 x0, .int .i64 x1, .int .i64 x2, .int .i64 x3, .int .i64 x4, .int .i64 x5] 42).trans hu; have HV4 := Lib.hid hv; have HU4 := Lib.hid (HU3.out.trans hv); have s_4_0 := hv.keep _ _ _ s_3_0; have s_4_1 := hv.keep _ _ _ s_3_1; have s_4_2 := hv.keep _ _ _ s_3_2; have s_4_3 := hv.keep _ _ _ s_3_3; have s_4_4 := hv.keep _ _ _ s_3_4; have s_4_5 := hv.keep _ _ _ s_3_5; have s_4_6 := hv.keep _ _ _ s_3_6; have r_4_0 := hv.keep _ _ _ r_3_0; have r_4_1 := hv.keep _ _ _ r_3_1; have r_4_2 := hv.keep _ _ _ r_3_2; have r_4_3 := hv.keep _ _ _ r_3_3; have r_4_4 := hv.keep _ _ _ r_3_4; have r_4_5 := hv.keep _ _ _ r_3_5; have t_4_0 := hu.keep (w3.heap.size) 0 (.int .i64 x0) (by simp [go_sem]); have t_4_1 := hu.keep (w3.heap.size) 1 (.int .i64 x1) (by simp [go_sem]); have t_4_2 := hu.keep (w3.heap.size) 2 (.int .i64 x2) (by simp [go_sem]); have t_4_3 := hu.keep (w3.heap.size) 3 (.int .i64 x3) (by simp [go_sem]); have t_4_4 := hu.keep (w3.heap.size) 4 (.int .i64 x4) (by simp [go_sem]); have t_4_5 := hu.keep (w3.heap.size) 5 (.int .i64 x5) (by simp [go_sem]); have ls4 := World.block_lt_of_cell? _ _ s_4_0; have lr4 := World.block_lt_of_cell? _ _ r_4_0; have lt4 := World.block_lt_of_cell? _ _ t_4_0; clear hu hv ls3 s_3_0 s_3_1 s_3_2 s_3_3 s_3_4 s_3_5 s_3_6 lr3 r_3_0 r_3_1 r_3_2 r_3_3 r_3_4 r_3_5))
  go_ret
  exact ⟨rfl, HU4.out⟩

set_option maxRecDepth 100000 in
theorem smoothAsk_lifted (os : Os) (started : os.Started) (H : Type) (enc : TypeId × Value → H) :
    ReturnsInHanded {} Try.checked os 7 .any (Rows.smoothAskSpec.pre6 enc Try.prog Try.f7 Rows.smoothAskRow.domain false) (Rows.smoothAskSpec.post enc Try.prog Try.f7 false true false false) := by
  refine returnsInHanded_of_change_sized (C := Try.checked) smoothAsk_own started (by kernel_rfl) Try.func7
    (ChangeSpec.witness6 (enc := enc) (C := Try.checked) false ⟨#[], #[.agg #[.int .i64 0, .int .i64 0, .int .i64 0, .int .i64 0, .int .i64 0, .int .i64 0, .slice none 0 0]], []⟩ 8 (by kernel_rfl) (by kernel_rfl) (by kernel_rfl) (by kernel_rfl)) ?_
  intro W base args ds gs before hval0 hW hcnd hsz0 _
  have hval : ∀ (j : Nat) t v, Try.f7.params[j]? = some t → args[j]? = some v → Value.okWide Try.prog W .any base t v := hval0
  have hW' := hW
  obtain ⟨p, q, hA0, hV, rfl, hfz, hnd⟩ := hW'
  have hA : DataW.TrodAll enc Try.prog W 0 (fun _ => true) true Try.f7.params.toList args.toList ds p := hA0
  rw [Try.params7] at hA hval
  obtain ⟨v0, vs0, d0, ds0, p0, q0, hargs, rfl, rfl, h0, r0⟩ := trodAll_cons hA
  obtain ⟨rfl, rfl, rfl⟩ := trodAll_nil r0
  obtain rfl : args = #[v0] := by cases args; simp_all
  obtain ⟨rfl, rfl⟩ := trodVars_none hV
  have hlt := fun x hx => hW.lt x hx
  have k0 := h0
  obtain ⟨b0, c0, e0, l0, o0, r_0, n0, m0, A0, L0, rfl, hk0, hS0⟩ := open_state13 (hval 0 26 v0 rfl rfl) h0
  refine (smoothAsk_walk b0 c0 e0 l0 o0 r_0 n0 m0 A0 L0 hk0 W hS0).mono fun e W' ⟨he, hg⟩ => ?_
  subst he
  exact ⟨_, rfl, post_of_same (pv := []) hW (fun _ _ _ => (trodAll_cons_mk (shut_bool Try.underlying4 _) trodAll_mk0)) (fun sp hsp => (trodAll_cons_mk (stay (by kernel_rfl) (of_decide_eq_true (by kernel_rfl)) k0 hg hlt (fun x hx => by first | (simp at hx; done) | simp [hx]) hsp) trodAll_mk0)) (fun _ _ => rfl) rfl
    (hg.grown.frame _) hg.grown.2.1 (ok_one (by kernel_rfl) rfl (okWide_bool_mk Try.underlying4 _))⟩

theorem smoothAsk_over : Rows.smoothAskRow.holds Try.pinned (OpenSpec.ofChange Rows.smoothAskSpec) :=
  OpenClaim.holds_of_wide 7 Try.f7 rfl rfl rfl rfl rfl rfl rfl ⟨rfl, rfl, rfl, rfl, rfl⟩ rfl rfl rfl rfl rfl (by kernel_rfl) Try.func7 (by kernel_rfl)
    (of_decide_eq_true (by kernel_rfl)) (by unfold Func.isWrapper; first | (rw [if_pos (by decide +kernel)]; kernel_rfl) | (rw [if_neg (by decide +kernel)]; exact ⟨rfl, rfl⟩))
    (fun os started H enc _ => smoothAsk_lifted os started H enc)

theorem smoothAsk_holds : Rows.SmoothAskSaid :=
  smoothAsk_over
end Go.Proofs.Ytafkoddgefcpnaa
