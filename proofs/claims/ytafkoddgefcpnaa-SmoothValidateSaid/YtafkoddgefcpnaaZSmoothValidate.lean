/- Proved: for every state the law SmoothValidate returns true: Validate of package smooth answers as the reference does. Conditions: none. -/
import Derived.Test.YtafkoddgefcpnaaRows
import Derived.Test.YtafkoddgefcpnaaZKFrameq146
import Derived.Test.YtafkoddgefcpnaaZKRVdq198
namespace Go.Proofs.Ytafkoddgefcpnaa
open Go.ChangeShapes Go.WideShapes Go.ChangeAt Go.RowKit Go.Joins
set_option linter.unusedVariables false

theorem smoothValidate_own : ownKnob Try.prog.godebug = none := by kernel_rfl

set_option maxHeartbeats 16000000 in
set_option maxRecDepth 100000 in
theorem smoothValidate_walk (g v q c now seq : Int) (n k : Nat) (A : Option Addr) (X : List Mrk) (hk : n ≤ k) (w : World) (hS : SG cM w A n X) :
    Calls Try.prog 4 #[.agg #[.int .i64 g, .int .i64 v, .int .i64 q, .int .i64 c, .int .i64 now, .int .i64 seq, .slice A n k]] w fun e w' => e = .returned (.bool true) ∧ Up w w' := by
  have KA := Lib.hid awake13_up
  have KF := Lib.hid (few13_any g v q c now seq n k A)
  by_cases hf : n ≤ 300
  case neg =>
    rw [decide_eq_false (show ¬ (n : Int) ≤ 300 by omega)] at KF
    clear hS hk
    go_enter Try.func4, Try.ntmps4
    go_wp2_with (first
      | (go_at_call 21; (with_reducible refine (KF.out _).mono ?_); rintro e w1 ⟨rfl, hu⟩; have HU1 := Lib.hid (((Up.refl w).alloc _ _).trans hu); clear hu)
      | (go_at_call 20; (with_reducible refine (KA.out _).mono ?_); rintro e w2 ⟨rfl, hu⟩; have HU2 := Lib.hid (HU1.out.trans hu); clear hu))
    go_ret
    exact ⟨rfl, HU2.out⟩
  rw [decide_eq_true (show (n : Int) ≤ 300 by omega)] at KF
  have HS := Lib.hid hS
  have hn : n ≤ 50000 := by omega
  have K5 := Lib.hid (fun W (h : SG cM W A n X) => validate13_up g v q c now seq n k A X hn W h)
  have K6 := Lib.hid (fun W (h : SG cM W A n X) => rvalidate13_up g v q c now seq n k A X hn W h)
  generalize stME g v q c now seq X = y at K5 K6
  have tt1 : (y == y) = true := by simp
  clear hS hk
  go_enter Try.func4, Try.ntmps4
  go_wp2_with (go_at_call 21; (with_reducible refine (KF.out _).mono ?_); rintro e w1 ⟨rfl, hu⟩; have hv := ((Up.refl w).alloc #[.int .i64 g, .int .i64 v, .int .i64 q, .int .i64 c, .int .i64 now, .int .i64 seq, .slice A n k] 26).trans hu; have HV1 := Lib.hid hv; have HU1 := Lib.hid ((Up.refl w).trans hv); have s_1_0 := hu.keep (w.heap.size) 0 (.int .i64 g) (by simp [go_sem]); have s_1_1 := hu.keep (w.heap.size) 1 (.int .i64 v) (by simp [go_sem]); have s_1_2 := hu.keep (w.heap.size) 2 (.int .i64 q) (by simp [go_sem]); have s_1_3 := hu.keep (w.heap.size) 3 (.int .i64 c) (by simp [go_sem]); have s_1_4 := hu.keep (w.heap.size) 4 (.int .i64 now) (by simp [go_sem]); have s_1_5 := hu.keep (w.heap.size) 5 (.int .i64 seq) (by simp [go_sem]); have s_1_6 := hu.keep (w.heap.size) 6 (.slice A n k) (by simp [go_sem]); have ls1 := World.block_lt_of_cell? _ _ s_1_0; clear hu hv )
  have HSS : Hid (Up w w1 ∧ w1.cell? ⟨w.heap.size, 0, none⟩ = some (.int .i64 g) ∧ w1.cell? ⟨w.heap.size, 1, none⟩ = some (.int .i64 v) ∧ w1.cell? ⟨w.heap.size, 2, none⟩ = some (.int .i64 q) ∧ w1.cell? ⟨w.heap.size, 3, none⟩ = some (.int .i64 c) ∧ w1.cell? ⟨w.heap.size, 4, none⟩ = some (.int .i64 now) ∧ w1.cell? ⟨w.heap.size, 5, none⟩ = some (.int .i64 seq) ∧ w1.cell? ⟨w.heap.size, 6, none⟩ = some (.slice A n k)) := Lib.hid ⟨HU1.out, s_1_0, s_1_1, s_1_2, s_1_3, s_1_4, s_1_5, s_1_6⟩
  clear s_1_0 s_1_1 s_1_2 s_1_3 s_1_4 s_1_5 s_1_6
  go_region_held3 (fun w' => Up w w' ∧ w'.cell? ⟨w.heap.size, 0, none⟩ = some (.int .i64 g) ∧ w'.cell? ⟨w.heap.size, 1, none⟩ = some (.int .i64 v) ∧ w'.cell? ⟨w.heap.size, 2, none⟩ = some (.int .i64 q) ∧ w'.cell? ⟨w.heap.size, 3, none⟩ = some (.int .i64 c) ∧ w'.cell? ⟨w.heap.size, 4, none⟩ = some (.int .i64 now) ∧ w'.cell? ⟨w.heap.size, 5, none⟩ = some (.int .i64 seq) ∧ w'.cell? ⟨w.heap.size, 6, none⟩ = some (.slice A n k))
    (repeat (first | (with_reducible exact HSS.out) | (with_reducible exact keepK7 (by assumption) (by assumption)) | (with_reducible exact Hid.out (by assumption)) | (with_reducible refine keepK7 (Lib.hid (Up.refl _).drew) ?_)))
    (first
      | (go_at_call 22; (with_reducible refine (K5.out _ (HS.out.up (by assumption : Up w _ ∧ _).1)).mono ?_); rintro e v6 ⟨rfl, hu⟩; have HU8 := Lib.hid hu; have HX8 := Lib.hid (keepK7 HU8 (by assumption)); clear hu)
      | (go_at_call 23; (with_reducible refine (K6.out _ (HS.out.up (by assumption : Up w _ ∧ _).1)).mono ?_); rintro e v7 ⟨rfl, hu⟩; have HU9 := Lib.hid hu; have HX9 := Lib.hid (keepK7 HU9 (by assumption)); clear hu)
      | (go_at_call 20; (with_reducible refine (KA.out _).mono ?_); rintro e v10 ⟨rfl, hu⟩; have HU12 := Lib.hid hu; have HX12 := Lib.hid (keepK7 HU12 (by assumption)); clear hu))
  clear ‹Up w _ ∧ _›
  go_wp2_with fail
  go_ret
  exact ⟨rfl, HX12.out.1⟩

set_option maxRecDepth 100000 in
theorem smoothValidate_lifted (os : Os) (started : os.Started) (H : Type) (enc : TypeId × Value → H) :
    ReturnsInHanded {} Try.checked os 4 .any (Rows.smoothValidateSpec.pre6 enc Try.prog Try.f4 Rows.smoothValidateRow.domain false) (Rows.smoothValidateSpec.post enc Try.prog Try.f4 false true false false) := by
  refine returnsInHanded_of_change_sized (C := Try.checked) smoothValidate_own started (by kernel_rfl) Try.func4
    (ChangeSpec.witness6 (enc := enc) (C := Try.checked) false ⟨#[], #[.agg #[.int .i64 0, .int .i64 0, .int .i64 0, .int .i64 0, .int .i64 0, .int .i64 0, .slice none 0 0]], []⟩ 8 (by kernel_rfl) (by kernel_rfl) (by kernel_rfl) (by kernel_rfl)) ?_
  intro W base args ds gs before hval0 hW hcnd hsz0 _
  have hval : ∀ (j : Nat) t v, Try.f4.params[j]? = some t → args[j]? = some v → Value.okWide Try.prog W .any base t v := hval0
  have hW' := hW
  obtain ⟨p, q, hA0, hV, rfl, hfz, hnd⟩ := hW'
  have hA : DataW.TrodAll enc Try.prog W 0 (fun _ => true) true Try.f4.params.toList args.toList ds p := hA0
  rw [Try.params4] at hA hval
  obtain ⟨v0, vs0, d0, ds0, p0, q0, hargs, rfl, rfl, h0, r0⟩ := trodAll_cons hA
  obtain ⟨rfl, rfl, rfl⟩ := trodAll_nil r0
  obtain rfl : args = #[v0] := by cases args; simp_all
  obtain ⟨rfl, rfl⟩ := trodVars_none hV
  have hlt := fun x hx => hW.lt x hx
  have k0 := h0
  obtain ⟨b0, c0, e0, l0, o0, r_0, n0, m0, A0, L0, rfl, hk0, hS0⟩ := open_state13 (hval 0 26 v0 rfl rfl) h0
  refine (smoothValidate_walk b0 c0 e0 l0 o0 r_0 n0 m0 A0 L0 hk0 W hS0).mono fun e W' ⟨he, hg⟩ => ?_
  subst he
  exact ⟨_, rfl, post_of_same (pv := []) hW (fun _ _ _ => (trodAll_cons_mk (shut_bool Try.underlying4 _) trodAll_mk0)) (fun sp hsp => (trodAll_cons_mk (stay (by kernel_rfl) (of_decide_eq_true (by kernel_rfl)) k0 hg hlt (fun x hx => by first | (simp at hx; done) | simp [hx]) hsp) trodAll_mk0)) (fun _ _ => rfl) rfl
    (hg.grown.frame _) hg.grown.2.1 (ok_one (by kernel_rfl) rfl (okWide_bool_mk Try.underlying4 _))⟩

theorem smoothValidate_over : Rows.smoothValidateRow.holds Try.pinned (OpenSpec.ofChange Rows.smoothValidateSpec) :=
  OpenClaim.holds_of_wide 4 Try.f4 rfl rfl rfl rfl rfl rfl rfl ⟨rfl, rfl, rfl, rfl, rfl⟩ rfl rfl rfl rfl rfl (by kernel_rfl) Try.func4 (by kernel_rfl)
    (of_decide_eq_true (by kernel_rfl)) (by unfold Func.isWrapper; first | (rw [if_pos (by decide +kernel)]; kernel_rfl) | (rw [if_neg (by decide +kernel)]; exact ⟨rfl, rfl⟩))
    (fun os started H enc _ => smoothValidate_lifted os started H enc)

theorem smoothValidate_holds : Rows.SmoothValidateSaid :=
  smoothValidate_over
end Go.Proofs.Ytafkoddgefcpnaa
