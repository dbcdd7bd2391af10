/- Proved: for every two states the law ExtremeMerges returns true: Merge of package extreme answers as the reference does. Conditions: none. -/
import Derived.Test.YtfcknhpllhkpeaaRows
import Derived.Test.YtfcknhpllhkpeaaZUFrameq92
import Derived.Test.YtfcknhpllhkpeaaZUSameq87
namespace Go.Proofs.Ytfcknhpllhkpeaa
open Go.ChangeShapes Go.WideShapes Go.ChangeAt Go.RowKit Go.Joins
set_option linter.unusedVariables false

theorem extremeMerges_own : ownKnob Try.prog.godebug = none := by kernel_rfl

set_option maxHeartbeats 16000000 in
set_option maxRecDepth 100000 in
theorem extremeMerges_walk (mx : Bool) (v c now : Int) (n k : Nat) (A : Option Addr) (L : List It) (hk : n ≤ k) (mx' : Bool) (v' c' now' : Int) (m j : Nat) (B : Option Addr) (M : List It) (hj : m ≤ j) (w : World) (hS : Sl w A n L) (hT : Sl w B m M) :
    Calls Try.prog 5 #[.agg #[.bool mx, .int .i64 v, .int .i64 c, .int .i64 now, .slice A n k], .agg #[.bool mx', .int .i64 v', .int .i64 c', .int .i64 now', .slice B m j]] w fun e w' => e = .returned (.bool true) ∧ Up w w' := by
  have KA := Lib.hid awake17_up
  have KF := Lib.hid (few17_up mx v c now n k A)
  have KG := Lib.hid (few17_up mx' v' c' now' m j B)
  by_cases hf : (n : Int) ≤ 200
  case neg =>
    rw [decide_eq_false hf] at KF
    clear hS hk hT hj
    go_enter Try.func5, Try.ntmps5
    go_wp2_with (first
      | (go_at_call 13; (with_reducible refine (KF.out _).mono ?_); rintro e w1 ⟨rfl, hu⟩; obtain ⟨U1, E1⟩ := call2 w hu; clear hu)
      | (go_at_call 12; (with_reducible refine (KA.out _).mono ?_); rintro e w3 ⟨rfl, hu⟩; have HU3 := Lib.hid (U1.out.trans hu); clear hu))
    go_ret
    exact ⟨rfl, HU3.out⟩
  rw [decide_eq_true hf] at KF
  by_cases hg : (m : Int) ≤ 200
  case neg =>
    rw [decide_eq_false hg] at KG
    clear hS hk hT hj
    go_enter Try.func5, Try.ntmps5
    go_wp2_with (first
      | (go_at_call 13; (with_reducible refine (KF.out _).mono ?_); rintro e w1 ⟨rfl, hu⟩; obtain ⟨U1, E1⟩ := call2 w hu; clear hu)
      | (go_at_call 13; (with_reducible refine (KG.out _).mono ?_); rintro e w2 ⟨rfl, hu⟩; obtain ⟨U2, E2⟩ := call2 w hu; clear hu)
      | (go_at_call 12; (with_reducible refine (KA.out _).mono ?_); rintro e w3 ⟨rfl, hu⟩; have HU3 := Lib.hid (U2.out.trans hu); clear hu))
    go_ret
    exact ⟨rfl, HU3.out⟩
  rw [decide_eq_true hg] at KG
  have HS := Lib.hid hS
  have HT := Lib.hid hT
  have hn : n ≤ 40000 := by omega
  have hm : m ≤ 40000 := by omega
  obtain ⟨ab, av, ac, aw, aX, ae, h1⟩ : ∃ z0 z1 z2 z3 zX ze, mgX mx v c now L mx' v' c' now' M = ((z0, z1, z2, z3, zX, ze) : QX) := ⟨_, _, _, _, _, _, rfl⟩
  have al : aX.length ≤ 1000000 := by have q := mgX_len mx v c now L mx' v' c' now' M; rw [h1] at q; exact Nat.le_trans q (by rw [hS.1, hT.1]; omega)
  have K1 := Lib.hid (fun W (hS : Sl W A n L) (hT : Sl W B m M) => (merge17_up mx v c now n k A L mx' v' c' now' m j B M hn hm hk hj W hS hT).mono (fun e w' (h : RsX _ W e w') => by rw [h1] at h; exact h.t.of))
  have K2 := Lib.hid (fun W (hS : Sl W A n L) (hT : Sl W B m M) => (rmerge17_up mx v c now n k A L mx' v' c' now' m j B M hn hm hk hj W hS hT).mono (fun e w' (h : RsX _ W e w') => by rw [h1] at h; exact h.t.of))
  have K3 := Lib.hid (fun W A1 A2 k1 k2 (hA : Sl W A1 aX.length aX) (hB : Sl W A2 aX.length aX) => same17_t ab av ac aw aX.length k1 k2 A1 A2 aX al W hA hB)
  clear h1 al hS hk hf hT hj hg
  generalize aX.length = an at *
  have tt : (ae == ae) = true := by simp
  go_enter Try.func5, Try.ntmps5
  go_wp2_with (first
      | (go_at_call 13; (with_reducible refine (KF.out _).mono ?_); rintro e w1 ⟨rfl, hu⟩; obtain ⟨U1, E1⟩ := hold2 w w.heap.size (w.heap.size + 1) hu; clear hu)
      | (go_at_call 13; (with_reducible refine (KG.out _).mono ?_); rintro e w2 ⟨rfl, hu⟩; obtain ⟨U2, E2⟩ := hold2 w w.heap.size (w.heap.size + 1) hu; clear hu)
      | (go_at_call 22; (with_reducible refine (K1.out _ (HS.out.up U2.out) (HT.out.up U2.out)).mono ?_); rintro e w3 ⟨A1, k1, rfl, hM1, hu⟩; have HM1 := Lib.hid hM1; obtain ⟨U3, E3⟩ := hold2 w w.heap.size (w.heap.size + 1) hu; clear hu hM1)
      | (go_at_call 23; (with_reducible refine (K2.out _ (HS.out.up (U3.out.alloc _ _)) (HT.out.up (U3.out.alloc _ _))).mono ?_); rintro e w4 ⟨A2, k2, rfl, hM2, hu⟩; have hv := ((Up.refl w3).alloc #[.bool ab, .int .i64 av, .int .i64 ac, .int .i64 aw, .slice A1 an k1] 24).trans hu; have HM1 := Lib.hid (HM1.out.up hv); clear hv; have HM2 := Lib.hid hM2; obtain ⟨U4, E4⟩ := hold3 w w.heap.size (w.heap.size + 1) w3.heap.size hu; clear hu hM2)
      | (go_at_call 11; (with_reducible refine (K3.out _ A1 A2 k1 k2 (HM1.out.up ((Up.refl w4).alloc _ _)) (HM2.out.up ((Up.refl w4).alloc _ _))).mono ?_); rintro e w8 ⟨rfl, hu⟩; have HU8 := Lib.hid ((U4.out.alloc _ _).trans hu); clear hu)
      | (go_at_call 12; (with_reducible refine (KA.out _).mono ?_); rintro e w9 ⟨rfl, hu⟩; have HU9 := Lib.hid (HU8.out.trans hu); clear hu))
  go_ret
  exact ⟨rfl, HU9.out⟩

set_option maxRecDepth 100000 in
theorem extremeMerges_lifted (os : Os) (started : os.Started) (H : Type) (enc : TypeId × Value → H) :
    ReturnsInHanded {} Try.checked os 5 .any (Rows.extremeMergesSpec.pre6 enc Try.prog Try.f5 Rows.extremeMergesRow.domain false) (Rows.extremeMergesSpec.post enc Try.prog Try.f5 false true false false) := by
  refine returnsInHanded_of_change_sized (C := Try.checked) extremeMerges_own started (by kernel_rfl) Try.func5
    (ChangeSpec.witness6 (enc := enc) (C := Try.checked) false ⟨#[], #[.agg #[.bool false, .int .i64 0, .int .i64 0, .int .i64 0, .slice none 0 0], .agg #[.bool false, .int .i64 0, .int .i64 0, .int .i64 0, .slice none 0 0]], []⟩ 8 (by kernel_rfl) (by kernel_rfl) (by kernel_rfl) (by kernel_rfl)) ?_
  intro W base args ds gs before hval0 hW hcnd hsz0 _
  have hval : ∀ (j : Nat) t v, Try.f5.params[j]? = some t → args[j]? = some v → Value.okWide Try.prog W .any base t v := hval0
  have hW' := hW
  obtain ⟨p, q, hA0, hV, rfl, hfz, hnd⟩ := hW'
  have hA : DataW.TrodAll enc Try.prog W 0 (fun _ => true) true Try.f5.params.toList args.toList ds p := hA0
  rw [Try.params5] at hA hval
  obtain ⟨v0, vs0, d0, ds0, p0, q0, hargs, rfl, rfl, h0, r0⟩ := trodAll_cons hA
  obtain ⟨v1, vs1, d1, ds1, p1, q1, rfl, rfl, rfl, h1, r1⟩ := trodAll_cons r0
  obtain ⟨rfl, rfl, rfl⟩ := trodAll_nil r1
  obtain rfl : args = #[v0, v1] := by cases args; simp_all
  obtain ⟨rfl, rfl⟩ := trodVars_none hV
  have hlt := fun x hx => hW.lt x hx
  have k0 := h0
  obtain ⟨mx0, b0, c0, e0, n0, m0, A0, L0, rfl, hk0, hS0⟩ := open_state17 (hval 0 24 v0 rfl rfl) h0
  have k1 := h1
  obtain ⟨mx1, b1, c1, e1, n1, m1, A1, L1, rfl, hk1, hS1⟩ := open_state17 (hval 1 24 v1 rfl rfl) h1
  refine (extremeMerges_walk mx0 b0 c0 e0 n0 m0 A0 L0 hk0 mx1 b1 c1 e1 n1 m1 A1 L1 hk1 W hS0 hS1).mono fun e W' ⟨he, hg⟩ => ?_
  subst he
  exact ⟨_, rfl, post_of_same (pv := []) hW (fun _ _ _ => (trodAll_cons_mk (shut_bool Try.underlying4 _) trodAll_mk0)) (fun sp hsp => (trodAll_cons_mk (stay (by kernel_rfl) (of_decide_eq_true (by kernel_rfl)) k0 hg hlt (fun x hx => by first | (simp at hx; done) | simp [hx]) hsp) (trodAll_cons_mk (stay (by kernel_rfl) (of_decide_eq_true (by kernel_rfl)) k1 hg hlt (fun x hx => by first | (simp at hx; done) | simp [hx]) hsp) trodAll_mk0))) (fun _ _ => rfl) rfl
    (hg.grown.frame _) hg.grown.2.1 (ok_one (by kernel_rfl) rfl (okWide_bool_mk Try.underlying4 _))⟩

theorem extremeMerges_over : Rows.extremeMergesRow.holds Try.pinned (OpenSpec.ofChange Rows.extremeMergesSpec) :=
  OpenClaim.holds_of_wide 5 Try.f5 rfl rfl rfl rfl rfl rfl rfl ⟨rfl, rfl, rfl, rfl, rfl⟩ rfl rfl rfl rfl rfl (by kernel_rfl) Try.func5 (by kernel_rfl)
    (of_decide_eq_true (by kernel_rfl)) (by unfold Func.isWrapper; first | (rw [if_pos (by decide +kernel)]; kernel_rfl) | (rw [if_neg (by decide +kernel)]; exact ⟨rfl, rfl⟩))
    (fun os started H enc _ => extremeMerges_lifted os started H enc)

theorem extremeMerges_holds : Rows.ExtremeMergesSaid :=
  extremeMerges_over
end Go.Proofs.Ytfcknhpllhkpeaa
