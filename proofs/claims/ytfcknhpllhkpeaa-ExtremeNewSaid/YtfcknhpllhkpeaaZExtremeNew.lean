/- Proved: for every flag, window, capacity and tick the law ExtremeNew returns true: New of package extreme answers as the reference does. Conditions: none. -/
import Derived.Test.YtfcknhpllhkpeaaRows
import Derived.Test.YtfcknhpllhkpeaaZUSameq88
namespace Go.Proofs.Ytfcknhpllhkpeaa
open Go.ChangeShapes Go.WideShapes Go.ChangeAt Go.RowKit Go.Joins
set_option linter.unusedVariables false

theorem extremeNew_own : ownKnob Try.prog.godebug = none := by kernel_rfl

set_option maxHeartbeats 16000000 in
set_option maxRecDepth 100000 in
theorem extremeNew_walk (mx : Bool) (v : Int) (_ : (Lit.int .i64 v).wf = true) (c : Int) (_ : (Lit.int .i64 c).wf = true) (now : Int) (_ : (Lit.int .i64 now).wf = true) (w : World) :
    Calls Try.prog 3 #[.bool mx, .int .i64 v, .int .i64 c, .int .i64 now] w fun e w' => e = .returned (.bool true) ∧ Up w w' := by
  have KA := Lib.hid awake17_up
  obtain ⟨ab, av, ac, aw, aX, ae, h1⟩ : ∃ z0 z1 z2 z3 zX ze, nwX mx v c now = ((z0, z1, z2, z3, zX, ze) : QX) := ⟨_, _, _, _, _, _, rfl⟩
  have al : aX.length ≤ 1000000 := by have q := nwX_len mx v c now; rw [h1] at q; exact Nat.le_trans q (by omega)
  have K1 := Lib.hid (fun W => (new17_up mx v c now W).mono (fun e w' (h : RsX _ W e w') => by rw [h1] at h; exact h.t.of))
  have K2 := Lib.hid (fun W => (rnew17_up mx v c now W).mono (fun e w' (h : RsX _ W e w') => by rw [h1] at h; exact h.t.of))
  have K3 := Lib.hid (fun W A1 A2 k1 k2 (hA : Sl W A1 aX.length aX) (hB : Sl W A2 aX.length aX) => same17_t ab av ac aw aX.length k1 k2 A1 A2 aX al W hA hB)
  clear h1 al
  generalize aX.length = an at *
  have tt : (ae == ae) = true := by simp
  go_enter Try.func3, Try.ntmps3
  go_wp2_with (first
      | (go_at_call 9; (with_reducible refine (K1.out _).mono ?_); rintro e w1 ⟨A1, k1, rfl, hM1, hu⟩; have HM1 := Lib.hid hM1; have U1 := Lib.hid hu; clear hu hM1)
      | (go_at_call 10; (with_reducible refine (K2.out _).mono ?_); rintro e w2 ⟨A2, k2, rfl, hM2, hu⟩; have hv := ((Up.refl w1).alloc #[.bool ab, .int .i64 av, .int .i64 ac, .int .i64 aw, .slice A1 an k1] 24).trans hu; have HM1 := Lib.hid (HM1.out.up hv); clear hv; have HM2 := Lib.hid hM2; obtain ⟨U2, E2⟩ := hold1 w w1.heap.size hu; clear hu hM2)
      | (go_at_call 11; (with_reducible refine (K3.out _ A1 A2 k1 k2 (HM1.out.up ((Up.refl w2).alloc _ _)) (HM2.out.up ((Up.refl w2).alloc _ _))).mono ?_); rintro e w8 ⟨rfl, hu⟩; have HU8 := Lib.hid ((U2.out.alloc _ _).trans hu); clear hu)
      | (go_at_call 12; (with_reducible refine (KA.out _).mono ?_); rintro e w9 ⟨rfl, hu⟩; have HU9 := Lib.hid (HU8.out.trans hu); clear hu))
  go_ret
  exact ⟨rfl, HU9.out⟩

set_option maxRecDepth 100000 in
theorem extremeNew_lifted (os : Os) (started : os.Started) (H : Type) (enc : TypeId × Value → H) :
    ReturnsInHanded {} Try.checked os 3 .any (Rows.extremeNewSpec.pre6 enc Try.prog Try.f3 Rows.extremeNewRow.domain false) (Rows.extremeNewSpec.post enc Try.prog Try.f3 false true false false) := by
  refine returnsInHanded_of_change_sized (C := Try.checked) extremeNew_own started (by kernel_rfl) Try.func3
    (ChangeSpec.witness6 (enc := enc) (C := Try.checked) false ⟨#[], #[.bool false, .int .i64 0, .int .i64 0, .int .i64 0], []⟩ 8 (by kernel_rfl) (by kernel_rfl) (by kernel_rfl) (by kernel_rfl)) ?_
  intro W base args ds gs before hval0 hW hcnd hsz0 _
  have hval : ∀ (j : Nat) t v, Try.f3.params[j]? = some t → args[j]? = some v → Value.okWide Try.prog W .any base t v := hval0
  have hW' := hW
  obtain ⟨p, q, hA0, hV, rfl, hfz, hnd⟩ := hW'
  have hA : DataW.TrodAll enc Try.prog W 0 (fun _ => true) true Try.f3.params.toList args.toList ds p := hA0
  rw [Try.params3] at hA hval
  obtain ⟨v0, vs0, d0, ds0, p0, q0, hargs, rfl, rfl, h0, r0⟩ := trodAll_cons hA
  obtain ⟨v1, vs1, d1, ds1, p1, q1, rfl, rfl, rfl, h1, r1⟩ := trodAll_cons r0
  obtain ⟨v2, vs2, d2, ds2, p2, q2, rfl, rfl, rfl, h2, r2⟩ := trodAll_cons r1
  obtain ⟨v3, vs3, d3, ds3, p3, q3, rfl, rfl, rfl, h3, r3⟩ := trodAll_cons r2
  obtain ⟨rfl, rfl, rfl⟩ := trodAll_nil r3
  obtain rfl : args = #[v0, v1, v2, v3] := by cases args; simp_all
  obtain ⟨rfl, rfl⟩ := trodVars_none hV
  have hlt := fun x hx => hW.lt x hx
  have k0 := h0
  obtain ⟨a0, rfl, rfl, rfl⟩ := Go.RowKit.open_bool Try.underlying4 (hval 0 4 v0 rfl rfl) h0
  have k1 := h1
  obtain ⟨a1, rfl, rfl, rfl, w1⟩ := open_int Try.underlying2 (hval 1 2 v1 rfl rfl) h1
  have k2 := h2
  obtain ⟨a2, rfl, rfl, rfl, w2⟩ := open_int Try.underlying3 (hval 2 3 v2 rfl rfl) h2
  have k3 := h3
  obtain ⟨a3, rfl, rfl, rfl, w3⟩ := open_int Try.underlying2 (hval 3 2 v3 rfl rfl) h3
  refine (extremeNew_walk a0 a1 w1 a2 w2 a3 w3 W).mono fun e W' ⟨he, hg⟩ => ?_
  subst he
  exact ⟨_, rfl, post_of_same (pv := []) hW (fun _ _ _ => (trodAll_cons_mk (shut_bool Try.underlying4 _) trodAll_mk0)) (fun sp hsp => (trodAll_cons_mk (stay (by kernel_rfl) (of_decide_eq_true (by kernel_rfl)) k0 hg hlt (fun x hx => by first | (simp at hx; done) | simp [hx]) hsp) (trodAll_cons_mk (stay (by kernel_rfl) (of_decide_eq_true (by kernel_rfl)) k1 hg hlt (fun x hx => by first | (simp at hx; done) | simp [hx]) hsp) (trodAll_cons_mk (stay (by kernel_rfl) (of_decide_eq_true (by kernel_rfl)) k2 hg hlt (fun x hx => by first | (simp at hx; done) | simp [hx]) hsp) (trodAll_cons_mk (stay (by kernel_rfl) (of_decide_eq_true (by kernel_rfl)) k3 hg hlt (fun x hx => by first | (simp at hx; done) | simp [hx]) hsp) trodAll_mk0))))) (fun _ _ => rfl) rfl
    (hg.grown.frame _) hg.grown.2.1 (ok_one (by kernel_rfl) rfl (okWide_bool_mk Try.underlying4 _))⟩

theorem extremeNew_over : Rows.extremeNewRow.holds Try.pinned (OpenSpec.ofChange Rows.extremeNewSpec) :=
  OpenClaim.holds_of_wide 3 Try.f3 rfl rfl rfl rfl rfl rfl rfl ⟨rfl, rfl, rfl, rfl, rfl⟩ rfl rfl rfl rfl rfl (by kernel_rfl) Try.func3 (by kernel_rfl)
    (of_decide_eq_true (by kernel_rfl)) (by unfold Func.isWrapper; first | (rw [if_pos (by decide +kernel)]; kernel_rfl) | (rw [if_neg (by decide +kernel)]; exact ⟨rfl, rfl⟩))
    (fun os started H enc _ => extremeNew_lifted os started H enc)

theorem extremeNew_holds : Rows.ExtremeNewSaid :=
  extremeNew_over
end Go.Proofs.Ytfcknhpllhkpeaa
