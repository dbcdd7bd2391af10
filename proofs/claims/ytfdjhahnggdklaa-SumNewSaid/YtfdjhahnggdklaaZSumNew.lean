/- Proved: for any width, K, capacity, greatest value and tick the law SumNew returns true: New of package sum answers as the reference does. Conditions: none. -/
import Derived.Test.YtfdjhahnggdklaaRows
import Derived.Test.YtfdjhahnggdklaaZGBasem8
import Derived.Test.YtfdjhahnggdklaaZGLawm3
import Derived.Test.YtfdjhahnggdklaaZHRowm3
import Derived.Test.YtfdjhahnggdklaaZHSamem5
import Derived.Test.YtfdjhahnggdklaaZHSmallm7
import Derived.Test.YtfdjhahnggdklaaZJAwk
import Derived.Test.YtfdjhahnggdklaaZJBase
import Derived.Test.YtfdjhahnggdklaaZJSt
import Derived.Test.YtfdjhahnggdklaaZREasym4
import Derived.Test.YtfdjhahnggdklaaZWCmpm5
import Derived.Test.YtfdjhahnggdklaaZWGcd
import Derived.Test.YtfdjhahnggdklaaZWMathm9
import Derived.Test.YtfdjhahnggdklaaZWRDiv2
namespace Go.Proofs.Ytfdjhahnggdklaa
open Go.ChangeShapes Go.WideShapes Go.ChangeAt Go.RowKit Go.Joins
set_option linter.unusedVariables false

theorem sumNew_own : ownKnob Try.prog.godebug = none := by kernel_rfl

set_option maxHeartbeats 4000000 in
set_option maxRecDepth 100000 in
theorem sumNew_walk (v : Int) (_ : (Lit.int .i64 v).wf = true) (q : Int) (_ : (Lit.int .i64 q).wf = true) (c : Int) (_ : (Lit.int .i64 c).wf = true) (mx : Int) (_ : (Lit.int .i64 mx).wf = true) (now : Int) (_ : (Lit.int .i64 now).wf = true) (w : World) :
    Calls Try.prog 3 #[.int .i64 v, .int .i64 q, .int .i64 c, .int .i64 mx, .int .i64 now] w fun e w' => e = .returned (.bool true) ∧ Up w w' := by
  have KA := Lib.hid awake12_up
  cases hm : mayS v q c mx now with
  | true =>
    have K1 := Lib.hid (fun W => new12_yes v q c mx now hm W)
    have K2 := Lib.hid (fun W => rnew12_yes v q c mx now hm W)
    have KS := Lib.hid (fun W => same12_t v q c mx now 0 0 0 none none [] (by omega) W Sl.none_ Sl.none_)
    clear hm
    go_enter Try.func3, Try.ntmps3
    go_wp2_with (first
      | (go_at_call 8; (with_reducible refine (K1.out _).mono ?_); rintro e w1 ⟨rfl, hu⟩; have HU1 := Lib.hid hu; clear hu)
      | (go_at_call 9; (with_reducible refine (K2.out _).mono ?_); rintro e w2 ⟨rfl, hu⟩; have HU2 := Lib.hid ((HU1.out.alloc _ _).trans hu); have c0 := hu.keep w1.heap.size 0 (.int .i64 v) (by simp [go_sem]); have c1 := hu.keep w1.heap.size 1 (.int .i64 q) (by simp [go_sem]); have c2 := hu.keep w1.heap.size 2 (.int .i64 c) (by simp [go_sem]); have c3 := hu.keep w1.heap.size 3 (.int .i64 mx) (by simp [go_sem]); have c4 := hu.keep w1.heap.size 4 (.int .i64 now) (by simp [go_sem]); have c5 := hu.keep w1.heap.size 5 (.slice none 0 0) (by simp [go_sem]); have hl : w1.heap.size < w2.heap.size := World.block_lt_of_cell? _ _ c0; clear hu)
      | (go_at_call 10; (with_reducible refine (KS.out _).mono ?_); rintro e w3 ⟨rfl, hu⟩; have HU3 := Lib.hid ((HU2.out.alloc _ _).trans hu); clear hu)
      | (go_at_call 11; (with_reducible refine (KA.out _).mono ?_); rintro e w4 ⟨rfl, hu⟩; have HU4 := Lib.hid (HU3.out.trans hu); clear hu))
    go_ret
    exact ⟨rfl, HU4.out⟩
  | false =>
    have K1 := Lib.hid (fun W => new12_no v q c mx now hm W)
    have K2 := Lib.hid (fun W => rnew12_no v q c mx now hm W)
    have KS := Lib.hid (fun W => same12_t 0 0 0 0 0 0 0 0 none none [] (by omega) W Sl.none_ Sl.none_)
    clear hm
    go_enter Try.func3, Try.ntmps3
    go_wp2_with (first
      | (go_at_call 8; (with_reducible refine (K1.out _).mono ?_); rintro e w1 ⟨rfl, hu⟩; have HU1 := Lib.hid hu; clear hu)
      | (go_at_call 9; (with_reducible refine (K2.out _).mono ?_); rintro e w2 ⟨rfl, hu⟩; have HU2 := Lib.hid ((HU1.out.alloc _ _).trans hu); have c0 := hu.keep w1.heap.size 0 (.int .i64 0) (by simp [go_sem]); have c1 := hu.keep w1.heap.size 1 (.int .i64 0) (by simp [go_sem]); have c2 := hu.keep w1.heap.size 2 (.int .i64 0) (by simp [go_sem]); have c3 := hu.keep w1.heap.size 3 (.int .i64 0) (by simp [go_sem]); have c4 := hu.keep w1.heap.size 4 (.int .i64 0) (by simp [go_sem]); have c5 := hu.keep w1.heap.size 5 (.slice none 0 0) (by simp [go_sem]); have hl : w1.heap.size < w2.heap.size := World.block_lt_of_cell? _ _ c0; clear hu)
      | (go_at_call 10; (with_reducible refine (KS.out _).mono ?_); rintro e w3 ⟨rfl, hu⟩; have HU3 := Lib.hid ((HU2.out.alloc _ _).trans hu); clear hu)
      | (go_at_call 11; (with_reducible refine (KA.out _).mono ?_); rintro e w4 ⟨rfl, hu⟩; have HU4 := Lib.hid (HU3.out.trans hu); clear hu))
    go_ret
    exact ⟨rfl, HU4.out⟩

set_option maxRecDepth 100000 in
theorem sumNew_lifted (os : Os) (started : os.Started) (H : Type) (enc : TypeId × Value → H) :
    ReturnsInHanded {} Try.checked os 3 .any (Rows.sumNewSpec.pre6 enc Try.prog Try.f3 Rows.sumNewRow.domain false) (Rows.sumNewSpec.post enc Try.prog Try.f3 false true false false) := by
  refine returnsInHanded_of_change_sized (C := Try.checked) sumNew_own started (by kernel_rfl) Try.func3
    (ChangeSpec.witness6 (enc := enc) (C := Try.checked) false ⟨#[], #[.int .i64 0, .int .i64 0, .int .i64 0, .int .i64 0, .int .i64 0], []⟩ 8 (by kernel_rfl) (by kernel_rfl) (by kernel_rfl) (by kernel_rfl)) ?_
  intro W base args ds gs before hval0 hW hcnd hsz0 _
  have hval : ∀ (j : Nat) t v, Try.f3.params[j]? = some t → args[j]? = some v → Value.okWide Try.prog W .any base t v := hval0
  have hW' := hW
  obtain ⟨p, q, hA0, hV, rfl, hfz, hnd⟩ := hW'
  have hA : DataW.TrodAll enc Try.prog W 0 (fun _ => true) true Try.f3.params.toList args.toList ds p := hA0
  rw [Try.params3] at hA hval
  obtain ⟨v0, vs0, d0, ds0, p0, q0, hargs, rfl, rfl, h0, r0⟩ := trodAll_cons hA
  obtain ⟨v1, vs1, d1, ds1, p1, q1, rfl, rfl, rfl, h1, r1⟩ := trodAll_cons r0
  obtain ⟨v2, vs2, d2, ds2, p2, q2, rfl, rfl, rfl, h2, r2⟩ := trodAll_cons r1
  obtain ⟨v3, vs3, d3, ds3, p3, q3, rfl, rfl, rfl, h3, r3⟩ := trodAll_cons r2
  obtain ⟨v4, vs4, d4, ds4, p4, q4, rfl, rfl, rfl, h4, r4⟩ := trodAll_cons r3
  obtain ⟨rfl, rfl, rfl⟩ := trodAll_nil r4
  obtain rfl : args = #[v0, v1, v2, v3, v4] := by cases args; simp_all
  obtain ⟨rfl, rfl⟩ := trodVars_none hV
  have hlt := fun x hx => hW.lt x hx
  have k0 := h0
  obtain ⟨a0, rfl, rfl, rfl, w0⟩ := open_int Try.underlying2 (hval 0 2 v0 rfl rfl) h0
  have k1 := h1
  obtain ⟨a1, rfl, rfl, rfl, w1⟩ := open_int Try.underlying3 (hval 1 3 v1 rfl rfl) h1
  have k2 := h2
  obtain ⟨a2, rfl, rfl, rfl, w2⟩ := open_int Try.underlying3 (hval 2 3 v2 rfl rfl) h2
  have k3 := h3
  obtain ⟨a3, rfl, rfl, rfl, w3⟩ := open_int Try.underlying3 (hval 3 3 v3 rfl rfl) h3
  have k4 := h4
  obtain ⟨a4, rfl, rfl, rfl, w4⟩ := open_int Try.underlying2 (hval 4 2 v4 rfl rfl) h4
  refine (sumNew_walk a0 w0 a1 w1 a2 w2 a3 w3 a4 w4 W).mono fun e W' ⟨he, hg⟩ => ?_
  subst he
  exact ⟨_, rfl, post_of_same (pv := []) hW (fun _ _ _ => (trodAll_cons_mk (shut_bool Try.underlying4 _) trodAll_mk0)) (fun sp hsp => (trodAll_cons_mk (stay (by kernel_rfl) (of_decide_eq_true (by kernel_rfl)) k0 hg hlt (fun x hx => by first | (simp at hx; done) | simp [hx]) hsp) (trodAll_cons_mk (stay (by kernel_rfl) (of_decide_eq_true (by kernel_rfl)) k1 hg hlt (fun x hx => by first | (simp at hx; done) | simp [hx]) hsp) (trodAll_cons_mk (stay (by kernel_rfl) (of_decide_eq_true (by kernel_rfl)) k2 hg hlt (fun x hx => by first | (simp at hx; done) | simp [hx]) hsp) (trodAll_cons_mk (stay (by kernel_rfl) (of_decide_eq_true (by kernel_rfl)) k3 hg hlt (fun x hx => by first | (simp at hx; done) | simp [hx]) hsp) (trodAll_cons_mk (stay (by kernel_rfl) (of_decide_eq_true (by kernel_rfl)) k4 hg hlt (fun x hx => by first | (simp at hx; done) | simp [hx]) hsp) trodAll_mk0)))))) (fun _ _ => rfl) rfl
    (hg.grown.frame _) hg.grown.2.1 (ok_one (by kernel_rfl) rfl (okWide_bool_mk Try.underlying4 _))⟩

theorem sumNew_over : Rows.sumNewRow.holds Try.pinned (OpenSpec.ofChange Rows.sumNewSpec) :=
  OpenClaim.holds_of_wide 3 Try.f3 rfl rfl rfl rfl rfl rfl rfl ⟨rfl, rfl, rfl, rfl, rfl⟩ rfl rfl rfl rfl rfl (by kernel_rfl) Try.func3 (by kernel_rfl)
    (of_decide_eq_true (by kernel_rfl)) (by unfold Func.isWrapper; first | (rw [if_pos (by decide +kernel)]; kernel_rfl) | (rw [if_neg (by decide +kernel)]; exact ⟨rfl, rfl⟩))
    (fun os started H enc _ => sumNew_lifted os started H enc)

theorem sumNew_holds : Rows.SumNewSaid :=
  sumNew_over
#print axioms sumNew_holds
end Go.Proofs.Ytfdjhahnggdklaa
