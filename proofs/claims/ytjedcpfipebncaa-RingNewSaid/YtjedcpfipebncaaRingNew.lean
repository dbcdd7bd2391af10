/- Proved: for every capacity the law RingNew returns true: ring.New returns the empty buffer, or ErrArg. Conditions: none. -/
import Derived.Test.YtjedcpfipebncaaRows
import Derived.WalkKit
import Derived.ProofKit
import Derived.OpenShut
import Derived.Lib.SmallJoins
import Derived.Test.YtjedcpfipebncaaGFrame
import Derived.Test.YtjedcpfipebncaaGAwake
import Derived.Test.YtjedcpfipebncaaGSame
namespace Go.Proofs.Ytjedcpfipebncaa
open Go.ChangeShapes Go.WideShapes Go.ChangeAt Go.RowKit Go.Joins
set_option linter.unusedVariables false

theorem ringNew_own : ownKnob Try.prog.godebug = none := by kernel_rfl

set_option maxHeartbeats 4000000 in
set_option maxRecDepth 100000 in
theorem ringNew_walk (n : Int) (hn : (Lit.int .i64 n).wf = true) (w : World) :
    Calls Try.prog 3 #[.int .i64 n] w fun e w' => e = .returned (.bool true) ∧ Up w w' := by
  have KA := Lib.hid awake_up
  clear hn
  by_cases hc : 1 ≤ n ∧ n ≤ 65536
  · obtain ⟨c, rfl⟩ := Int.eq_ofNat_of_zero_le (show 0 ≤ n by omega)
    have K1 := Lib.hid (fun W => new_yes c (by omega) (by omega) W)
    have KV := Lib.hid (fun g W (hB : Bi W g (ofL c 0 [])) => val_good c 0 c (some ⟨g, 0, none⟩) [] (by omega) (by omega) (by omega) (by simp) W (hB.sl (ofL_length _ _ _)))
    simp only [List.length_nil, Int.natCast_zero] at KV
    have t1 : decide ((c : Int) < 1) = false := decide_eq_false (by omega)
    have t2 : decide (65536 < (c : Int)) = false := decide_eq_false (by omega)
    clear hc
    go_enter Try.func3, Try.ntmps3
    go_wp2_with (first
      | (go_at_call 10; (with_reducible refine (K1.out _).mono ?_); rintro e w1 ⟨g, rfl, hg, hb, hu⟩; have HU1 := Lib.hid hu; have HB1 := Lib.hid hb; clear hu hb)
      | (go_at_call 13; (with_reducible refine (KV.out g _ (HB1.out.up ((Up.refl _).alloc _ _))).mono ?_); rintro e w2 ⟨rfl, hu⟩; have HU2 := Lib.hid ((HU1.out.alloc _ _).trans hu); clear hu)
      | (go_at_call 12; (with_reducible refine (KA.out _).mono ?_); rintro e w3 ⟨rfl, hu⟩; have HU3 := Lib.hid (HU2.out.trans hu); clear hu))
    go_ret
    exact ⟨rfl, HU3.out⟩
  · have K1 := Lib.hid (fun W => new_no n hc W)
    have KS := Lib.hid (fun W => same_t 0 0 0 0 0 0 none none [] (by omega) W Sl.none_ Sl.none_)
    by_cases h1 : n < 1
    · have t1 : decide (n < 1) = true := decide_eq_true h1
      clear hc h1
      go_enter Try.func3, Try.ntmps3
      go_wp2_with (first
        | (go_at_call 10; (with_reducible refine (K1.out _).mono ?_); rintro e w1 ⟨rfl, hu⟩; have HU1 := Lib.hid hu; clear hu)
        | (go_at_call 11; (with_reducible refine (KS.out _).mono ?_); rintro e w2 ⟨rfl, hu⟩; have HU2 := Lib.hid ((HU1.out.alloc _ _).trans hu); clear hu)
        | (go_at_call 12; (with_reducible refine (KA.out _).mono ?_); rintro e w3 ⟨rfl, hu⟩; have HU3 := Lib.hid (HU2.out.trans hu); clear hu))
      go_ret
      exact ⟨rfl, HU3.out⟩
    · have t1 : decide (n < 1) = false := decide_eq_false h1
      have t2 : decide (65536 < n) = true := decide_eq_true (by omega)
      clear hc h1
      go_enter Try.func3, Try.ntmps3
      go_wp2_with (first
        | (go_at_call 10; (with_reducible refine (K1.out _).mono ?_); rintro e w1 ⟨rfl, hu⟩; have HU1 := Lib.hid hu; clear hu)
        | (go_at_call 11; (with_reducible refine (KS.out _).mono ?_); rintro e w2 ⟨rfl, hu⟩; have HU2 := Lib.hid ((HU1.out.alloc _ _).trans hu); clear hu)
        | (go_at_call 12; (with_reducible refine (KA.out _).mono ?_); rintro e w3 ⟨rfl, hu⟩; have HU3 := Lib.hid (HU2.out.trans hu); clear hu))
      go_ret
      exact ⟨rfl, HU3.out⟩

set_option maxRecDepth 100000 in
theorem ringNew_lifted (os : Os) (started : os.Started) (H : Type) (enc : TypeId × Value → H) :
    ReturnsInHanded {} Try.checked os 3 .any (Rows.ringNewSpec.pre6 enc Try.prog Try.f3 Rows.ringNewRow.domain false) (Rows.ringNewSpec.post enc Try.prog Try.f3 false true false false) := by
  refine returnsInHanded_of_change (C := Try.checked) ringNew_own started (by kernel_rfl) Try.func3
    (ChangeSpec.witness6 (enc := enc) (C := Try.checked) false ⟨#[], #[.int .i64 0], []⟩ 8 (by kernel_rfl) (by kernel_rfl) (by kernel_rfl) (by kernel_rfl)) ?_
  intro W base args ds gs before hval0 hW hcnd _
  have hval : ∀ (j : Nat) t v, Try.f3.params[j]? = some t → args[j]? = some v → Value.okWide Try.prog W .any base t v := hval0
  have hW' := hW
  obtain ⟨p, q, hA0, hV, rfl, hfz, hnd⟩ := hW'
  have hA : DataW.TrodAll enc Try.prog W 0 (fun _ => true) true Try.f3.params.toList args.toList ds p := hA0
  rw [Try.params3] at hA hval
  obtain ⟨v0, vs0, d0, ds0, p0, q0, hargs, rfl, rfl, h0, r0⟩ := trodAll_cons hA
  obtain ⟨rfl, rfl, rfl⟩ := trodAll_nil r0
  obtain rfl : args = #[v0] := by cases args; simp_all
  obtain ⟨rfl, rfl⟩ := trodVars_none hV
  have hlt := fun x hx => hW.lt x hx
  have k0 := h0
  obtain ⟨a0, rfl, rfl, rfl, w0⟩ := open_int Try.underlying3 (hval 0 3 v0 rfl rfl) h0
  refine (ringNew_walk a0 w0 W).mono fun e W' ⟨he, hg⟩ => ?_
  subst he
  exact ⟨_, rfl, post_of_same (pv := []) hW (fun _ _ _ => (trodAll_cons_mk (shut_bool Try.underlying4 _) trodAll_mk0)) (fun sp hsp => (trodAll_cons_mk (stay (by kernel_rfl) (of_decide_eq_true (by kernel_rfl)) k0 hg hlt (fun x hx => by simp [hx]) hsp) trodAll_mk0)) (fun _ _ => rfl) rfl
    (hg.grown.frame _) hg.grown.2.1 (ok_one (by kernel_rfl) rfl (okWide_bool_mk Try.underlying4 _))⟩

theorem ringNew_over : Rows.ringNewRow.holds Try.pinned (OpenSpec.ofChange Rows.ringNewSpec) :=
  OpenClaim.holds_of_wide 3 Try.f3 rfl rfl rfl rfl rfl rfl rfl ⟨rfl, rfl, rfl, rfl, rfl⟩ rfl rfl rfl rfl rfl (by kernel_rfl) Try.func3 (by kernel_rfl)
    (of_decide_eq_true (by kernel_rfl)) (by unfold Func.isWrapper; first | (rw [if_pos (by decide +kernel)]; kernel_rfl) | (rw [if_neg (by decide +kernel)]; exact ⟨rfl, rfl⟩))
    (fun os started H enc _ => ringNew_lifted os started H enc)

theorem ringNew_holds : Rows.RingNewSaid :=
  ringNew_over
#print axioms ringNew_holds
end Go.Proofs.Ytjedcpfipebncaa
