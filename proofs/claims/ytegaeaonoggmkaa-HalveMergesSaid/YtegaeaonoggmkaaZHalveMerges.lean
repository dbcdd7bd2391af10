/- Proved: for every two states the law HalveMerges returns true: Merge of package halve answers as the reference does. Conditions: none. -/
import Derived.Test.YtegaeaonoggmkaaRows
import Derived.Test.YtegaeaonoggmkaaZOFrameq116
import Derived.Test.YtegaeaonoggmkaaZORefq109
import Derived.Test.YtegaeaonoggmkaaZOSameq114
namespace Go.Proofs.Ytegaeaonoggmkaa
open Go.ChangeShapes Go.WideShapes Go.ChangeAt Go.RowKit Go.Joins
set_option linter.unusedVariables false

theorem halveMerges_own : ownKnob Try.prog.godebug = none := by kernel_rfl

set_option maxHeartbeats 16000000 in
set_option maxRecDepth 100000 in
theorem halveMerges_walk (now : Int) (n k : Nat) (A : Option Addr) (S : List Int) (hk : n ≤ k) (hI : ∀ x ∈ S, In x) (hc : In now) (now' : Int) (m j : Nat) (B : Option Addr) (T : List Int) (hj : m ≤ j) (hJ : ∀ x ∈ T, In x) (hc' : In now') (w : World) (hS : Sn w A n S) (hT : Sn w B m T) :
    Calls Try.prog 5 #[.agg #[.int .i64 now, .slice A n k], .agg #[.int .i64 now', .slice B m j]] w fun e w' => e = .returned (.bool true) ∧ Up w w' := by
  have KA := Lib.hid awake16_up
  have KF := Lib.hid (few16_up now n k A)
  have KG := Lib.hid (few16_up now' m j B)
  by_cases hf : (n : Int) ≤ 200
  case neg =>
    rw [decide_eq_false hf] at KF
    clear hS hk hI hT hj hJ
    go_enter Try.func5, Try.ntmps5
    go_wp2_with (first
    | (go_at_call 13; (with_reducible refine (KF.out _).mono ?_); rintro e w1 ⟨rfl, hu⟩; obtain ⟨U1, E1⟩ := call2 w hu; clear hu)
    | (go_at_call 12; (with_reducible refine (KA.out _).mono ?_); rintro e w3 ⟨rfl, hu⟩; have HU3 := Lib.hid (U1.out.trans hu); clear hu))
    go_ret
    exact ⟨rfl, HU3.out⟩
  rw [decide_eq_true hf] at KF
  by_cases hg : (m : Int) ≤ 200
  case neg =>
    rw [decide_eq_false hg] at KG
    clear hS hk hI hT hj hJ
    go_enter Try.func5, Try.ntmps5
    go_wp2_with (first
    | (go_at_call 13; (with_reducible refine (KF.out _).mono ?_); rintro e w1 ⟨rfl, hu⟩; obtain ⟨U1, E1⟩ := call2 w hu; clear hu)
    | (go_at_call 13; (with_reducible refine (KG.out _).mono ?_); rintro e w2 ⟨rfl, hu⟩; obtain ⟨U2, E2⟩ := call2 w hu; clear hu)
    | (go_at_call 12; (with_reducible refine (KA.out _).mono ?_); rintro e w3 ⟨rfl, hu⟩; have HU3 := Lib.hid (U2.out.trans hu); clear hu))
    go_ret
    exact ⟨rfl, HU3.out⟩
  rw [decide_eq_true hg] at KG
  have HS := Lib.hid hS
  have HT := Lib.hid hT
  have hn : n ≤ 100000 := by omega
  have hm : m ≤ 100000 := by omega
  obtain ⟨a0, aX, ae, h1⟩ : ∃ z0 zX ze, mgR now S now' T = ((z0, zX, ze) : QH) := ⟨_, _, _, rfl⟩
  have al : aX.length ≤ 1000000 := by have q := mgR_len now S now' T; rw [h1] at q; exact Nat.le_trans q (by rw [hS.1]; omega)
  have K1 := Lib.hid (fun W (hS : Sn W A n S) (hT : Sn W B m T) => (merge16_up now n k A S now' m j B T hn hm hI hJ hc hc' W hS hT).mono (fun e w' (h : RsH _ W e w') => by rw [h1] at h; exact h.t.of))
  have K2 := Lib.hid (fun W (hS : Sn W A n S) (hT : Sn W B m T) => (rmerge16_up now n k A S now' m j B T hn hm hI hJ hc hc' W hS hT).mono (fun e w' (h : RsH _ W e w') => by rw [h1] at h; exact h.t.of))
  have K3 := Lib.hid (fun W A1 A2 k1 k2 (hA : Sn W A1 aX.length aX) (hB : Sn W A2 aX.length aX) => same16_t a0 aX.length k1 k2 A1 A2 aX al W hA hB)
  clear h1 al hS hk hI hf hT hj hJ hg
  generalize aX.length = an at *
  have tt : (ae == ae) = true := by simp
  go_enter Try.func5, Try.ntmps5
  go_wp2_with (first
    | (go_at_call 13; (with_reducible refine (KF.out _).mono ?_); rintro e w1 ⟨rfl, hu⟩; obtain ⟨U1, E1⟩ := hold2 w w.heap.size (w.heap.size + 1) hu; clear hu)
    | (go_at_call 13; (with_reducible refine (KG.out _).mono ?_); rintro e w2 ⟨rfl, hu⟩; obtain ⟨U2, E2⟩ := hold2 w w.heap.size (w.heap.size + 1) hu; clear hu)
    | (go_at_call 22; (with_reducible refine (K1.out _ (HS.out.up U2.out) (HT.out.up U2.out)).mono ?_); rintro e w3 ⟨A1, k1, rfl, hM1, hu⟩; have HM1 := Lib.hid hM1; obtain ⟨U3, E3⟩ := hold2 w w.heap.size (w.heap.size + 1) hu; clear hu hM1)
    | (go_at_call 23; (with_reducible refine (K2.out _ (HS.out.up (U3.out.alloc _ _)) (HT.out.up (U3.out.alloc _ _))).mono ?_); rintro e w4 ⟨A2, k2, rfl, hM2, hu⟩; have hv := ((Up.refl w3).alloc #[.int .i64 a0, .slice A1 an k1] 24).trans hu; have HM1 := Lib.hid (HM1.out.up hv); clear hv; have HM2 := Lib.hid hM2; obtain ⟨U4, E4⟩ := hold3 w w.heap.size (w.heap.size + 1) w3.heap.size hu; clear hu hM2)
    | (go_at_call 11; (with_reducible refine (K3.out _ A1 A2 k1 k2 (HM1.out.up ((Up.refl w4).alloc _ _)) (HM2.out.up ((Up.refl w4).alloc _ _))).mono ?_); rintro e w8 ⟨rfl, hu⟩; have HU8 := Lib.hid ((U4.out.alloc _ _).trans hu); clear hu)
    | (go_at_call 12; (with_reducible refine (KA.out _).mono ?_); rintro e w9 ⟨rfl, hu⟩; have HU9 := Lib.hid (HU8.out.trans hu); clear hu))
  go_ret
  exact ⟨rfl, HU9.out⟩

set_option maxRecDepth 100000 in
theorem halveMerges_lifted (os : Os) (started : os.Started) (H : Type) (enc : TypeId × Value → H) :
    ReturnsInHanded {} Try.checked os 5 .any (Rows.halveMergesSpec.pre6 enc Try.prog Try.f5 Rows.halveMergesRow.domain false) (Rows.halveMergesSpec.post enc Try.prog Try.f5 false true false false) := by
  refine returnsInHanded_of_change_sized (C := Try.checked) halveMerges_own started (by kernel_rfl) Try.func5
    (ChangeSpec.witness6 (enc := enc) (C := Try.checked) false ⟨#[], #[.agg #[.int .i64 0, .slice none 0 0], .agg #[.int .i64 0, .slice none 0 0]], []⟩ 8 (by kernel_rfl) (by kernel_rfl) (by kernel_rfl) (by kernel_rfl)) ?_
  intro W base args ds gs before hval0 hW hcnd hsz0 _
  have hval : ∀ (j : Nat) t v, Try.f5.params[j]? = some t → args[j]? = some v → Value.okWide Try.prog W .any base t v := hval0
  have hW' := hW
  obtain ⟨p, q, hA0, hV, rfl, hfz, hnd⟩ := hW'
  have hA : DataW.TrodAll enc Try.prog W 0 (fun _ => true) true Try.f5.params.toList args.toList ds p := hA0
  rw [Try.params5] at hA hval
  obtain ⟨v0, vs0, d0, ds0, p0, q0, hargs, rfl, rfl, h0, r0⟩ := trodAll_cons hA
  obtain ⟨v1, vs1, d1, ds1, p1, q1, rfl, rfl, rfl, h1, r1⟩ := trodAll_cons r0
  obtain ⟨rfl, rfl, rfl⟩ := trodAll_nil r1
  obtain rfl : args = #[v0, v1] := by cases args; simp_all
  obtain ⟨rfl, rfl⟩ := trodVars_none hV
  have hlt := fun x hx => hW.lt x hx
  have k0 := h0
  obtain ⟨c0, n0, m0, A0, L0, rfl, hk0, hS0, hI0, hc0⟩ := open_state16 (hval 0 24 v0 rfl rfl) h0
  have k1 := h1
  obtain ⟨c1, n1, m1, A1, L1, rfl, hk1, hS1, hI1, hc1⟩ := open_state16 (hval 1 24 v1 rfl rfl) h1
  refine (halveMerges_walk c0 n0 m0 A0 L0 hk0 hI0 hc0 c1 n1 m1 A1 L1 hk1 hI1 hc1 W hS0 hS1).mono fun e W' ⟨he, hg⟩ => ?_
  subst he
  exact ⟨_, rfl, post_of_same (pv := []) hW (fun _ _ _ => (trodAll_cons_mk (shut_bool Try.underlying4 _) trodAll_mk0)) (fun sp hsp => (trodAll_cons_mk (stay (by kernel_rfl) (of_decide_eq_true (by kernel_rfl)) k0 hg hlt (fun x hx => by first | (simp at hx; done) | simp [hx]) hsp) (trodAll_cons_mk (stay (by kernel_rfl) (of_decide_eq_true (by kernel_rfl)) k1 hg hlt (fun x hx => by first | (simp at hx; done) | simp [hx]) hsp) trodAll_mk0))) (fun _ _ => rfl) rfl
    (hg.grown.frame _) hg.grown.2.1 (ok_one (by kernel_rfl) rfl (okWide_bool_mk Try.underlying4 _))⟩

theorem halveMerges_over : Rows.halveMergesRow.holds Try.pinned (OpenSpec.ofChange Rows.halveMergesSpec) :=
  OpenClaim.holds_of_wide 5 Try.f5 rfl rfl rfl rfl rfl rfl rfl ⟨rfl, rfl, rfl, rfl, rfl⟩ rfl rfl rfl rfl rfl (by kernel_rfl) Try.func5 (by kernel_rfl)
    (of_decide_eq_true (by kernel_rfl)) (by unfold Func.isWrapper; first | (rw [if_pos (by decide +kernel)]; kernel_rfl) | (rw [if_neg (by decide +kernel)]; exact ⟨rfl, rfl⟩))
    (fun os started H enc _ => halveMerges_lifted os started H enc)

theorem halveMerges_holds : Rows.HalveMergesSaid :=
  halveMerges_over
end Go.Proofs.Ytegaeaonoggmkaa
