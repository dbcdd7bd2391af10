/- Proved: for every state and two steps the law HalveSplit returns true: several steps of the clock are one step. Conditions: none. -/
import Derived.Test.YtegaeaonoggmkaaRows
import Derived.Test.YtegaeaonoggmkaaZOFrameq116
import Derived.Test.YtegaeaonoggmkaaZORunq125
import Derived.Test.YtegaeaonoggmkaaZOSameq114
import Derived.Test.YtegaeaonoggmkaaZOStq51
namespace Go.Proofs.Ytegaeaonoggmkaa
open Go.ChangeShapes Go.WideShapes Go.ChangeAt Go.RowKit Go.Joins
set_option linter.unusedVariables false

theorem halveSplit_own : ownKnob Try.prog.godebug = none := by kernel_rfl

set_option maxHeartbeats 16000000 in
set_option maxRecDepth 100000 in
theorem halveSplit_walk (now : Int) (n k : Nat) (A : Option Addr) (S : List Int) (hk : n ≤ k) (hI : ∀ x ∈ S, In x) (hc : In now) (a : Int) (_ : (Lit.int .i64 a).wf = true) (b : Int) (_ : (Lit.int .i64 b).wf = true) (w : World) (hS : Sn w A n S) :
    Calls Try.prog 8 #[.agg #[.int .i64 now, .slice A n k], .int .i64 a, .int .i64 b] w fun e w' => e = .returned (.bool true) ∧ Up w w' := by
  have KA := Lib.hid awake16_up
  have KF := Lib.hid (few16_up now n k A)
  by_cases hf : (n : Int) ≤ 200
  case neg =>
    rw [decide_eq_false hf] at KF
    clear hS hk hI
    go_enter Try.func8, Try.ntmps8
    go_wp2_with (first
      | (go_at_call 13; (with_reducible refine (KF.out _).mono ?_); rintro e w1 ⟨rfl, hu⟩; obtain ⟨U1, E1⟩ := call1 w hu; clear hu)
      | (go_at_call 12; (with_reducible refine (KA.out _).mono ?_); rintro e w9 ⟨rfl, hu⟩; have HU9 := Lib.hid (U1.out.trans hu); clear hu))
    go_ret
    exact ⟨rfl, HU9.out⟩
  rw [decide_eq_true hf] at KF
  have hn : n ≤ 100000 := by omega
  have KV := Lib.hid (fun W (hu : Up w W) => rvalidate16_up now n k A S hn hI hc W (hS.up hu))
  unfold stHE at KV
  by_cases hv : stH now S = true
  case neg =>
    rw [if_neg hv] at KV
    clear hS hk hI hf hv
    go_enter Try.func8, Try.ntmps8
    go_wp2_with (first
      | (go_at_call 13; (with_reducible refine (KF.out _).mono ?_); rintro e w1 ⟨rfl, hu⟩; obtain ⟨U1, E1⟩ := call1 w hu; clear hu)
      | (go_at_call 21; (with_reducible refine (KV.out _ U1.out).mono ?_); rintro e w2 ⟨rfl, hu⟩; obtain ⟨U2, E2⟩ := call1 w hu; clear hu)
      | (go_at_call 12; (with_reducible refine (KA.out _).mono ?_); rintro e w9 ⟨rfl, hu⟩; have HU9 := Lib.hid (U2.out.trans hu); clear hu))
    go_ret
    exact ⟨rfl, HU9.out⟩
  rw [if_pos hv] at KV
  have KM1 := Lib.hid (fun W => modm_any a 80 (by decide) (by decide) W)
  have KM2 := Lib.hid (fun W => modm_any b 80 (by decide) (by decide) W)
  have a0 := Int.emod_nonneg a (show (80 : Int) ≠ 0 by decide)
  have a1 := Int.emod_lt_of_pos a (show (0 : Int) < 80 by decide)
  have b0 := Int.emod_nonneg b (show (80 : Int) ≠ 0 by decide)
  have b1 := Int.emod_lt_of_pos b (show (0 : Int) < 80 by decide)
  obtain ⟨d, hd⟩ : ∃ d : Nat, a % 80 = d := ⟨(a % 80).toNat, by omega⟩
  obtain ⟨f, hf2⟩ : ∃ f : Nat, b % 80 = f := ⟨(b % 80).toNat, by omega⟩
  rw [hd] at KM1 a0 a1
  rw [hf2] at KM2 b0 b1
  by_cases hb : 16777016 < now
  case pos =>
    have t1 : decide (16777016 < now) = true := decide_eq_true hb
    clear hS hk hI hf hv hb
    go_enter Try.func8, Try.ntmps8
    go_wp2_with (first
      | (go_at_call 13; (with_reducible refine (KF.out _).mono ?_); rintro e w1 ⟨rfl, hu⟩; obtain ⟨U1, E1⟩ := call1 w hu; clear hu)
      | (go_at_call 21; (with_reducible refine (KV.out _ U1.out).mono ?_); rintro e w2 ⟨rfl, hu⟩; obtain ⟨U2, E2⟩ := call1 w hu; clear hu)
      | (go_at_call 27; (with_reducible refine (KM1.out _).mono ?_); rintro e w' ⟨rfl, rfl⟩)
      | (go_at_call 27; (with_reducible refine (KM2.out _).mono ?_); rintro e w' ⟨rfl, rfl⟩)
      | (go_at_call 12; (with_reducible refine (KA.out _).mono ?_); rintro e w9 ⟨rfl, hu⟩; have HU9 := Lib.hid (U2.out.trans hu); clear hu))
    go_ret
    exact ⟨rfl, HU9.out⟩
  have t1 : decide (16777016 < now) = false := decide_eq_false hb
  obtain ⟨p1, p2, p3⟩ := hv_split (d := d) (e := f) hv (by omega)
  obtain ⟨h1, h2, h3⟩ := stH_is hS.1 hv
  have hs := stH_av (now' := now + d) hv (by omega) (by omega)
  rw [show (now + (d : Int) - now).toNat = d by omega] at hs
  have hl1 : (avH d S).length = n := by rw [avH_len]; exact hS.1
  have hl2 : (avH (d + f) S).length = n := by rw [avH_len]; exact hS.1
  obtain ⟨x, hx⟩ : ∃ z, z = now + (d : Int) := ⟨_, rfl⟩
  obtain ⟨y, hy⟩ : ∃ z, z = now + (d : Int) + f := ⟨_, rfl⟩
  have kx : IntKind.i64.wrap (now + d) = x := by rw [hx]; exact IntWalk.i64_in _ (by omega)
  have ky : IntKind.i64.wrap (x + f) = y := by rw [hx, hy]; exact IntWalk.i64_in _ (by omega)
  rw [← hy] at p2 p3
  rw [← hx] at p1 p2 hs
  have KX := Lib.hid (fun W (hu : Up w W) => (advance16_up now n k A S x hn hI hc W (hS.up hu)).mono (fun e w' (h : RsH _ W e w') => by rw [p1] at h; exact h.st hl1))
  have KY := Lib.hid (fun W A k (h : Sn W A n (avH d S)) => (advance16_up x n k A (avH d S) y hn (st_in hs).1 (st_in hs).2 W h).mono (fun e w' (h : RsH _ W e w') => by rw [p2] at h; exact h.st hl2))
  have KZ := Lib.hid (fun W (hu : Up w W) => (advance16_up now n k A S y hn hI hc W (hS.up hu)).mono (fun e w' (h : RsH _ W e w') => by rw [p3] at h; exact h.st hl2))
  unfold StH at KX KY KZ
  have KS := Lib.hid (fun W A1 A2 k1 k2 (hA : Sn W A1 n (avH (d + f) S)) (hB : Sn W A2 n (avH (d + f) S)) => same16_t y n k1 k2 A1 A2 _ (by omega) W hA hB)
  generalize avH d S = S1 at *
  generalize avH (d + f) S = S2 at *
  have hnxy : now ≠ x ∨ True := Or.inr trivial
  clear hS hk hI hf hv hb p1 p2 p3 h1 h2 h3 hs hl1 hl2 hx hy hd hf2 hnxy a0 a1 b0 b1
  go_enter Try.func8, Try.ntmps8
  go_wp2_with (first
    | (go_at_call 13; (with_reducible refine (KF.out _).mono ?_); rintro e w1 ⟨rfl, hu⟩; obtain ⟨U1, E1⟩ := call1 w hu; clear hu)
    | (go_at_call 21; (with_reducible refine (KV.out _ U1.out).mono ?_); rintro e w2 ⟨rfl, hu⟩; obtain ⟨U2, E2⟩ := call1 w hu; clear hu)
    | (go_at_call 27; (with_reducible refine (KM1.out _).mono ?_); rintro e w' ⟨rfl, rfl⟩)
    | (go_at_call 27; (with_reducible refine (KM2.out _).mono ?_); rintro e w' ⟨rfl, rfl⟩)
    | (go_at_call 14; (with_reducible refine (KX.out _ U2.out).mono ?_); rintro e w3 ⟨A1, k1, rfl, hN, hS, hu⟩; have HS1 := Lib.hid hS; have HN1 := Lib.hid hN; obtain ⟨U3, E3⟩ := call1 w hu; have h03 : w.heap.size ≤ w3.heap.size := (by have := U3.out.size; omega); clear hN hS hu)
    | (go_at_call 14; (with_reducible refine (KY.out _ _ _ (HS1.out.up ((Up.refl _).alloc _ _))).mono ?_); rintro e w4 ⟨A2, k2, rfl, hN, hS, hu⟩; have HS2 := Lib.hid hS; have HN2 : Hid (∀ b o, A2 = some ⟨b, o, none⟩ → b ≠ w3.heap.size) := Lib.hid (fun b o e => by have := hN b o e; simp at this; omega); obtain ⟨U4, E4⟩ := hold2 w w.heap.size w3.heap.size hu; have z4 := fun o => U4.out.ownGe h03 o; have hb4 : w3.heap.size < w4.heap.size := E4.2.2; clear hN hS hu)
    | (go_at_call 14; ((with_reducible refine (KZ.out _ ?_).mono ?_); · ((repeat (first | (with_reducible exact Up.refl _) | (with_reducible exact U4.out) | (with_reducible refine Up.alloc ?_ _ _) | (with_reducible refine Up.setCell ?_ ?_ _) | (with_reducible refine Up.drewN ?_ _) | (with_reducible refine Up.drew ?_))); all_goals (first | (simp; done) | (simp; omega) | omega))); rintro e w5 ⟨A3, k3, rfl, hN, hS, hu⟩; have HS3 := Lib.hid hS; have HR2 : Hid (Sn w5 A2 n S2) := Lib.hid (Sn.up (by (repeat (first | (with_reducible exact HS2.out) | (with_reducible exact HS2.out.up ((Up.refl _).alloc _ _)) | (with_reducible refine Sn.far ?_ (fun b o e => by have := HN2.out b o e; omega) _)))) hu); obtain ⟨U5, E5⟩ := hold2 w w.heap.size w3.heap.size hu; have d0 : w5.cell? ⟨w3.heap.size, 0, none⟩ = some (.int .i64 y) := (by simp [go_sem, E5, E4]); have d1 : w5.cell? ⟨w3.heap.size, 1, none⟩ = some (.slice A2 n k2) := (by simp [go_sem, E5, E4]); have hb5 : w3.heap.size < w5.heap.size := E5.2.2; clear hN hS hu E5)
    | (go_at_call 11; (with_reducible refine (KS.out _ A2 A3 k2 k3 (HR2.out.up ((Up.refl w5).alloc _ _)) (HS3.out.up ((Up.refl w5).alloc _ _))).mono ?_); rintro e w6 ⟨rfl, hu⟩; have U6 := Lib.hid ((U5.out.alloc _ _).trans hu); clear hu)
    | (go_at_call 12; (with_reducible refine (KA.out _).mono ?_); rintro e w9 ⟨rfl, hu⟩; have HU9 := Lib.hid (U6.out.trans hu); clear hu))
  go_ret
  exact ⟨rfl, HU9.out⟩

set_option maxRecDepth 100000 in
theorem halveSplit_lifted (os : Os) (started : os.Started) (H : Type) (enc : TypeId × Value → H) :
    ReturnsInHanded {} Try.checked os 8 .any (Rows.halveSplitSpec.pre6 enc Try.prog Try.f8 Rows.halveSplitRow.domain false) (Rows.halveSplitSpec.post enc Try.prog Try.f8 false true false false) := by
  refine returnsInHanded_of_change_sized (C := Try.checked) halveSplit_own started (by kernel_rfl) Try.func8
    (ChangeSpec.witness6 (enc := enc) (C := Try.checked) false ⟨#[], #[.agg #[.int .i64 0, .slice none 0 0], .int .i64 0, .int .i64 0], []⟩ 8 (by kernel_rfl) (by kernel_rfl) (by kernel_rfl) (by kernel_rfl)) ?_
  intro W base args ds gs before hval0 hW hcnd hsz0 _
  have hval : ∀ (j : Nat) t v, Try.f8.params[j]? = some t → args[j]? = some v → Value.okWide Try.prog W .any base t v := hval0
  have hW' := hW
  obtain ⟨p, q, hA0, hV, rfl, hfz, hnd⟩ := hW'
  have hA : DataW.TrodAll enc Try.prog W 0 (fun _ => true) true Try.f8.params.toList args.toList ds p := hA0
  rw [Try.params8] at hA hval
  obtain ⟨v0, vs0, d0, ds0, p0, q0, hargs, rfl, rfl, h0, r0⟩ := trodAll_cons hA
  obtain ⟨v1, vs1, d1, ds1, p1, q1, rfl, rfl, rfl, h1, r1⟩ := trodAll_cons r0
  obtain ⟨v2, vs2, d2, ds2, p2, q2, rfl, rfl, rfl, h2, r2⟩ := trodAll_cons r1
  obtain ⟨rfl, rfl, rfl⟩ := trodAll_nil r2
  obtain rfl : args = #[v0, v1, v2] := by cases args; simp_all
  obtain ⟨rfl, rfl⟩ := trodVars_none hV
  have hlt := fun x hx => hW.lt x hx
  have k0 := h0
  obtain ⟨c0, n0, m0, A0, L0, rfl, hk0, hS0, hI0, hc0⟩ := open_state16 (hval 0 24 v0 rfl rfl) h0
  have k1 := h1
  obtain ⟨a1, rfl, rfl, rfl, w1⟩ := open_int Try.underlying2 (hval 1 2 v1 rfl rfl) h1
  have k2 := h2
  obtain ⟨a2, rfl, rfl, rfl, w2⟩ := open_int Try.underlying2 (hval 2 2 v2 rfl rfl) h2
  refine (halveSplit_walk c0 n0 m0 A0 L0 hk0 hI0 hc0 a1 w1 a2 w2 W hS0).mono fun e W' ⟨he, hg⟩ => ?_
  subst he
  exact ⟨_, rfl, post_of_same (pv := []) hW (fun _ _ _ => (trodAll_cons_mk (shut_bool Try.underlying4 _) trodAll_mk0)) (fun sp hsp => (trodAll_cons_mk (stay (by kernel_rfl) (of_decide_eq_true (by kernel_rfl)) k0 hg hlt (fun x hx => by first | (simp at hx; done) | simp [hx]) hsp) (trodAll_cons_mk (stay (by kernel_rfl) (of_decide_eq_true (by kernel_rfl)) k1 hg hlt (fun x hx => by first | (simp at hx; done) | simp [hx]) hsp) (trodAll_cons_mk (stay (by kernel_rfl) (of_decide_eq_true (by kernel_rfl)) k2 hg hlt (fun x hx => by first | (simp at hx; done) | simp [hx]) hsp) trodAll_mk0)))) (fun _ _ => rfl) rfl
    (hg.grown.frame _) hg.grown.2.1 (ok_one (by kernel_rfl) rfl (okWide_bool_mk Try.underlying4 _))⟩

theorem halveSplit_over : Rows.halveSplitRow.holds Try.pinned (OpenSpec.ofChange Rows.halveSplitSpec) :=
  OpenClaim.holds_of_wide 8 Try.f8 rfl rfl rfl rfl rfl rfl rfl ⟨rfl, rfl, rfl, rfl, rfl⟩ rfl rfl rfl rfl rfl (by kernel_rfl) Try.func8 (by kernel_rfl)
    (of_decide_eq_true (by kernel_rfl)) (by unfold Func.isWrapper; first | (rw [if_pos (by decide +kernel)]; kernel_rfl) | (rw [if_neg (by decide +kernel)]; exact ⟨rfl, rfl⟩))
    (fun os started H enc _ => halveSplit_lifted os started H enc)

theorem halveSplit_holds : Rows.HalveSplitSaid :=
  halveSplit_over
end Go.Proofs.Ytegaeaonoggmkaa
