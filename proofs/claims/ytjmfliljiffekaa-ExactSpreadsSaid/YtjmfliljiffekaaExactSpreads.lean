/- Proved: for every list of items the law ExactSpreads returns true: Spread of package exact is half the sum of the squared differences of all pairs, divided by the number, wherever the values are small. Conditions: none beside the form's own reach. -/
import Derived.Test.YtjmfliljiffekaaRows
import Derived.WalkKit
import Derived.ProofKit
import Derived.OpenShut
import Derived.Lib.SmallJoins
import Derived.Test.YtjmfliljiffekaaEFrame
import Derived.SizedLaws
import Derived.Test.YtjmfliljiffekaaERSpr
namespace Go.Proofs.Ytjmfliljiffekaa
open Go.ChangeShapes Go.WideShapes Go.ChangeAt Go.RowKit Go.Joins
set_option linter.unusedVariables false

theorem exactSpreads_own : ownKnob Try.prog.godebug = none := by kernel_rfl

set_option maxHeartbeats 4000000 in
set_option maxRecDepth 100000 in
theorem exactSpreads_walk (n k : Nat) (A : Option Addr) (L : List It) (hk : n ≤ k) (hI : InI L) (w : World) (hS : Sl w A n L) :
    Calls Try.prog 6 #[.slice A n k] w fun e w' => e = .returned (.bool true) ∧ Up w w' := by
  have KW := Lib.hid awake8_up
  have KF := Lib.hid (few_up n k A L w hS)
  cases hf : fewB L with
  | false =>
    rw [hf] at KF
    clear hS hI hf
    go_enter Try.func6, Try.ntmps6
    go_wp2_with fail
    refine KF.out.mono ?_
    rintro e w1 ⟨rfl, hu1⟩
    go_wp2_with fail
    refine (KW.out _).mono ?_
    rintro e w2 ⟨rfl, hu2⟩
    go_wp2_with fail
    go_ret
    exact ⟨rfl, hu1.trans hu2⟩
  | true =>
    rw [hf] at KF
    obtain ⟨hl, hs⟩ := fewB_true hf
    have hln := hS.1
    have HS := Lib.hid hS
    have K1 := Lib.hid (fun W (h : Sl W A n L) => spread_up n k A L (by omega) hI W h)
    have K2 := Lib.hid (fun W (h : Up w W) => rspread_up n k A L hf W (hS.up h))
    have hb : sprB L = true := by
      unfold sprB
      by_cases he : L = []
      · rw [if_pos he]
      · rw [if_neg he]
        have : 0 < L.length := List.length_pos_iff.2 he
        have hd := dvZ_small hl hs L.length (Nat.le_refl _)
        rw [List.take_of_length_le (Nat.le_refl _)] at hd
        obtain ⟨g1, g2, eb, _, _⟩ := quo_form hd.1 (show 1 ≤ (L.length : Int) by omega) (by omega)
        rw [eb]
        obtain ⟨q0, q1⟩ := div_small hd.1 g1
        exact decide_eq_true ⟨by omega, by omega⟩
    rw [hb] at K1
    unfold gotR at K1
    generalize sprN L = x at *
    generalize sprD L = y at *
    clear hS hI hf hl hs hln hb
    go_enter Try.func6, Try.ntmps6
    go_wp2_with fail
    refine KF.out.mono ?_
    rintro e w1 ⟨rfl, hu1⟩
    go_wp2_with fail
    refine (K1.out _ (HS.out.up hu1)).mono ?_
    rintro e w2 ⟨rfl, hu2⟩
    have HU2 := Lib.hid (hu1.trans hu2)
    clear hu1 hu2
    go_upto_region 4 with fail
    have HU3 := Lib.hid (HU2.out.alloc #[.int .i64 x, .int .i64 y] 34)
    have c0 : (w2.alloc (.cells #[.int .i64 x, .int .i64 y] 34)).cell? ⟨w2.heap.size, 0, none⟩ = some (.int .i64 x) := by simp [go_sem]
    have c1 : (w2.alloc (.cells #[.int .i64 x, .int .i64 y] 34)).cell? ⟨w2.heap.size, 1, none⟩ = some (.int .i64 y) := by simp [go_sem]
    generalize w2.alloc (.cells #[.int .i64 x, .int .i64 y] 34) = wi at *
    generalize w2.heap.size = g at *
    have b1 : (x == x) = true := by simp
    have b2 : (y == y) = true := by simp
    go_region_held3 (fun w' => Up w w' ∧ w'.cell? ⟨g, 0, none⟩ = some (.int .i64 x) ∧ w'.cell? ⟨g, 1, none⟩ = some (.int .i64 y))
      (first | (with_reducible assumption) | (with_reducible exact keep2 (by assumption) (by assumption)) | (exact keep2 (Lib.hid (Up.refl _).drew) ⟨HU3.out, c0, c1⟩))
      (first
        | (go_at_call 27; (with_reducible refine (K2.out _ (And.left (by assumption))).mono ?_); rintro e w5 ⟨rfl, hu5⟩; have HU5 := Lib.hid hu5; have hS5 := keep2 HU5 (by assumption); clear hu5)
        | (go_at_call 11; (with_reducible refine (KW.out _).mono ?_); rintro e w6 ⟨rfl, hu6⟩; have HU6 := Lib.hid hu6; have hS6 := keep2 HU6 (by assumption); clear hu6))
    all_goals
      go_wp2_with fail
      go_ret
      exact ⟨rfl, hS6.1⟩

set_option maxRecDepth 100000 in
theorem exactSpreads_lifted (os : Os) (started : os.Started) (H : Type) (enc : TypeId × Value → H) :
    ReturnsInHanded {} Try.checked os 6 .any (Rows.exactSpreadsSpec.pre6 enc Try.prog Try.f6 Rows.exactSpreadsRow.domain false) (Rows.exactSpreadsSpec.post enc Try.prog Try.f6 false true false false) := by
  refine returnsInHanded_of_change_sized (C := Try.checked) exactSpreads_own started (by kernel_rfl) Try.func6
    (ChangeSpec.witness6 (enc := enc) (C := Try.checked) false ⟨#[], #[.slice none 0 0], []⟩ 8 (by kernel_rfl) (by kernel_rfl) (by kernel_rfl) (by kernel_rfl)) ?_
  intro W base args ds gs before hval0 hW hcnd hsz0 _
  have hval : ∀ (j : Nat) t v, Try.f6.params[j]? = some t → args[j]? = some v → Value.okWide Try.prog W .any base t v := hval0
  have hW' := hW
  obtain ⟨p, q, hA0, hV, rfl, hfz, hnd⟩ := hW'
  have hA : DataW.TrodAll enc Try.prog W 0 (fun _ => true) true Try.f6.params.toList args.toList ds p := hA0
  rw [Try.params6] at hA hval
  obtain ⟨v0, vs0, d0, ds0, p0, q0, hargs, rfl, rfl, h0, r0⟩ := trodAll_cons hA
  obtain ⟨rfl, rfl, rfl⟩ := trodAll_nil r0
  obtain rfl : args = #[v0] := by cases args; simp_all
  obtain ⟨rfl, rfl⟩ := trodVars_none hV
  have hlt := fun x hx => hW.lt x hx
  have k0 := h0
  obtain ⟨n0, m0, A0, L0, rfl, hk0, hS0, hI0⟩ := open_items2 (hval 0 22 v0 rfl rfl) h0
  refine (exactSpreads_walk n0 m0 A0 L0 hk0 hI0 W hS0).mono fun e W' ⟨he, hg⟩ => ?_
  subst he
  exact ⟨_, rfl, post_of_same (pv := []) hW (fun _ _ _ => (trodAll_cons_mk (shut_bool Try.underlying4 _) trodAll_mk0)) (fun sp hsp => (trodAll_cons_mk (stay (by kernel_rfl) (of_decide_eq_true (by kernel_rfl)) k0 hg hlt (fun x hx => by first | (simp at hx; done) | simp [hx]) hsp) trodAll_mk0)) (fun _ _ => rfl) rfl
    (hg.grown.frame _) hg.grown.2.1 (ok_one (by kernel_rfl) rfl (okWide_bool_mk Try.underlying4 _))⟩

theorem exactSpreads_over : Rows.exactSpreadsRow.holds Try.pinned (OpenSpec.ofChange Rows.exactSpreadsSpec) :=
  OpenClaim.holds_of_wide 6 Try.f6 rfl rfl rfl rfl rfl rfl rfl ⟨rfl, rfl, rfl, rfl, rfl⟩ rfl rfl rfl rfl rfl (by kernel_rfl) Try.func6 (by kernel_rfl)
    (of_decide_eq_true (by kernel_rfl)) (by unfold Func.isWrapper; first | (rw [if_pos (by decide +kernel)]; kernel_rfl) | (rw [if_neg (by decide +kernel)]; exact ⟨rfl, rfl⟩))
    (fun os started H enc _ => exactSpreads_lifted os started H enc)

theorem exactSpreads_holds : Rows.ExactSpreadsSaid :=
  exactSpreads_over
#print axioms exactSpreads_holds
end Go.Proofs.Ytjmfliljiffekaa
