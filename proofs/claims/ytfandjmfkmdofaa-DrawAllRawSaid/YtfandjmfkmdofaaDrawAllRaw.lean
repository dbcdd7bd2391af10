/- Proved: for every list of int64 numbers ranges (of at most 2^47 - 4096 bytes, the form's own reach) the law DrawAllRaw returns true: All of package draw lists as many sequences as there are, and none for ranges that are not positive or for too many sequences. Conditions: none beside that reach. -/
import Derived.Test.YtfandjmfkmdofaaRows
import Derived.WalkKit
import Derived.ProofKit
import Derived.OpenShut
import Derived.Lib.SmallJoins
import Derived.Test.YtfandjmfkmdofaaDBase
import Derived.SizedLaws
import Derived.Test.YtfandjmfkmdofaaDSame
import Derived.Test.YtfandjmfkmdofaaDAll
namespace Go.Proofs.Ytfandjmfkmdofaa
open Go.ChangeShapes Go.WideShapes Go.ChangeAt Go.RowKit Go.Joins
set_option linter.unusedVariables false

theorem drawAllRaw_own : ownKnob Try.prog.godebug = none := by kernel_rfl

theorem drawAllRaw_walk (n k : Nat) (A : Option Addr) (L : List Int) (hk : n ≤ k) (hz : n * 8 ≤ 140737488351232) (hI : ∀ x ∈ L, In x) (w : World) (hS : Sn w A n L) :
    Calls Try.prog 8 #[.slice A n k] w fun e w' => e = .returned (.bool true) ∧ Up w w' := by
  have KA := Lib.hid awake7_up
  have K1 := Lib.hid (rweight_any n k A L hz hI w hS)
  by_cases h1 : n ≤ 100
  case neg =>
    clear hS hI
    unfold gotO at K1
    generalize (wtO L).getD 0 = x at K1
    generalize (wtO L).isSome = b at K1
    go_enter Try.func8, Try.ntmps8
    go_wp2_with fail
    refine K1.out.mono ?_
    rintro e w' ⟨rfl, rfl⟩
    go_wp2_with fail
    refine (KA.out _).mono ?_
    rintro e w' ⟨rfl, hu⟩
    have HU := Lib.hid hu
    clear hu
    go_wp2_with fail
    go_ret
    exact ⟨rfl, HU.out⟩
  cases hw : wtO L with
  | none =>
    have K2 := Lib.hid (all_no n k A L hz hI w hS (fun W h => by rw [hw] at h; cases h))
    rw [hw] at K1
    clear hS hI hw
    go_enter Try.func8, Try.ntmps8
    go_wp2_with fail
    refine K1.out.mono ?_
    rintro e w' ⟨rfl, rfl⟩
    go_wp2_with fail
    refine K2.out.mono ?_
    rintro e w' ⟨rfl, hu⟩
    have HU := Lib.hid hu
    clear hu
    go_wp2_with fail
    refine (KA.out _).mono ?_
    rintro e w' ⟨rfl, hu⟩
    have HU2 := Lib.hid (HU.out.trans hu)
    clear hu
    go_wp2_with fail
    go_ret
    exact ⟨rfl, HU2.out⟩
  | some W =>
    rw [hw] at K1
    by_cases h2 : 100000 < W
    · have K2 := Lib.hid (all_no n k A L hz hI w hS (fun V h => by rw [hw] at h; injection h with h; omega))
      clear hS hI hw
      go_enter Try.func8, Try.ntmps8
      go_wp2_with fail
      refine K1.out.mono ?_
      rintro e w' ⟨rfl, rfl⟩
      go_wp2_with fail
      refine K2.out.mono ?_
      rintro e w' ⟨rfl, hu⟩
      have HU := Lib.hid hu
      clear hu
      go_wp2_with fail
      refine (KA.out _).mono ?_
      rintro e w' ⟨rfl, hu⟩
      have HU2 := Lib.hid (HU.out.trans hu)
      clear hu
      go_wp2_with fail
      go_ret
      exact ⟨rfl, HU2.out⟩
    · obtain ⟨c, rfl⟩ : ∃ c : Nat, W = c := ⟨W.toNat, by have := (wtO_some hw).2.2.1; omega⟩
      by_cases h3 : 2000 < c
      · clear hS hI hw
        go_enter Try.func8, Try.ntmps8
        go_wp2_with fail
        refine K1.out.mono ?_
        rintro e w' ⟨rfl, rfl⟩
        go_wp2_with fail
        refine (KA.out _).mono ?_
        rintro e w' ⟨rfl, hu⟩
        have HU := Lib.hid hu
        clear hu
        go_wp2_with fail
        go_ret
        exact ⟨rfl, HU.out⟩
      · have K2 := Lib.hid (all_yes n k c A L hz hI w hS hw (by omega))
        clear hS hI hw
        go_enter Try.func8, Try.ntmps8
        go_wp2_with fail
        refine K1.out.mono ?_
        rintro e w' ⟨rfl, rfl⟩
        go_wp2_with fail
        refine K2.out.mono ?_
        rintro e w' ⟨g, rfl, HA⟩
        go_wp2_with fail
        refine (KA.out _).mono ?_
        rintro e w' ⟨rfl, hu⟩
        have HU2 := Lib.hid (HA.out.up.trans hu)
        clear hu
        go_wp2_with fail
        go_ret
        exact ⟨rfl, HU2.out⟩

set_option maxRecDepth 100000 in
theorem drawAllRaw_lifted (os : Os) (started : os.Started) (H : Type) (enc : TypeId × Value → H) :
    ReturnsInHanded {} Try.checked os 8 .any (Rows.drawAllRawSpec.pre6 enc Try.prog Try.f8 Rows.drawAllRawRow.domain false) (Rows.drawAllRawSpec.post enc Try.prog Try.f8 false true false false) := by
  refine returnsInHanded_of_change_sized (C := Try.checked) drawAllRaw_own started (by kernel_rfl) Try.func8
    (ChangeSpec.witness6 (enc := enc) (C := Try.checked) false ⟨#[], #[.slice none 0 0], []⟩ 8 (by kernel_rfl) (by kernel_rfl) (by kernel_rfl) (by kernel_rfl)) ?_
  intro W base args ds gs before hval0 hW hcnd hsz0 _
  have hval : ∀ (j : Nat) t v, Try.f8.params[j]? = some t → args[j]? = some v → Value.okWide Try.prog W .any base t v := hval0
  have hW' := hW
  obtain ⟨p, q, hA0, hV, rfl, hfz, hnd⟩ := hW'
  have hA : DataW.TrodAll enc Try.prog W 0 (fun _ => true) true Try.f8.params.toList args.toList ds p := hA0
  have hsz : (DataW.weightsEach Try.prog (Try.f8.params.toList ++ Rows.drawAllRawSpec.plain.varTypes Try.prog) (ds ++ gs)).all (· ≤ reachBytes) = true := hsz0
  rw [Try.params8] at hA hval hsz
  obtain ⟨v0, vs0, d0, ds0, p0, q0, hargs, rfl, rfl, h0, r0⟩ := trodAll_cons hA
  obtain ⟨rfl, rfl, rfl⟩ := trodAll_nil r0
  obtain rfl : args = #[v0] := by cases args; simp_all
  obtain ⟨rfl, rfl⟩ := trodVars_none hV
  have hlt := fun x hx => hW.lt x hx
  have k0 := h0
  obtain ⟨n0, m0, A0, L0, rfl, hk0, hS0, hI0, hz0⟩ := open_nums2 (hval 0 22 v0 rfl rfl) h0
  refine (drawAllRaw_walk n0 m0 A0 L0 hk0 (hz0 (fun es sp e => by subst e; exact sized_slice hsz (j := 0) (t := 22) (e := 2) rfl rfl Try.underlying22)) hI0 W hS0).mono fun e W' ⟨he, hg⟩ => ?_
  subst he
  exact ⟨_, rfl, post_of_same (pv := []) hW (fun _ _ _ => (trodAll_cons_mk (shut_bool Try.underlying4 _) trodAll_mk0)) (fun sp hsp => (trodAll_cons_mk (stay (by kernel_rfl) (of_decide_eq_true (by kernel_rfl)) k0 hg hlt (fun x hx => by first | (simp at hx; done) | simp [hx]) hsp) trodAll_mk0)) (fun _ _ => rfl) rfl
    (hg.grown.frame _) hg.grown.2.1 (ok_one (by kernel_rfl) rfl (okWide_bool_mk Try.underlying4 _))⟩

theorem drawAllRaw_over : Rows.drawAllRawRow.holds Try.pinned (OpenSpec.ofChange Rows.drawAllRawSpec) :=
  OpenClaim.holds_of_wide 8 Try.f8 rfl rfl rfl rfl rfl rfl rfl ⟨rfl, rfl, rfl, rfl, rfl⟩ rfl rfl rfl rfl rfl (by kernel_rfl) Try.func8 (by kernel_rfl)
    (of_decide_eq_true (by kernel_rfl)) (by unfold Func.isWrapper; first | (rw [if_pos (by decide +kernel)]; kernel_rfl) | (rw [if_neg (by decide +kernel)]; exact ⟨rfl, rfl⟩))
    (fun os started H enc _ => drawAllRaw_lifted os started H enc)

theorem drawAllRaw_holds : Rows.DrawAllRawSaid :=
  drawAllRaw_over
#print axioms drawAllRaw_holds
end Go.Proofs.Ytfandjmfkmdofaa
