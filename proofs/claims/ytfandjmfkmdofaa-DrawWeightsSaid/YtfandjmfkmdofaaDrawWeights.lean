/- Proved: for every list of int64 numbers ranges (of at most 2^47 - 4096 bytes, the form's own reach) the law DrawWeights returns true: Weight of package draw answers as the reference does. Conditions: none beside that reach. -/
import Derived.Test.YtfandjmfkmdofaaRows
import Derived.WalkKit
import Derived.ProofKit
import Derived.OpenShut
import Derived.Lib.SmallJoins
import Derived.Test.YtfandjmfkmdofaaDBase
import Derived.SizedLaws
import Derived.Test.YtfandjmfkmdofaaDSame
namespace Go.Proofs.Ytfandjmfkmdofaa
open Go.ChangeShapes Go.WideShapes Go.ChangeAt Go.RowKit Go.Joins
set_option linter.unusedVariables false

theorem drawWeights_own : ownKnob Try.prog.godebug = none := by kernel_rfl

theorem drawWeights_walk (n k : Nat) (A : Option Addr) (L : List Int) (hk : n ≤ k) (hz : n * 8 ≤ 140737488351232) (hI : ∀ x ∈ L, In x) (w : World) (hS : Sn w A n L) :
    Calls Try.prog 4 #[.slice A n k] w fun e w' => e = .returned (.bool true) ∧ Up w w' := by
  have K1 := Lib.hid (weight_any n k A L hz hI w hS)
  have K2 := Lib.hid (rweight_any n k A L hz hI w hS)
  have KA := Lib.hid awake7_up
  clear hS hI
  unfold gotO at K1 K2
  generalize (wtO L).getD 0 = x at K1 K2
  generalize (wtO L).isSome = b at K1 K2
  go_enter Try.func4, Try.ntmps4
  go_wp2_with fail
  refine K1.out.mono ?_
  rintro e w' ⟨rfl, rfl⟩
  go_wp2_with fail
  refine K2.out.mono ?_
  rintro e w' ⟨rfl, rfl⟩
  go_wp2_with fail
  refine (KA.out _).mono ?_
  rintro e w' ⟨rfl, hu⟩
  have HU := Lib.hid hu
  clear hu
  go_wp2_with fail
  go_ret
  exact ⟨rfl, HU.out⟩

set_option maxRecDepth 100000 in
theorem drawWeights_lifted (os : Os) (started : os.Started) (H : Type) (enc : TypeId × Value → H) :
    ReturnsInHanded {} Try.checked os 4 .any (Rows.drawWeightsSpec.pre6 enc Try.prog Try.f4 Rows.drawWeightsRow.domain false) (Rows.drawWeightsSpec.post enc Try.prog Try.f4 false true false false) := by
  refine returnsInHanded_of_change_sized (C := Try.checked) drawWeights_own started (by kernel_rfl) Try.func4
    (ChangeSpec.witness6 (enc := enc) (C := Try.checked) false ⟨#[], #[.slice none 0 0], []⟩ 8 (by kernel_rfl) (by kernel_rfl) (by kernel_rfl) (by kernel_rfl)) ?_
  intro W base args ds gs before hval0 hW hcnd hsz0 _
  have hval : ∀ (j : Nat) t v, Try.f4.params[j]? = some t → args[j]? = some v → Value.okWide Try.prog W .any base t v := hval0
  have hW' := hW
  obtain ⟨p, q, hA0, hV, rfl, hfz, hnd⟩ := hW'
  have hA : DataW.TrodAll enc Try.prog W 0 (fun _ => true) true Try.f4.params.toList args.toList ds p := hA0
  have hsz : (DataW.weightsEach Try.prog (Try.f4.params.toList ++ Rows.drawWeightsSpec.plain.varTypes Try.prog) (ds ++ gs)).all (· ≤ reachBytes) = true := hsz0
  rw [Try.params4] at hA hval hsz
  obtain ⟨v0, vs0, d0, ds0, p0, q0, hargs, rfl, rfl, h0, r0⟩ := trodAll_cons hA
  obtain ⟨rfl, rfl, rfl⟩ := trodAll_nil r0
  obtain rfl : args = #[v0] := by cases args; simp_all
  obtain ⟨rfl, rfl⟩ := trodVars_none hV
  have hlt := fun x hx => hW.lt x hx
  have k0 := h0
  obtain ⟨n0, m0, A0, L0, rfl, hk0, hS0, hI0, hz0⟩ := open_nums2 (hval 0 22 v0 rfl rfl) h0
  refine (drawWeights_walk n0 m0 A0 L0 hk0 (hz0 (fun es sp e => by subst e; exact sized_slice hsz (j := 0) (t := 22) (e := 2) rfl rfl Try.underlying22)) hI0 W hS0).mono fun e W' ⟨he, hg⟩ => ?_
  subst he
  exact ⟨_, rfl, post_of_same (pv := []) hW (fun _ _ _ => (trodAll_cons_mk (shut_bool Try.underlying4 _) trodAll_mk0)) (fun sp hsp => (trodAll_cons_mk (stay (by kernel_rfl) (of_decide_eq_true (by kernel_rfl)) k0 hg hlt (fun x hx => by first | (simp at hx; done) | simp [hx]) hsp) trodAll_mk0)) (fun _ _ => rfl) rfl
    (hg.grown.frame _) hg.grown.2.1 (ok_one (by kernel_rfl) rfl (okWide_bool_mk Try.underlying4 _))⟩

theorem drawWeights_over : Rows.drawWeightsRow.holds Try.pinned (OpenSpec.ofChange Rows.drawWeightsSpec) :=
  OpenClaim.holds_of_wide 4 Try.f4 rfl rfl rfl rfl rfl rfl rfl ⟨rfl, rfl, rfl, rfl, rfl⟩ rfl rfl rfl rfl rfl (by kernel_rfl) Try.func4 (by kernel_rfl)
    (of_decide_eq_true (by kernel_rfl)) (by unfold Func.isWrapper; first | (rw [if_pos (by decide +kernel)]; kernel_rfl) | (rw [if_neg (by decide +kernel)]; exact ⟨rfl, rfl⟩))
    (fun os started H enc _ => drawWeights_lifted os started H enc)

theorem drawWeights_holds : Rows.DrawWeightsSaid :=
  drawWeights_over
#print axioms drawWeights_holds
end Go.Proofs.Ytfandjmfkmdofaa
