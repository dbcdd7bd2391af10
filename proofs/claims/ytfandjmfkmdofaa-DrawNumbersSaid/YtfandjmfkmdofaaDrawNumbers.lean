/- Proved: for all lists of int64 numbers ranges and draws (of at most 2^47 - 4096 bytes each, the form's own reach) the law DrawNumbers returns true: Number of package draw answers as the reference does, and Sequence undoes it. Conditions: none beside that reach. -/
import Derived.Test.YtfandjmfkmdofaaRows
import Derived.WalkKit
import Derived.ProofKit
import Derived.OpenShut
import Derived.Lib.SmallJoins
import Derived.Test.YtfandjmfkmdofaaDBase
import Derived.SizedLaws
import Derived.Test.YtfandjmfkmdofaaDSame
namespace Go.Proofs.Ytfandjmfkmdofaa
open Go.ChangeShapes Go.WideShapes Go.ChangeAt Go.RowKit Go.Joins
set_option linter.unusedVariables false

theorem drawNumbers_own : ownKnob Try.prog.godebug = none := by kernel_rfl

theorem drawNumbers_walk (n k : Nat) (A : Option Addr) (L : List Int) (hk : n ≤ k) (hz : n * 8 ≤ 140737488351232) (hI : ∀ x ∈ L, In x) (m k' : Nat) (B : Option Addr) (D : List Int) (hk' : m ≤ k') (hz' : m * 8 ≤ 140737488351232) (hI' : ∀ x ∈ D, In x) (w : World) (hS : Sn w A n L) (hT : Sn w B m D) :
    Calls Try.prog 6 #[.slice A n k, .slice B m k'] w fun e w' => e = .returned (.bool true) ∧ Up w w' := by
  have KA := Lib.hid awake7_up
  by_cases h1 : n ≤ 200
  case neg =>
    clear hS hT hI hI'
    go_enter Try.func6, Try.ntmps6
    go_wp2_with fail
    refine (KA.out _).mono ?_
    rintro e w' ⟨rfl, hu⟩
    have HU := Lib.hid hu
    clear hu
    go_wp2_with fail
    go_ret
    exact ⟨rfl, HU.out⟩
  by_cases h2 : m ≤ 200
  case neg =>
    clear hS hT hI hI'
    go_enter Try.func6, Try.ntmps6
    go_wp2_with fail
    refine (KA.out _).mono ?_
    rintro e w' ⟨rfl, hu⟩
    have HU := Lib.hid hu
    clear hu
    go_wp2_with fail
    go_ret
    exact ⟨rfl, HU.out⟩
  have K1 := Lib.hid (number_any n k A L m k' B D hz hI w hS hT)
  have K2 := Lib.hid (rnumber_any n k A L m k' B D hz hI w hS hT)
  cases hr : nmO L D with
  | none =>
    rw [hr] at K1 K2
    by_cases hy : ∃ W, wtO L = some W ∧ (0 : Int) ≤ 0 ∧ 0 < W
    · obtain ⟨W, hw, z0, z1⟩ := hy
      have K3 := Lib.hid (sequence_yes n k A L 0 W hz hI w hS hw z0 z1)
      clear hS hT hI hI' hr hw z0 z1
      go_enter Try.func6, Try.ntmps6
      go_wp2_with fail
      refine K1.out.mono ?_
      rintro e w' ⟨rfl, rfl⟩
      go_wp2_with fail
      refine K2.out.mono ?_
      rintro e w' ⟨rfl, rfl⟩
      go_wp2_with fail
      refine K3.out.mono ?_
      rintro e w1 ⟨g, rfl, hg, hb, hu⟩
      have HU := Lib.hid hu
      clear hu hb
      go_wp2_with fail
      refine (KA.out _).mono ?_
      rintro e w4 ⟨rfl, hu⟩
      have HU4 := Lib.hid (HU.out.trans hu)
      clear hu
      go_wp2_with fail
      go_ret
      exact ⟨rfl, HU4.out⟩
    · have hn : ∀ W, wtO L = some W → ¬ ((0 : Int) ≤ 0 ∧ 0 < W) := fun W hw h => hy ⟨W, hw, h.1, h.2⟩
      have K3 := Lib.hid (sequence_no n k A L 0 hz hI w hS hn)
      clear hS hT hI hI' hr hy hn
      go_enter Try.func6, Try.ntmps6
      go_wp2_with fail
      refine K1.out.mono ?_
      rintro e w' ⟨rfl, rfl⟩
      go_wp2_with fail
      refine K2.out.mono ?_
      rintro e w' ⟨rfl, rfl⟩
      go_wp2_with fail
      refine K3.out.mono ?_
      rintro e w1 ⟨rfl, hu⟩
      have HU := Lib.hid hu
      clear hu
      go_wp2_with fail
      refine (KA.out _).mono ?_
      rintro e w4 ⟨rfl, hu⟩
      have HU4 := Lib.hid (HU.out.trans hu)
      clear hu
      go_wp2_with fail
      go_ret
      exact ⟨rfl, HU4.out⟩
  | some z =>
    rw [hr] at K1 K2
    obtain ⟨W, hw, hl, z0, z1, hd⟩ := nmO_some hr
    have hmn : m = n := by rw [← hS.1, ← hT.1]; exact hl
    subst hmn
    have K3 := Lib.hid (sequence_yes m k A L z W hz hI w hS hw z0 z1)
    rw [hd] at K3
    have K4 := Lib.hid (fun (V : World) (hu : Up w V) (g : Nat) (hb : Bn V g D) => same_q m m k' (some ⟨g, 0, none⟩) B D hz V (hb.sn hT.1) (hT.up hu))
    clear hS hT hI hI' hr hw z0 z1 hd hl
    go_enter Try.func6, Try.ntmps6
    go_wp2_with fail
    refine K1.out.mono ?_
    rintro e w' ⟨rfl, rfl⟩
    go_wp2_with fail
    refine K2.out.mono ?_
    rintro e w' ⟨rfl, rfl⟩
    go_wp2_with fail
    refine K3.out.mono ?_
    rintro e w1 ⟨g, rfl, hg, hb, hu⟩
    have HU := Lib.hid hu
    have HB := Lib.hid hb
    clear hu hb
    go_wp2_with fail
    refine (K4.out _ HU.out g HB.out).mono ?_
    rintro e w3 ⟨rfl, hq⟩
    have HU3 := Lib.hid (HU.out.trans (up_drew7 hq))
    clear hq
    go_wp2_with fail
    refine (KA.out _).mono ?_
    rintro e w4 ⟨rfl, hu⟩
    have HU4 := Lib.hid (HU3.out.trans hu)
    clear hu
    go_wp2_with fail
    go_ret
    exact ⟨rfl, HU4.out⟩

set_option maxRecDepth 100000 in
theorem drawNumbers_lifted (os : Os) (started : os.Started) (H : Type) (enc : TypeId × Value → H) :
    ReturnsInHanded {} Try.checked os 6 .any (Rows.drawNumbersSpec.pre6 enc Try.prog Try.f6 Rows.drawNumbersRow.domain false) (Rows.drawNumbersSpec.post enc Try.prog Try.f6 false true false false) := by
  refine returnsInHanded_of_change_sized (C := Try.checked) drawNumbers_own started (by kernel_rfl) Try.func6
    (ChangeSpec.witness6 (enc := enc) (C := Try.checked) false ⟨#[], #[.slice none 0 0, .slice none 0 0], []⟩ 8 (by kernel_rfl) (by kernel_rfl) (by kernel_rfl) (by kernel_rfl)) ?_
  intro W base args ds gs before hval0 hW hcnd hsz0 _
  have hval : ∀ (j : Nat) t v, Try.f6.params[j]? = some t → args[j]? = some v → Value.okWide Try.prog W .any base t v := hval0
  have hW' := hW
  obtain ⟨p, q, hA0, hV, rfl, hfz, hnd⟩ := hW'
  have hA : DataW.TrodAll enc Try.prog W 0 (fun _ => true) true Try.f6.params.toList args.toList ds p := hA0
  have hsz : (DataW.weightsEach Try.prog (Try.f6.params.toList ++ Rows.drawNumbersSpec.plain.varTypes Try.prog) (ds ++ gs)).all (· ≤ reachBytes) = true := hsz0
  rw [Try.params6] at hA hval hsz
  obtain ⟨v0, vs0, d0, ds0, p0, q0, hargs, rfl, rfl, h0, r0⟩ := trodAll_cons hA
  obtain ⟨v1, vs1, d1, ds1, p1, q1, rfl, rfl, rfl, h1, r1⟩ := trodAll_cons r0
  obtain ⟨rfl, rfl, rfl⟩ := trodAll_nil r1
  obtain rfl : args = #[v0, v1] := by cases args; simp_all
  obtain ⟨rfl, rfl⟩ := trodVars_none hV
  have hlt := fun x hx => hW.lt x hx
  have k0 := h0
  obtain ⟨n0, m0, A0, L0, rfl, hk0, hS0, hI0, hz0⟩ := open_nums2 (hval 0 22 v0 rfl rfl) h0
  have k1 := h1
  obtain ⟨n1, m1, A1, L1, rfl, hk1, hS1, hI1, hz1⟩ := open_nums2 (hval 1 22 v1 rfl rfl) h1
  refine (drawNumbers_walk n0 m0 A0 L0 hk0 (hz0 (fun es sp e => by subst e; exact sized_slice hsz (j := 0) (t := 22) (e := 2) rfl rfl Try.underlying22)) hI0 n1 m1 A1 L1 hk1 (hz1 (fun es sp e => by subst e; exact sized_slice hsz (j := 1) (t := 22) (e := 2) rfl rfl Try.underlying22)) hI1 W hS0 hS1).mono fun e W' ⟨he, hg⟩ => ?_
  subst he
  exact ⟨_, rfl, post_of_same (pv := []) hW (fun _ _ _ => (trodAll_cons_mk (shut_bool Try.underlying4 _) trodAll_mk0)) (fun sp hsp => (trodAll_cons_mk (stay (by kernel_rfl) (of_decide_eq_true (by kernel_rfl)) k0 hg hlt (fun x hx => by first | (simp at hx; done) | simp [hx]) hsp) (trodAll_cons_mk (stay (by kernel_rfl) (of_decide_eq_true (by kernel_rfl)) k1 hg hlt (fun x hx => by first | (simp at hx; done) | simp [hx]) hsp) trodAll_mk0))) (fun _ _ => rfl) rfl
    (hg.grown.frame _) hg.grown.2.1 (ok_one (by kernel_rfl) rfl (okWide_bool_mk Try.underlying4 _))⟩

theorem drawNumbers_over : Rows.drawNumbersRow.holds Try.pinned (OpenSpec.ofChange Rows.drawNumbersSpec) :=
  OpenClaim.holds_of_wide 6 Try.f6 rfl rfl rfl rfl rfl rfl rfl ⟨rfl, rfl, rfl, rfl, rfl⟩ rfl rfl rfl rfl rfl (by kernel_rfl) Try.func6 (by kernel_rfl)
    (of_decide_eq_true (by kernel_rfl)) (by unfold Func.isWrapper; first | (rw [if_pos (by decide +kernel)]; kernel_rfl) | (rw [if_neg (by decide +kernel)]; exact ⟨rfl, rfl⟩))
    (fun os started H enc _ => drawNumbers_lifted os started H enc)

theorem drawNumbers_holds : Rows.DrawNumbersSaid :=
  drawNumbers_over
#print axioms drawNumbers_holds
end Go.Proofs.Ytfandjmfkmdofaa
