/- Proved: for every list of int64 numbers ranges (of at most 2^47 - 4096 bytes, the form's own reach) and every int64 number n the law DrawSequences returns true: Sequence of package draw answers as the reference does. Conditions: none beside that reach. -/
import Derived.Test.YtfandjmfkmdofaaRows
import Derived.WalkKit
import Derived.ProofKit
import Derived.OpenShut
import Derived.Lib.SmallJoins
import Derived.Test.YtfandjmfkmdofaaDBase
import Derived.SizedLaws
import Derived.Test.YtfandjmfkmdofaaDSame
import Derived.Test.YtfandjmfkmdofaaDRSeq
namespace Go.Proofs.Ytfandjmfkmdofaa
open Go.ChangeShapes Go.WideShapes Go.ChangeAt Go.RowKit Go.Joins
set_option linter.unusedVariables false

theorem drawSequences_own : ownKnob Try.prog.godebug = none := by kernel_rfl

theorem drawSequences_walk (n k : Nat) (A : Option Addr) (L : List Int) (hk : n ≤ k) (hz : n * 8 ≤ 140737488351232) (hI : ∀ x ∈ L, In x) (z : Int) (h1 : (Lit.int .i64 z).wf = true) (w : World) (hS : Sn w A n L) :
    Calls Try.prog 5 #[.slice A n k, .int .i64 z] w fun e w' => e = .returned (.bool true) ∧ Up w w' := by
  have KA := Lib.hid awake7_up
  by_cases h2 : n ≤ 200
  case neg =>
    clear hS hI h1
    go_enter Try.func5, Try.ntmps5
    go_wp2_with fail
    refine (KA.out _).mono ?_
    rintro e w' ⟨rfl, hu⟩
    have HU := Lib.hid hu
    clear hu
    go_wp2_with fail
    go_ret
    exact ⟨rfl, HU.out⟩
  by_cases hy : ∃ W, wtO L = some W ∧ 0 ≤ z ∧ z < W
  · obtain ⟨W, hw, z0, z1⟩ := hy
    have K1 := Lib.hid (sequence_yes n k A L z W hz hI w hS hw z0 z1)
    have K2 := Lib.hid (fun (V : World) (hu : Up w V) => rsequence_yes n k A L z W hz hI V (hS.up hu) hw z0 z1)
    have K3 := Lib.hid (fun (V : World) (g g' : Nat) (hb : Bn V g (dg L z)) (hb' : Bn V g' (dg L z)) => same_q n n n (some ⟨g, 0, none⟩) (some ⟨g', 0, none⟩) (dg L z) hz V (hb.sn (by rw [dg_length, hS.1])) (hb'.sn (by rw [dg_length, hS.1])))
    clear hS hI h1 hw z0 z1
    generalize dg L z = D at *
    go_enter Try.func5, Try.ntmps5
    go_wp2_with fail
    refine K1.out.mono ?_
    rintro e w1 ⟨g, rfl, hg, hb, hu⟩
    have HU := Lib.hid hu
    have HB := Lib.hid hb
    clear hu hb
    go_wp2_with fail
    refine (K2.out _ HU.out).mono ?_
    rintro e w2 ⟨g', rfl, hg', hb, hu⟩
    have HU2 := Lib.hid (HU.out.trans hu)
    have HB2 := Lib.hid hb
    have HB1 := Lib.hid (HB.out.up hu)
    clear hu hb
    go_wp2_with fail
    refine (K3.out _ g g' HB1.out HB2.out).mono ?_
    rintro e w3 ⟨rfl, hq⟩
    have HU3 := Lib.hid (HU2.out.trans (up_drew7 hq))
    clear hq
    go_wp2_with fail
    refine (KA.out _).mono ?_
    rintro e w4 ⟨rfl, hu⟩
    have HU4 := Lib.hid (HU3.out.trans hu)
    clear hu
    go_wp2_with fail
    go_ret
    exact ⟨rfl, HU4.out⟩
  · have hn : ∀ W, wtO L = some W → ¬ (0 ≤ z ∧ z < W) := fun W hw h => hy ⟨W, hw, h.1, h.2⟩
    have K1 := Lib.hid (sequence_no n k A L z hz hI w hS hn)
    have K2 := Lib.hid (fun (V : World) (hu : Up w V) => rsequence_no n k A L z hz hI V (hS.up hu) hn)
    have K3 := Lib.hid (fun (V : World) => same_q 0 0 0 none none [] (by omega) V Sn.none_ Sn.none_)
    clear hS hI h1 hy hn
    go_enter Try.func5, Try.ntmps5
    go_wp2_with fail
    refine K1.out.mono ?_
    rintro e w1 ⟨rfl, hu⟩
    have HU := Lib.hid hu
    clear hu
    go_wp2_with fail
    refine (K2.out _ HU.out).mono ?_
    rintro e w2 ⟨rfl, hu⟩
    have HU2 := Lib.hid (HU.out.trans hu)
    clear hu
    go_wp2_with fail
    refine (K3.out _).mono ?_
    rintro e w3 ⟨rfl, hq⟩
    have HU3 := Lib.hid (HU2.out.trans (up_drew7 hq))
    clear hq
    go_wp2_with fail
    refine (KA.out _).mono ?_
    rintro e w4 ⟨rfl, hu⟩
    have HU4 := Lib.hid (HU3.out.trans hu)
    clear hu
    go_wp2_with fail
    go_ret
    exact ⟨rfl, HU4.out⟩

set_option maxRecDepth 100000 in
theorem drawSequences_lifted (os : Os) (started : os.Started) (H : Type) (enc : TypeId × Value → H) :
    ReturnsInHanded {} Try.checked os 5 .any (Rows.drawSequencesSpec.pre6 enc Try.prog Try.f5 Rows.drawSequencesRow.domain false) (Rows.drawSequencesSpec.post enc Try.prog Try.f5 false true false false) := by
  refine returnsInHanded_of_change_sized (C := Try.checked) drawSequences_own started (by kernel_rfl) Try.func5
    (ChangeSpec.witness6 (enc := enc) (C := Try.checked) false ⟨#[], #[.slice none 0 0, .int .i64 0], []⟩ 8 (by kernel_rfl) (by kernel_rfl) (by kernel_rfl) (by kernel_rfl)) ?_
  intro W base args ds gs before hval0 hW hcnd hsz0 _
  have hval : ∀ (j : Nat) t v, Try.f5.params[j]? = some t → args[j]? = some v → Value.okWide Try.prog W .any base t v := hval0
  have hW' := hW
  obtain ⟨p, q, hA0, hV, rfl, hfz, hnd⟩ := hW'
  have hA : DataW.TrodAll enc Try.prog W 0 (fun _ => true) true Try.f5.params.toList args.toList ds p := hA0
  have hsz : (DataW.weightsEach Try.prog (Try.f5.params.toList ++ Rows.drawSequencesSpec.plain.varTypes Try.prog) (ds ++ gs)).all (· ≤ reachBytes) = true := hsz0
  rw [Try.params5] at hA hval hsz
  obtain ⟨v0, vs0, d0, ds0, p0, q0, hargs, rfl, rfl, h0, r0⟩ := trodAll_cons hA
  obtain ⟨v1, vs1, d1, ds1, p1, q1, rfl, rfl, rfl, h1, r1⟩ := trodAll_cons r0
  obtain ⟨rfl, rfl, rfl⟩ := trodAll_nil r1
  obtain rfl : args = #[v0, v1] := by cases args; simp_all
  obtain ⟨rfl, rfl⟩ := trodVars_none hV
  have hlt := fun x hx => hW.lt x hx
  have k0 := h0
  obtain ⟨n0, m0, A0, L0, rfl, hk0, hS0, hI0, hz0⟩ := open_nums2 (hval 0 22 v0 rfl rfl) h0
  have k1 := h1
  obtain ⟨a1, rfl, rfl, rfl, w1⟩ := open_int Try.underlying2 (hval 1 2 v1 rfl rfl) h1
  refine (drawSequences_walk n0 m0 A0 L0 hk0 (hz0 (fun es sp e => by subst e; exact sized_slice hsz (j := 0) (t := 22) (e := 2) rfl rfl Try.underlying22)) hI0 a1 w1 W hS0).mono fun e W' ⟨he, hg⟩ => ?_
  subst he
  exact ⟨_, rfl, post_of_same (pv := []) hW (fun _ _ _ => (trodAll_cons_mk (shut_bool Try.underlying4 _) trodAll_mk0)) (fun sp hsp => (trodAll_cons_mk (stay (by kernel_rfl) (of_decide_eq_true (by kernel_rfl)) k0 hg hlt (fun x hx => by first | (simp at hx; done) | simp [hx]) hsp) (trodAll_cons_mk (stay (by kernel_rfl) (of_decide_eq_true (by kernel_rfl)) k1 hg hlt (fun x hx => by first | (simp at hx; done) | simp [hx]) hsp) trodAll_mk0))) (fun _ _ => rfl) rfl
    (hg.grown.frame _) hg.grown.2.1 (ok_one (by kernel_rfl) rfl (okWide_bool_mk Try.underlying4 _))⟩

theorem drawSequences_over : Rows.drawSequencesRow.holds Try.pinned (OpenSpec.ofChange Rows.drawSequencesSpec) :=
  OpenClaim.holds_of_wide 5 Try.f5 rfl rfl rfl rfl rfl rfl rfl ⟨rfl, rfl, rfl, rfl, rfl⟩ rfl rfl rfl rfl rfl (by kernel_rfl) Try.func5 (by kernel_rfl)
    (of_decide_eq_true (by kernel_rfl)) (by unfold Func.isWrapper; first | (rw [if_pos (by decide +kernel)]; kernel_rfl) | (rw [if_neg (by decide +kernel)]; exact ⟨rfl, rfl⟩))
    (fun os started H enc _ => drawSequences_lifted os started H enc)

theorem drawSequences_holds : Rows.DrawSequencesSaid :=
  drawSequences_over
#print axioms drawSequences_holds
end Go.Proofs.Ytfandjmfkmdofaa
