/- Proved: for all wide numbers a and b the law WideDivides returns true: wide.Div answers as the reference does. Conditions: none. -/
import Derived.Test.YtkhgibpginbdcaaRows
import Derived.WalkKit
import Derived.ProofKit
import Derived.OpenShut
import Derived.Lib.SmallJoins
import Derived.Test.YtkhgibpginbdcaaWDivide
import Derived.Test.YtkhgibpginbdcaaWRDiv2
namespace Go.Proofs.Ytkhgibpginbdcaa
open Go.ChangeShapes Go.WideShapes Go.ChangeAt Go.RowKit Go.Joins
set_option linter.unusedVariables false

theorem wideDivides_own : ownKnob Try.prog.godebug = none := by kernel_rfl
theorem wideDivides_cells : Try.prog.cellsOf 24 = 2 := by kernel_rfl

theorem wideDivides_walk (ah al bh bl : Int) (w0 : (Lit.int .u64 ah).wf = true) (w1 : (Lit.int .u64 al).wf = true) (w2 : (Lit.int .u64 bh).wf = true) (w3 : (Lit.int .u64 bl).wf = true) (w : World) :
    Calls Try.prog 6 #[.agg #[.int .u64 ah, .int .u64 al], .agg #[.int .u64 bh, .int .u64 bl]] w fun e w' => e = .returned (.bool true) ∧ Grown w w' := by
  have h1 := word_of_wf w0
  have h2 := word_of_wf w1
  have h3 := word_of_wf w2
  have h4 := word_of_wf w3
  clear w0 w1 w2 w3
  have hx : ∃ (q r : Int) (b : Bool), (∀ W, Calls Try.prog 26 #[.agg #[.int .u64 ah, .int .u64 al], .agg #[.int .u64 bh, .int .u64 bl]] W fun e w' => e = .returned (.tuple #[.agg #[.int .u64 (hiZ q), .int .u64 (loZ q)], .agg #[.int .u64 (hiZ r), .int .u64 (loZ r)], .bool b]) ∧ Up W w') ∧
      (∀ W, Calls Try.prog 27 #[.agg #[.int .u64 ah, .int .u64 al], .agg #[.int .u64 bh, .int .u64 bl]] W fun e w' => e = .returned (.tuple #[.agg #[.int .u64 (hiZ q), .int .u64 (loZ q)], .agg #[.int .u64 (hiZ r), .int .u64 (loZ r)], .bool b]) ∧ Up W w') := by
    by_cases hz : val bh bl = 0
    · have z1 : bh = 0 := by obtain ⟨c1, _⟩ := h3; obtain ⟨d1, _⟩ := h4; unfold val at hz; omega
      have z2 : bl = 0 := by obtain ⟨c1, _⟩ := h3; obtain ⟨d1, _⟩ := h4; unfold val at hz; omega
      refine ⟨0, 0, false, fun W => ?_, fun W => ?_⟩
      · rw [hiZ_0, loZ_0]; exact div_zero ah al bh bl h3 h4 hz W
      · rw [hiZ_0, loZ_0]; exact rdiv_zero ah al bh bl z1 z2 W
    · refine ⟨_, _, true, fun W => div_pos ah al bh bl h1 h2 h3 h4 hz W, fun W => rdiv_pos ah al bh bl h1 h2 h3 h4 hz ?_ W⟩
      by_cases z1 : bh = 0
      · exact Or.inr ⟨beq_iff_eq.2 z1, beq_eq_false_iff_ne.2 (fun h => hz (by unfold val; omega))⟩
      · exact Or.inl (beq_eq_false_iff_ne.2 z1)
  obtain ⟨q, r, b, hD, hR⟩ := hx
  have HD := Lib.hid hD
  have HR := Lib.hid hR
  clear hD hR
  go_enter Try.func6, Try.ntmps6
  go_wp2_with fail
  refine (HD.out _).mono ?_
  rintro e w1 ⟨rfl, hu1⟩
  obtain ⟨hc1, hz1⟩ := hu1.cells
  have hs1 := hu1.size
  try simp at hs1
  try unfold got2
  have p1_0 : w.heap.size < w1.heap.size := by omega
  have p1_1 : w.heap.size + 1 < w1.heap.size := by omega
  go_wp2_with fail
  refine (HR.out _).mono ?_
  rintro e w2 ⟨rfl, hu2⟩
  have Q0 := hu2.keep w1.heap.size 0 (.int .u64 (hiZ q)) (by simp [go_sem])
  have Q1 := hu2.keep w1.heap.size 1 (.int .u64 (loZ q)) (by simp [go_sem])
  have R0 := hu2.keep (w1.heap.size + 1) 0 (.int .u64 (hiZ r)) (by simp [go_sem])
  have R1 := hu2.keep (w1.heap.size + 1) 1 (.int .u64 (loZ r)) (by simp [go_sem])
  have hs2 := hu2.size
  simp at hs2
  have p2_0 : w1.heap.size < w2.heap.size := by omega
  have p2_1 : w1.heap.size + 1 < w2.heap.size := by omega
  have p2_2 : w1.heap.size < w2.heap.size + 1 := by omega
  clear hc1 hz1
  go_wp2_with fail
  refine (awake_up _).mono ?_
  rintro e w3 ⟨rfl, hu3⟩
  go_wp2
  go_ret
  refine ⟨rfl, Up.grown ?_⟩
  repeat (first | exact Up.refl _ | refine Up.trans ?_ hu3 | refine Up.trans ?_ hu2 | refine Up.trans ?_ hu1 | refine Up.alloc ?_ _ _ | refine Up.setCell ?_ (by first | (simp; done) | (simp; omega) | omega) _ | refine Up.drewN ?_ _ | refine Up.drew ?_)

set_option maxRecDepth 100000 in
theorem wideDivides_lifted (os : Os) (started : os.Started) (H : Type) (enc : TypeId × Value → H) :
    ReturnsInHanded {} Try.checked os 6 .any (Rows.wideDividesSpec.pre6 enc Try.prog Try.f6 Rows.wideDividesRow.domain false) (Rows.wideDividesSpec.post enc Try.prog Try.f6 false true false false) := by
  refine returnsInHanded_of_change (C := Try.checked) wideDivides_own started (by kernel_rfl) Try.func6
    (ChangeSpec.witness6 (enc := enc) (C := Try.checked) false ⟨#[], #[.agg #[.int .u64 0, .int .u64 0], .agg #[.int .u64 0, .int .u64 0]], []⟩ 8 (by kernel_rfl) (by kernel_rfl) (by kernel_rfl) (by kernel_rfl)) ?_
  intro W base args ds gs before hval0 hW hcnd _
  have hval : ∀ (j : Nat) t v, Try.f6.params[j]? = some t → args[j]? = some v → Value.okWide Try.prog W .any base t v := hval0
  have hW' := hW
  obtain ⟨p, q, hA0, hV, rfl, hfz, hnd⟩ := hW
  have hA : DataW.TrodAll enc Try.prog W 0 (fun _ => true) true Try.f6.params.toList args.toList ds p := hA0
  rw [Try.params6] at hA hval
  obtain ⟨v0, vs0, d0, ds0, p0, q0, hargs, rfl, rfl, h0, r0⟩ := trodAll_cons hA
  obtain ⟨v1, vs1, d1, ds1, p1, q1, rfl, rfl, rfl, h1, r1⟩ := trodAll_cons r0
  obtain ⟨rfl, rfl, rfl⟩ := trodAll_nil r1
  obtain rfl : args = #[v0, v1] := by cases args; simp_all
  obtain ⟨rfl, rfl⟩ := trodVars_none hV
  obtain ⟨ca0, cb0, ya0, yb0, m0, rfl, rfl, rfl, hya0, hyb0⟩ := open_agg2 Try.underlying24 (by kernel_rfl) wideDivides_cells (hval 0 24 v0 rfl rfl) h0
  obtain ⟨a0, ea0, rfl, w0⟩ := DataW.trod_int Try.underlying22 hya0
  obtain ⟨b0, eb0, rfl, x0⟩ := DataW.trod_int Try.underlying22 hyb0
  simp at ea0 eb0
  subst ea0 eb0
  obtain ⟨ca1, cb1, ya1, yb1, m1, rfl, rfl, rfl, hya1, hyb1⟩ := open_agg2 Try.underlying24 (by kernel_rfl) wideDivides_cells (hval 1 24 v1 rfl rfl) h1
  obtain ⟨a1, ea1, rfl, w1⟩ := DataW.trod_int Try.underlying22 hya1
  obtain ⟨b1, eb1, rfl, x1⟩ := DataW.trod_int Try.underlying22 hyb1
  simp at ea1 eb1
  subst ea1 eb1
  clear hA0 hval0
  simp only [List.append_nil] at hW'
  refine (wideDivides_walk a0 b0 a1 b1 w0 x0 w1 x1 W).mono fun e W' ⟨he, hg⟩ => ?_
  subst he
  exact ⟨_, rfl, post_of_same (pa := []) (pv := []) hW' (fun _ _ _ => (trodAll_cons_mk (shut_bool Try.underlying4 _) trodAll_mk0)) (fun sp _ => (trodAll_cons_mk (shut_agg2 (y0 := (.lit (.int .u64 a0), [])) (y1 := (.lit (.int .u64 b0), [])) Try.underlying24 (by kernel_rfl) wideDivides_cells ⟨1, by simp [DataW.trod, Try.underlying22, w0]⟩ ⟨1, by simp [DataW.trod, Try.underlying22, x0]⟩) (trodAll_cons_mk (shut_agg2 (y0 := (.lit (.int .u64 a1), [])) (y1 := (.lit (.int .u64 b1), [])) Try.underlying24 (by kernel_rfl) wideDivides_cells ⟨1, by simp [DataW.trod, Try.underlying22, w1]⟩ ⟨1, by simp [DataW.trod, Try.underlying22, x1]⟩) trodAll_mk0))) (fun _ _ => rfl) rfl
    (hg.frame _) hg.2.1 (ok_one (by kernel_rfl) rfl (okWide_bool_mk Try.underlying4 _))⟩

theorem wideDivides_over : Rows.wideDividesRow.holds Try.pinned (OpenSpec.ofChange Rows.wideDividesSpec) :=
  OpenClaim.holds_of_wide 6 Try.f6 rfl rfl rfl rfl rfl rfl rfl ⟨rfl, rfl, rfl, rfl, rfl⟩ rfl rfl rfl rfl rfl (by kernel_rfl) Try.func6 (by kernel_rfl)
    (of_decide_eq_true (by kernel_rfl)) (by unfold Func.isWrapper; first | (rw [if_pos (by decide +kernel)]; kernel_rfl) | (rw [if_neg (by decide +kernel)]; exact ⟨rfl, rfl⟩))
    (fun os started H enc _ => wideDivides_lifted os started H enc)

theorem wideDivides_holds : Rows.WideDividesSaid :=
  wideDivides_over
#print axioms wideDivides_holds
end Go.Proofs.Ytkhgibpginbdcaa
