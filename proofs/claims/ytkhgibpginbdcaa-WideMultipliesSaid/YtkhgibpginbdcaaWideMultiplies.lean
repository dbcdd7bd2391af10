/- Proved: for all wide numbers a and b the law WideMultiplies returns true: wide.Mul, wide.Product and wide.Of answer as the reference does. Conditions: none. -/
import Derived.Test.YtkhgibpginbdcaaRows
import Derived.WalkKit
import Derived.ProofKit
import Derived.OpenShut
import Derived.Lib.SmallJoins
import Derived.Test.YtkhgibpginbdcaaWMul2
import Derived.Test.YtkhgibpginbdcaaWMul3
import Derived.Test.YtkhgibpginbdcaaWKeep
import Derived.Deep.RegionHeld3
namespace Go.Proofs.Ytkhgibpginbdcaa
open Go.ChangeShapes Go.WideShapes Go.ChangeAt Go.RowKit Go.Joins
set_option linter.unusedVariables false

theorem wideMultiplies_own : ownKnob Try.prog.godebug = none := by kernel_rfl
theorem wideMultiplies_cells : Try.prog.cellsOf 24 = 2 := by kernel_rfl

set_option maxHeartbeats 4000000 in
set_option maxRecDepth 100000 in
theorem wideMultiplies_walk (ah al bh bl : Int) (w0 : (Lit.int .u64 ah).wf = true) (w1 : (Lit.int .u64 al).wf = true) (w2 : (Lit.int .u64 bh).wf = true) (w3 : (Lit.int .u64 bl).wf = true) (w : World) :
    Calls Try.prog 4 #[.agg #[.int .u64 ah, .int .u64 al], .agg #[.int .u64 bh, .int .u64 bl]] w fun e w' => e = .returned (.bool true) ∧ Grown w w' := by
  have h1 := word_of_wf w0
  have h2 := word_of_wf w1
  have h3 := word_of_wf w2
  have h4 := word_of_wf w3
  clear w0 w1 w2 w3
  go_enter Try.func4, Try.ntmps4
  go_wp2_with fail
  refine (mul_up ah al bh bl h1 h2 h3 h4 _).mono ?_
  rintro e w1 ⟨rfl, hu1⟩
  obtain ⟨hc1, hz1⟩ := hu1.cells
  have hs1 := hu1.size
  try simp at hs1
  try unfold got2
  have p1_0 : w.heap.size < w1.heap.size := by omega
  have p1_1 : w.heap.size + 1 < w1.heap.size := by omega
  go_wp2_with fail
  refine (rmul_up ah al bh bl h1 h2 h3 h4 _).mono ?_
  rintro e w2 ⟨rfl, hu2⟩
  obtain ⟨hc2, hz2⟩ := hu2.cells
  have hs2 := hu2.size
  try simp at hs2
  try unfold got2
  have p2_0 : w.heap.size < w2.heap.size := by omega
  have p2_1 : w.heap.size + 1 < w2.heap.size := by omega
  have p2_2 : w1.heap.size < w2.heap.size := by omega
  go_wp2_with fail
  go_region_held3 (fun w' => Up w w' ∧ w'.cell? ⟨w.heap.size, 0, none⟩ = some (.int .u64 ah) ∧ w'.cell? ⟨w.heap.size, 1, none⟩ = some (.int .u64 al) ∧ w'.cell? ⟨w.heap.size + 1, 0, none⟩ = some (.int .u64 bh) ∧ w'.cell? ⟨w1.heap.size, 0, none⟩ = some (.int .u64 (hiZ (fit2 (val ah al * val bh bl)))) ∧ w'.cell? ⟨w1.heap.size, 1, none⟩ = some (.int .u64 (loZ (fit2 (val ah al * val bh bl)))) ∧ w'.cell? ⟨w2.heap.size, 0, none⟩ = some (.int .u64 (hiZ (fit2 (val ah al * val bh bl)))) ∧ w'.cell? ⟨w2.heap.size, 1, none⟩ = some (.int .u64 (loZ (fit2 (val ah al * val bh bl)))))
    (first | (exact keep7 (by assumption) (by assumption)) | (refine ⟨?_, by simp [go_sem, *], by simp [go_sem, *], by simp [go_sem, *], by simp [go_sem, *], by simp [go_sem, *], by simp [go_sem, *], by simp [go_sem, *]⟩; repeat (first | exact Up.refl _ | refine Up.trans ?_ hu2 | refine Up.trans ?_ hu1 | refine Up.alloc ?_ _ _ | refine Up.setCell ?_ (by first | (simp; done) | (simp; omega) | omega) _ | refine Up.drewN ?_ _ | refine Up.drew ?_)))
    (first
      | (go_at_call 20; (with_reducible refine (product_up al bh h2 h3 _).mono ?_); rintro e w' ⟨rfl, hu⟩; have HU := Lib.hid hu; clear hu)
      | (go_at_call 21; (with_reducible refine (rproduct_up al bh h2 h3 _).mono ?_); rintro e w' ⟨rfl, hu⟩; have HU := Lib.hid hu; clear hu)
      | (go_at_call 22; (with_reducible refine (of_up ah _).mono ?_); rintro e w' ⟨rfl, hu⟩; have HU := Lib.hid hu; clear hu)
      | (go_at_call 23; (with_reducible refine (rof_up ah _).mono ?_); rintro e w' ⟨rfl, hu⟩; have HU := Lib.hid hu; clear hu)
      | (go_at_call 17; (with_reducible refine (awake_up _).mono ?_); rintro e w' ⟨rfl, hu⟩; have HU := Lib.hid hu; clear hu))
  all_goals
    go_wp2
    go_ret
    exact ⟨rfl, Up.grown (And.left (by assumption))⟩

set_option maxRecDepth 100000 in
theorem wideMultiplies_lifted (os : Os) (started : os.Started) (H : Type) (enc : TypeId × Value → H) :
    ReturnsInHanded {} Try.checked os 4 .any (Rows.wideMultipliesSpec.pre6 enc Try.prog Try.f4 Rows.wideMultipliesRow.domain false) (Rows.wideMultipliesSpec.post enc Try.prog Try.f4 false true false false) := by
  refine returnsInHanded_of_change (C := Try.checked) wideMultiplies_own started (by kernel_rfl) Try.func4
    (ChangeSpec.witness6 (enc := enc) (C := Try.checked) false ⟨#[], #[.agg #[.int .u64 0, .int .u64 0], .agg #[.int .u64 0, .int .u64 0]], []⟩ 8 (by kernel_rfl) (by kernel_rfl) (by kernel_rfl) (by kernel_rfl)) ?_
  intro W base args ds gs before hval0 hW hcnd _
  have hval : ∀ (j : Nat) t v, Try.f4.params[j]? = some t → args[j]? = some v → Value.okWide Try.prog W .any base t v := hval0
  have hW' := hW
  obtain ⟨p, q, hA0, hV, rfl, hfz, hnd⟩ := hW
  have hA : DataW.TrodAll enc Try.prog W 0 (fun _ => true) true Try.f4.params.toList args.toList ds p := hA0
  rw [Try.params4] at hA hval
  obtain ⟨v0, vs0, d0, ds0, p0, q0, hargs, rfl, rfl, h0, r0⟩ := trodAll_cons hA
  obtain ⟨v1, vs1, d1, ds1, p1, q1, rfl, rfl, rfl, h1, r1⟩ := trodAll_cons r0
  obtain ⟨rfl, rfl, rfl⟩ := trodAll_nil r1
  obtain rfl : args = #[v0, v1] := by cases args; simp_all
  obtain ⟨rfl, rfl⟩ := trodVars_none hV
  obtain ⟨ca0, cb0, ya0, yb0, m0, rfl, rfl, rfl, hya0, hyb0⟩ := open_agg2 Try.underlying24 (by kernel_rfl) wideMultiplies_cells (hval 0 24 v0 rfl rfl) h0
  obtain ⟨a0, ea0, rfl, w0⟩ := DataW.trod_int Try.underlying22 hya0
  obtain ⟨b0, eb0, rfl, x0⟩ := DataW.trod_int Try.underlying22 hyb0
  simp at ea0 eb0
  subst ea0 eb0
  obtain ⟨ca1, cb1, ya1, yb1, m1, rfl, rfl, rfl, hya1, hyb1⟩ := open_agg2 Try.underlying24 (by kernel_rfl) wideMultiplies_cells (hval 1 24 v1 rfl rfl) h1
  obtain ⟨a1, ea1, rfl, w1⟩ := DataW.trod_int Try.underlying22 hya1
  obtain ⟨b1, eb1, rfl, x1⟩ := DataW.trod_int Try.underlying22 hyb1
  simp at ea1 eb1
  subst ea1 eb1
  clear hA0 hval0
  simp only [List.append_nil] at hW'
  refine (wideMultiplies_walk a0 b0 a1 b1 w0 x0 w1 x1 W).mono fun e W' ⟨he, hg⟩ => ?_
  subst he
  exact ⟨_, rfl, post_of_same (pa := []) (pv := []) hW' (fun _ _ _ => (trodAll_cons_mk (shut_bool Try.underlying4 _) trodAll_mk0)) (fun sp _ => (trodAll_cons_mk (shut_agg2 (y0 := (.lit (.int .u64 a0), [])) (y1 := (.lit (.int .u64 b0), [])) Try.underlying24 (by kernel_rfl) wideMultiplies_cells ⟨1, by simp [DataW.trod, Try.underlying22, w0]⟩ ⟨1, by simp [DataW.trod, Try.underlying22, x0]⟩) (trodAll_cons_mk (shut_agg2 (y0 := (.lit (.int .u64 a1), [])) (y1 := (.lit (.int .u64 b1), [])) Try.underlying24 (by kernel_rfl) wideMultiplies_cells ⟨1, by simp [DataW.trod, Try.underlying22, w1]⟩ ⟨1, by simp [DataW.trod, Try.underlying22, x1]⟩) trodAll_mk0))) (fun _ _ => rfl) rfl
    (hg.frame _) hg.2.1 (ok_one (by kernel_rfl) rfl (okWide_bool_mk Try.underlying4 _))⟩

theorem wideMultiplies_over : Rows.wideMultipliesRow.holds Try.pinned (OpenSpec.ofChange Rows.wideMultipliesSpec) :=
  OpenClaim.holds_of_wide 4 Try.f4 rfl rfl rfl rfl rfl rfl rfl ⟨rfl, rfl, rfl, rfl, rfl⟩ rfl rfl rfl rfl rfl (by kernel_rfl) Try.func4 (by kernel_rfl)
    (of_decide_eq_true (by kernel_rfl)) (by unfold Func.isWrapper; first | (rw [if_pos (by decide +kernel)]; kernel_rfl) | (rw [if_neg (by decide +kernel)]; exact ⟨rfl, rfl⟩))
    (fun os started H enc _ => wideMultiplies_lifted os started H enc)

theorem wideMultiplies_holds : Rows.WideMultipliesSaid :=
  wideMultiplies_over
#print axioms wideMultiplies_holds
end Go.Proofs.Ytkhgibpginbdcaa
