/- Proved: for all wide numbers a and b the law WideRemains returns true: the quotient times the divisor plus the remainder is the dividend, and the remainder is less than the divisor. Conditions: none. -/
import Derived.Test.YtkhgibpginbdcaaRows
import Derived.WalkKit
import Derived.ProofKit
import Derived.OpenShut
import Derived.Lib.SmallJoins
import Derived.Test.YtkhgibpginbdcaaWDivide
namespace Go.Proofs.Ytkhgibpginbdcaa
open Go.ChangeShapes Go.WideShapes Go.ChangeAt Go.RowKit Go.Joins
set_option linter.unusedVariables false

theorem wideRemains_own : ownKnob Try.prog.godebug = none := by kernel_rfl
theorem wideRemains_cells : Try.prog.cellsOf 24 = 2 := by kernel_rfl

theorem wideRemains_walk (ah al bh bl : Int) (w0 : (Lit.int .u64 ah).wf = true) (w1 : (Lit.int .u64 al).wf = true) (w2 : (Lit.int .u64 bh).wf = true) (w3 : (Lit.int .u64 bl).wf = true) (w : World) :
    Calls Try.prog 7 #[.agg #[.int .u64 ah, .int .u64 al], .agg #[.int .u64 bh, .int .u64 bl]] w fun e w' => e = .returned (.bool true) ∧ Grown w w' := by
  have h1 := word_of_wf w0
  have h2 := word_of_wf w1
  have h3 := word_of_wf w2
  have h4 := word_of_wf w3
  clear w0 w1 w2 w3
  by_cases hz : val bh bl = 0
  · have z1 : bh = 0 := by obtain ⟨c1, _⟩ := h3; obtain ⟨d1, _⟩ := h4; unfold val at hz; omega
    have z2 : bl = 0 := by obtain ⟨c1, _⟩ := h3; obtain ⟨d1, _⟩ := h4; unfold val at hz; omega
    have HD := Lib.hid (fun W => div_zero ah al bh bl h3 h4 hz W)
    have t1 : (bh == 0) = true := beq_iff_eq.2 z1
    have t2 : (bl == 0) = true := beq_iff_eq.2 z2
    clear hz z1 z2
    go_enter Try.func7, Try.ntmps7
    go_wp2_with fail
    refine (HD.out _).mono ?_
    rintro e w1 ⟨rfl, hu1⟩
    obtain ⟨hc1, hz1⟩ := hu1.cells
    have hs1 := hu1.size
    try simp at hs1
    try unfold got2
    have p1_0 : w.heap.size < w1.heap.size := by omega
    have p1_1 : w.heap.size + 1 < w1.heap.size := by omega
    go_wp2_with fail
    refine (awake_up _).mono ?_
    rintro e w2 ⟨rfl, hu2⟩
    go_wp2
    go_ret
    refine ⟨rfl, Up.grown ?_⟩
    repeat (first | exact Up.refl _ | refine Up.trans ?_ hu2 | refine Up.trans ?_ hu1 | refine Up.alloc ?_ _ _ | refine Up.setCell ?_ (by first | (simp; done) | (simp; omega) | omega) _ | refine Up.drewN ?_ _ | refine Up.drew ?_)
  · have HD := Lib.hid (fun W => div_pos ah al bh bl h1 h2 h3 h4 hz W)
    have ha := val_in h1 h2
    have hb := val_in h3 h4
    have hb0 : 0 < val bh bl := by obtain ⟨b1, _⟩ := hb; omega
    have e := Int.mul_ediv_add_emod (val ah al) (val bh bl)
    have m0 := Int.emod_nonneg (val ah al) hz
    have m1 := Int.emod_lt_of_pos (val ah al) hb0
    have q0 : 0 ≤ val ah al / val bh bl := Int.ediv_nonneg ha.1 (by omega)
    have q1 : val ah al / val bh bl ≤ val ah al := Int.ediv_le_self _ ha.1
    have eh := (hilo_of (v := val ah al) h2 rfl).1
    have el := (hilo_of (v := val ah al) h2 rfl).2
    have d0 : val bh bl * (val ah al / val bh bl) = val ah al / val bh bl * val bh bl := Int.mul_comm _ _
    rw [d0] at e
    have n0 : 0 ≤ val ah al / val bh bl * val bh bl := Int.mul_nonneg q0 (by omega)
    generalize hq : val ah al / val bh bl = q at *
    generalize hr : val ah al % val bh bl = r at *
    have iq : In2 q := by unfold In2 at *; omega
    have ir : In2 r := by unfold In2 at *; omega
    have im : In2 (q * val bh bl) := by unfold In2 at *; omega
    have HM := Lib.hid (show ∀ W, Calls Try.prog 18 #[.agg #[.int .u64 (hiZ q), .int .u64 (loZ q)], .agg #[.int .u64 bh, .int .u64 bl]] W fun e w' => e = got2 (q * val bh bl) true ∧ Up W w' from fun W => by
      have h := mul_up (hiZ q) (loZ q) bh bl (hiZ_word iq) (loZ_word q) h3 h4 W
      rw [val_hilo, fit2_yes im, fits2_yes im] at h
      exact h)
    have HA := Lib.hid (show ∀ W, Calls Try.prog 13 #[.agg #[.int .u64 (hiZ (q * val bh bl)), .int .u64 (loZ (q * val bh bl))], .agg #[.int .u64 (hiZ r), .int .u64 (loZ r)]] W fun e w' => e = .returned (.tuple #[.agg #[.int .u64 ah, .int .u64 al], .bool true]) ∧ Up W w' from fun W => by
      have h := add_up (hiZ (q * val bh bl)) (loZ (q * val bh bl)) (hiZ r) (loZ r) (hiZ_word im) (loZ_word _) (hiZ_word ir) (loZ_word r) W
      rw [val_hilo, val_hilo, e, fit2_yes ha, fits2_yes ha] at h
      unfold got2 at h
      rw [eh, el] at h
      exact h)
    have HC := Lib.hid (show ∀ W, Calls Try.prog 28 #[.agg #[.int .u64 (hiZ r), .int .u64 (loZ r)], .agg #[.int .u64 bh, .int .u64 bl]] W fun e w' => e = .returned (.int .i64 (-1)) ∧ Up W w' from fun W => by
      have h := compare_up (hiZ r) (loZ r) bh bl (hiZ_word ir) (loZ_word r) h3 h4 W
      rw [val_hilo, cmpZ_lt m1] at h
      exact h)
    have HZ := Lib.hid hz
    clear hz ha hb hb0 e m0 m1 q0 q1 eh el d0 n0 hq hr iq ir im
    by_cases z1 : bh = 0
    all_goals
      first
        | (have z2 : bl ≠ 0 := fun h => HZ.out (by unfold val; omega)
           have t1 : (bh == 0) = true := beq_iff_eq.2 z1
           have t2 : (bl == 0) = false := beq_eq_false_iff_ne.2 z2
           clear z1 z2)
        | (have t1 : (bh == 0) = false := beq_eq_false_iff_ne.2 z1
           clear z1)
      go_enter Try.func7, Try.ntmps7
      go_wp2_with fail
      refine (HD.out _).mono ?_
      rintro e w1 ⟨rfl, hu1⟩
      obtain ⟨hc1, hz1⟩ := hu1.cells
      have hs1 := hu1.size
      try simp at hs1
      try unfold got2
      have p1_0 : w.heap.size < w1.heap.size := by omega
      have p1_1 : w.heap.size + 1 < w1.heap.size := by omega
      go_wp2_with fail
      refine (HM.out _).mono ?_
      rintro e w2 ⟨rfl, hu2⟩
      unfold got2
      have A0 := hu2.keep w.heap.size 0 (.int .u64 ah) (by simp [go_sem, *])
      have A1 := hu2.keep w.heap.size 1 (.int .u64 al) (by simp [go_sem, *])
      have B0 := hu2.keep (w.heap.size + 1) 0 (.int .u64 bh) (by simp [go_sem, *])
      have B1 := hu2.keep (w.heap.size + 1) 1 (.int .u64 bl) (by simp [go_sem, *])
      have R0 := hu2.keep (w1.heap.size + 1) 0 (.int .u64 (hiZ r)) (by simp [go_sem, *])
      have R1 := hu2.keep (w1.heap.size + 1) 1 (.int .u64 (loZ r)) (by simp [go_sem, *])
      have hs2 := hu2.size
      simp at hs2
      have p2_0 : w.heap.size < w2.heap.size := by omega
      have p2_1 : w.heap.size + 1 < w2.heap.size := by omega
      have p2_2 : w1.heap.size + 1 < w2.heap.size := by omega
      have p2_3 : w1.heap.size < w2.heap.size := by omega
      clear hc1 hz1
      go_wp2_with fail
      refine (HA.out _).mono ?_
      rintro e w3 ⟨rfl, hu3⟩
      obtain ⟨hc3, hz3⟩ := hu3.cells
      have hs3 := hu3.size
      try simp at hs3
      try unfold got2
      have p3_0 : w.heap.size < w3.heap.size := by omega
      have p3_1 : w.heap.size + 1 < w3.heap.size := by omega
      have p3_2 : w1.heap.size + 1 < w3.heap.size := by omega
      have p3_3 : w2.heap.size < w3.heap.size := by omega
      have p3_4 : w1.heap.size < w3.heap.size := by omega
      go_wp2_with fail
      refine (HC.out _).mono ?_
      rintro e w4 ⟨rfl, hu4⟩
      obtain ⟨hc4, hz4⟩ := hu4.cells
      have hs4 := hu4.size
      try simp at hs4
      try unfold got2
      have p4_0 : w.heap.size < w4.heap.size := by omega
      have p4_1 : w.heap.size + 1 < w4.heap.size := by omega
      have p4_2 : w1.heap.size + 1 < w4.heap.size := by omega
      have p4_3 : w2.heap.size < w4.heap.size := by omega
      have p4_4 : w3.heap.size < w4.heap.size := by omega
      have p4_5 : w1.heap.size < w4.heap.size := by omega
      go_wp2_with fail
      refine (awake_up _).mono ?_
      rintro e w5 ⟨rfl, hu5⟩
      go_wp2
      go_ret
      refine ⟨rfl, Up.grown ?_⟩
      repeat (first | exact Up.refl _ | refine Up.trans ?_ hu5 | refine Up.trans ?_ hu4 | refine Up.trans ?_ hu3 | refine Up.trans ?_ hu2 | refine Up.trans ?_ hu1 | refine Up.alloc ?_ _ _ | refine Up.setCell ?_ (by first | (simp; done) | (simp; omega) | omega) _ | refine Up.drewN ?_ _ | refine Up.drew ?_)

set_option maxRecDepth 100000 in
theorem wideRemains_lifted (os : Os) (started : os.Started) (H : Type) (enc : TypeId × Value → H) :
    ReturnsInHanded {} Try.checked os 7 .any (Rows.wideRemainsSpec.pre6 enc Try.prog Try.f7 Rows.wideRemainsRow.domain false) (Rows.wideRemainsSpec.post enc Try.prog Try.f7 false true false false) := by
  refine returnsInHanded_of_change (C := Try.checked) wideRemains_own started (by kernel_rfl) Try.func7
    (ChangeSpec.witness6 (enc := enc) (C := Try.checked) false ⟨#[], #[.agg #[.int .u64 0, .int .u64 0], .agg #[.int .u64 0, .int .u64 0]], []⟩ 8 (by kernel_rfl) (by kernel_rfl) (by kernel_rfl) (by kernel_rfl)) ?_
  intro W base args ds gs before hval0 hW hcnd _
  have hval : ∀ (j : Nat) t v, Try.f7.params[j]? = some t → args[j]? = some v → Value.okWide Try.prog W .any base t v := hval0
  have hW' := hW
  obtain ⟨p, q, hA0, hV, rfl, hfz, hnd⟩ := hW
  have hA : DataW.TrodAll enc Try.prog W 0 (fun _ => true) true Try.f7.params.toList args.toList ds p := hA0
  rw [Try.params7] at hA hval
  obtain ⟨v0, vs0, d0, ds0, p0, q0, hargs, rfl, rfl, h0, r0⟩ := trodAll_cons hA
  obtain ⟨v1, vs1, d1, ds1, p1, q1, rfl, rfl, rfl, h1, r1⟩ := trodAll_cons r0
  obtain ⟨rfl, rfl, rfl⟩ := trodAll_nil r1
  obtain rfl : args = #[v0, v1] := by cases args; simp_all
  obtain ⟨rfl, rfl⟩ := trodVars_none hV
  obtain ⟨ca0, cb0, ya0, yb0, m0, rfl, rfl, rfl, hya0, hyb0⟩ := open_agg2 Try.underlying24 (by kernel_rfl) wideRemains_cells (hval 0 24 v0 rfl rfl) h0
  obtain ⟨a0, ea0, rfl, w0⟩ := DataW.trod_int Try.underlying22 hya0
  obtain ⟨b0, eb0, rfl, x0⟩ := DataW.trod_int Try.underlying22 hyb0
  simp at ea0 eb0
  subst ea0 eb0
  obtain ⟨ca1, cb1, ya1, yb1, m1, rfl, rfl, rfl, hya1, hyb1⟩ := open_agg2 Try.underlying24 (by kernel_rfl) wideRemains_cells (hval 1 24 v1 rfl rfl) h1
  obtain ⟨a1, ea1, rfl, w1⟩ := DataW.trod_int Try.underlying22 hya1
  obtain ⟨b1, eb1, rfl, x1⟩ := DataW.trod_int Try.underlying22 hyb1
  simp at ea1 eb1
  subst ea1 eb1
  clear hA0 hval0
  simp only [List.append_nil] at hW'
  refine (wideRemains_walk a0 b0 a1 b1 w0 x0 w1 x1 W).mono fun e W' ⟨he, hg⟩ => ?_
  subst he
  exact ⟨_, rfl, post_of_same (pa := []) (pv := []) hW' (fun _ _ _ => (trodAll_cons_mk (shut_bool Try.underlying4 _) trodAll_mk0)) (fun sp _ => (trodAll_cons_mk (shut_agg2 (y0 := (.lit (.int .u64 a0), [])) (y1 := (.lit (.int .u64 b0), [])) Try.underlying24 (by kernel_rfl) wideRemains_cells ⟨1, by simp [DataW.trod, Try.underlying22, w0]⟩ ⟨1, by simp [DataW.trod, Try.underlying22, x0]⟩) (trodAll_cons_mk (shut_agg2 (y0 := (.lit (.int .u64 a1), [])) (y1 := (.lit (.int .u64 b1), [])) Try.underlying24 (by kernel_rfl) wideRemains_cells ⟨1, by simp [DataW.trod, Try.underlying22, w1]⟩ ⟨1, by simp [DataW.trod, Try.underlying22, x1]⟩) trodAll_mk0))) (fun _ _ => rfl) rfl
    (hg.frame _) hg.2.1 (ok_one (by kernel_rfl) rfl (okWide_bool_mk Try.underlying4 _))⟩

theorem wideRemains_over : Rows.wideRemainsRow.holds Try.pinned (OpenSpec.ofChange Rows.wideRemainsSpec) :=
  OpenClaim.holds_of_wide 7 Try.f7 rfl rfl rfl rfl rfl rfl rfl ⟨rfl, rfl, rfl, rfl, rfl⟩ rfl rfl rfl rfl rfl (by kernel_rfl) Try.func7 (by kernel_rfl)
    (of_decide_eq_true (by kernel_rfl)) (by unfold Func.isWrapper; first | (rw [if_pos (by decide +kernel)]; kernel_rfl) | (rw [if_neg (by decide +kernel)]; exact ⟨rfl, rfl⟩))
    (fun os started H enc _ => wideRemains_lifted os started H enc)

theorem wideRemains_holds : Rows.WideRemainsSaid :=
  wideRemains_over
#print axioms wideRemains_holds
end Go.Proofs.Ytkhgibpginbdcaa
