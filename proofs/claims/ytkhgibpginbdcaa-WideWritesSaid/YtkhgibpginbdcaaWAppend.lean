/- What wide.appendDigit returns. -/
import Derived.Test.YtkhgibpginbdcaaWPow
namespace Go.Proofs.Ytkhgibpginbdcaa
open Go.RowKit

/-- The number with one digit more, and whether c is a digit and the number fits. -/
def apV (n c : Int) : Int := if 48 ≤ c ∧ c ≤ 57 then fit2 (n * 10 + (c - 48)) else 0
def apB (n c : Int) : Bool := if 48 ≤ c ∧ c ≤ 57 then fits2 (n * 10 + (c - 48)) else false
theorem apV_no {n c : Int} (h : ¬ (48 ≤ c ∧ c ≤ 57)) : apV n c = 0 ∧ apB n c = false := by
  unfold apV apB; rw [if_neg h, if_neg h]; exact ⟨rfl, rfl⟩
theorem apV_yes {n c : Int} (h : 48 ≤ c ∧ c ≤ 57) : apV n c = fit2 (n * 10 + (c - 48)) ∧ apB n c = fits2 (n * 10 + (c - 48)) := by
  unfold apV apB; rw [if_pos h, if_pos h]; exact ⟨rfl, rfl⟩

theorem base2n (w : World) (x0 x1 x2 x3 : Value) (t1 t2 : TypeId) :
    Up w ((w.alloc (.cells #[x0, x1] t1)).alloc (.cells #[x2, x3] t2)) ∧
    ((w.alloc (.cells #[x0, x1] t1)).alloc (.cells #[x2, x3] t2)).cell? ⟨w.heap.size, 0, none⟩ = some x0 ∧ ((w.alloc (.cells #[x0, x1] t1)).alloc (.cells #[x2, x3] t2)).cell? ⟨w.heap.size, 1, none⟩ = some x1 ∧
    ((w.alloc (.cells #[x0, x1] t1)).alloc (.cells #[x2, x3] t2)).cell? ⟨w.heap.size + 1, 0, none⟩ = some x2 ∧ ((w.alloc (.cells #[x0, x1] t1)).alloc (.cells #[x2, x3] t2)).cell? ⟨w.heap.size + 1, 1, none⟩ = some x3 := by
  have k1 : ∀ o, ((w.alloc (.cells #[x0, x1] t1)).alloc (.cells #[x2, x3] t2)).cell? ⟨w.heap.size, o, none⟩ = #[x0, x1][o]? := fun o => by
    rw [World.cell?_alloc_past _ _ _ (by rw [size_alloc]; omega), World.cell?_alloc_at _ _ _ _ rfl]
  have k2 : ∀ o, ((w.alloc (.cells #[x0, x1] t1)).alloc (.cells #[x2, x3] t2)).cell? ⟨w.heap.size + 1, o, none⟩ = #[x2, x3][o]? := fun o => by
    rw [World.cell?_alloc_at _ _ _ _ (by rw [size_alloc])]
  exact ⟨((Up.refl w).alloc _ _).alloc _ _, k1 0, k1 1, k2 0, k2 1⟩

set_option maxHeartbeats 4000000 in
set_option maxRecDepth 100000 in
theorem append_up (n c : Int) (hn : In2 n) (c0 : 0 ≤ c) (c1 : c ≤ 255) (w : World) :
    Calls Try.prog 47 #[.agg #[.int .u64 (hiZ n), .int .u64 (loZ n)], .int .u8 c] w fun e w' => e = got2 (apV n c) (apB n c) ∧ Up w w' := by
  by_cases hl : c < 48
  · have t1 : decide (c < 48) = true := decide_eq_true hl
    have H := Lib.hid (apV_no (n := n) (c := c) (by omega))
    clear hl
    go_enter Try.func47, Try.ntmps47
    go_wp2_with fail
    refine bodyPost_ret (v := .tuple #[.agg #[.int .u64 0, .int .u64 0], .bool false]) (by simp [results, Try.results47, go_sem]) rfl ⟨?_, ?_⟩
    · rw [H.out.1, H.out.2]; rfl
    · repeat (first | exact Up.refl _ | refine Up.alloc ?_ _ _ | refine Up.setCell ?_ (by first | (simp; done) | (simp; omega) | omega) _ | refine Up.drewN ?_ _ | refine Up.drew ?_)
  have t1 : decide (c < 48) = false := decide_eq_false hl
  by_cases hg : 57 < c
  · have t2 : decide (57 < c) = true := decide_eq_true hg
    have H := Lib.hid (apV_no (n := n) (c := c) (by omega))
    clear hl hg
    go_enter Try.func47, Try.ntmps47
    go_wp2_with fail
    refine bodyPost_ret (v := .tuple #[.agg #[.int .u64 0, .int .u64 0], .bool false]) (by simp [results, Try.results47, go_sem]) rfl ⟨?_, ?_⟩
    · rw [H.out.1, H.out.2]; rfl
    · repeat (first | exact Up.refl _ | refine Up.alloc ?_ _ _ | refine Up.setCell ?_ (by first | (simp; done) | (simp; omega) | omega) _ | refine Up.drewN ?_ _ | refine Up.drew ?_)
  have t2 : decide (57 < c) = false := decide_eq_false hg
  have H := Lib.hid (apV_yes (n := n) (c := c) (by omega))
  have d0 : 0 ≤ c - 48 := by omega
  have d1 : c - 48 ≤ 9 := by omega
  have hwd : Word (c - 48) := ⟨by omega, by omega⟩
  go_enter Try.func47, Try.ntmps47
  go_upto_region 3 with fail
  go_cut [6, 7] (fun t6 t7 wx => ∃ g : Nat, t6 = .pointer (some ⟨g, 0, none⟩) ∧ t7 = .bool (fits2 (n * 10)) ∧ w.heap.size + 1 < g ∧ wx.cell? ⟨g, 0, none⟩ = some (.int .u64 (hiZ (fit2 (n * 10)))) ∧ wx.cell? ⟨g, 1, none⟩ = some (.int .u64 (loZ (fit2 (n * 10)))) ∧
    Up w wx ∧ wx.cell? ⟨w.heap.size, 0, none⟩ = some (.int .u64 (hiZ n)) ∧ wx.cell? ⟨w.heap.size, 1, none⟩ = some (.int .u64 (loZ n)) ∧ wx.cell? ⟨w.heap.size + 1, 0, none⟩ = some (.int .u64 0) ∧ wx.cell? ⟨w.heap.size + 1, 1, none⟩ = some (.int .u64 0))
  case first =>
    go_region_held3 (fun w' => Up w w' ∧ w'.cell? ⟨w.heap.size, 0, none⟩ = some (.int .u64 (hiZ n)) ∧ w'.cell? ⟨w.heap.size, 1, none⟩ = some (.int .u64 (loZ n)) ∧ w'.cell? ⟨w.heap.size + 1, 0, none⟩ = some (.int .u64 0) ∧ w'.cell? ⟨w.heap.size + 1, 1, none⟩ = some (.int .u64 0))
      (first | (exact keep4 (by assumption) (by assumption)) | (repeat (first | assumption | (exact Hid.out (by assumption)) | (exact base2n _ _ _ _ _ _ _) | (refine keep4 (Lib.hid ((Up.refl _).alloc _ _)) ?_) | (refine keep4 (Lib.hid (Up.refl _).drew) ?_) | (refine set4 ?_ (by omega) (by omega) (by omega) (by omega) (by omega)))))
      (first
        | (go_at_call 22; (with_reducible refine (of_up 10 _).mono ?_); rintro e w2 ⟨rfl, hu2⟩; have HU2 := Lib.hid hu2; have HS2 := Lib.hid (keep4 HU2 (by assumption)); obtain ⟨hc2, hz2⟩ := hu2.cells; have hs2 := hu2.size; (try simp at hs2); clear hu2; (try unfold got2); (try (have p2_0 : w.heap.size < w2.heap.size := by omega)); (try (have p2_1 : w.heap.size + 1 < w2.heap.size := by omega)); (try (have p2_2 : w.heap.size + 1 + 1 < w2.heap.size := by omega)))
        | (go_at_call 18; (with_reducible refine (mul_of n 10 hn word_10 _).mono ?_); rintro e w3 ⟨rfl, hu3⟩; have HU3 := Lib.hid hu3; have HS3 := Lib.hid (keep4 HU3 (by assumption)); obtain ⟨hc3, hz3⟩ := hu3.cells; have hs3 := hu3.size; (try simp at hs3); clear hu3; (try unfold got2); (try (have p3_0 : w.heap.size < w3.heap.size := by omega)); (try (have p3_1 : w.heap.size + 1 < w3.heap.size := by omega)); (try (have p3_2 : w.heap.size + 1 + 1 < w3.heap.size := by omega)); (try (have p3_3 : w2.heap.size < w3.heap.size := by omega)))
        )
    all_goals
      go_wp2_with fail
      go_meet
      refine ⟨_, rfl, rfl, ?_, ?_, ?_, by assumption⟩
      · omega
      all_goals simp [go_sem, *]
  obtain ⟨g, rfl, rfl, lg, g0, g1, hup, a0, a1, r0, r1⟩ := hcut
  have HUP := Lib.hid hup
  have z0 := hup.own 1 0
  have z1 := hup.own 1 1
  have lr : w.heap.size + 1 < wc.heap.size := World.block_lt_of_cell? _ _ r0
  have lg' : g < wc.heap.size := World.block_lt_of_cell? _ _ g0
  clear hup a0 a1
  by_cases hi : In2 (n * 10)
  · have t3 := fits2_yes hi
    rw [fit2_yes hi] at g0 g1
    have HA := Lib.hid (show ∀ W, Calls Try.prog 13 #[.agg #[.int .u64 (hiZ (n * 10)), .int .u64 (loZ (n * 10))], .agg #[.int .u64 0, .int .u64 (c - 48)]] W fun e w' => e = got2 (fit2 (n * 10 + (c - 48))) (fits2 (n * 10 + (c - 48))) ∧ Up W w' from fun W => by
      have h := add_up (hiZ (n * 10)) (loZ (n * 10)) 0 (c - 48) (hiZ_word hi) (loZ_word _) word_0 hwd W
      rw [val_hilo, show val 0 (c - 48) = c - 48 by unfold val; omega] at h
      exact h)
    clear hi
    have hw8 : IntKind.u8.wrap (c - 48) = c - 48 := by rw [IntKind.wrap_u8]; omega
    have hw64 : IntKind.u64.wrap (c - 48) = c - 48 := keep64z _ d0 (by omega)
    go_wp2_with fail
    go_region_held3 (fun w' => Up w w' ∧ w'.cell? ⟨g, 0, none⟩ = some (.int .u64 (hiZ (n * 10))) ∧ w'.cell? ⟨g, 1, none⟩ = some (.int .u64 (loZ (n * 10))))
      (first | (exact keep2 (by assumption) (by assumption)) | (repeat (first | assumption | (exact Hid.out (by assumption)) | (exact ⟨HUP.out, g0, g1⟩) | (refine keep2 (Lib.hid ((Up.refl _).alloc _ _)) ?_) | (refine keep2 (Lib.hid (Up.refl _).drew) ?_) | (refine set2 ?_ (by omega) (by omega) (by omega)))))
      (first
        | (go_at_call 22; (with_reducible refine (of_up (c - 48) _).mono ?_); rintro e w5 ⟨rfl, hu5⟩; have HU5 := Lib.hid hu5; have HS5 := Lib.hid (keep2 HU5 (by assumption)); obtain ⟨hc5, hz5⟩ := hu5.cells; have hs5 := hu5.size; (try simp at hs5); clear hu5; (try unfold got2); (try (have p5_0 : w.heap.size + 1 < w5.heap.size := by omega)); have R0 : w5.cell? ⟨w.heap.size + 1, 0, none⟩ = some (.int .u64 0) := (hc5 _ _ lr).trans r0; have R1 : w5.cell? ⟨w.heap.size + 1, 1, none⟩ = some (.int .u64 0) := (hc5 _ _ lr).trans r1; have Z0 : w5.frozen? ⟨w.heap.size + 1, 0, none⟩ = false := (hz5 _).trans z0; have Z1 : w5.frozen? ⟨w.heap.size + 1, 1, none⟩ = false := (hz5 _).trans z1; clear hc5 hz5)
        | (go_at_call 13; (with_reducible refine (HA.out _).mono ?_); rintro e w6 ⟨rfl, hu6⟩; have HU6 := Lib.hid hu6; have HS6 := Lib.hid (keep2 HU6 (by assumption)); obtain ⟨hc6, hz6⟩ := hu6.cells; have hs6 := hu6.size; (try simp at hs6); clear hu6; (try unfold got2); (try (have p6_0 : w.heap.size + 1 < w6.heap.size := by omega)); have R0' : w6.cell? ⟨w.heap.size + 1, 0, none⟩ = some (.int .u64 0) := (hc6 _ _ p5_0).trans R0; have R1' : w6.cell? ⟨w.heap.size + 1, 1, none⟩ = some (.int .u64 0) := (hc6 _ _ p5_0).trans R1; have Z0' : w6.frozen? ⟨w.heap.size + 1, 0, none⟩ = false := (hz6 _).trans Z0; have Z1' : w6.frozen? ⟨w.heap.size + 1, 1, none⟩ = false := (hz6 _).trans Z1; clear hc6 hz6)
        )
    all_goals
      go_wp2_with fail
      refine bodyPost_ret (v := .tuple #[.agg #[.int .u64 (hiZ (fit2 (n * 10 + (c - 48)))), .int .u64 (loZ (fit2 (n * 10 + (c - 48))))], .bool (fits2 (n * 10 + (c - 48)))]) (by simp [results, Try.results47, go_sem, R0', R1']) rfl ⟨?_, ?_⟩
      · rw [H.out.1, H.out.2]; rfl
      · exact And.left (by assumption)
  · have t3 := fits2_no hi
    have hf : ¬ In2 (n * 10 + (c - 48)) := by unfold In2 at *; omega
    have HX := Lib.hid (fit2_no hf)
    have HY := Lib.hid (fits2_no hf)
    clear hi hf
    go_wp2_with fail
    refine bodyPost_ret (v := .tuple #[.agg #[.int .u64 0, .int .u64 0], .bool false]) (by simp [results, Try.results47, go_sem, r0, r1]) rfl ⟨?_, ?_⟩
    · rw [H.out.1, H.out.2, HX.out, HY.out]; rfl
    · repeat (first | exact Up.refl _ | (refine Up.trans ?_ (HUP.out); skip) | refine Up.alloc ?_ _ _ | refine Up.setCell ?_ (by first | (simp; done) | (simp; omega) | omega) _ | refine Up.drewN ?_ _ | refine Up.drew ?_)

end Go.Proofs.Ytkhgibpginbdcaa
