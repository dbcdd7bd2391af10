/- What the reference's Pow returns. -/
import Derived.Test.YtinjainclhfahaaRows
import Derived.Test.YtinjainclhfahaaZWMul3q66
import Derived.Test.YtinjainclhfahaaZWPowq68
namespace Go.Proofs.Ytinjainclhfahaa
open Go.RowKit

theorem rmul_of (P a : Int) (hP : In2 P) (ha : Word a) (w : World) :
    Calls Try.prog 44 #[.agg #[.int .u64 (hiZ P), .int .u64 (loZ P)], .agg #[.int .u64 0, .int .u64 a]] w fun e w' =>
      e = got2 (fit2 (P * a)) (fits2 (P * a)) ∧ Up w w' := by
  have h := rmul_up (hiZ P) (loZ P) 0 a (hiZ_word hP) (loZ_word P) word_0 ha w
  rw [val_hilo, show val 0 a = a by unfold val; omega] at h
  exact h


set_option maxHeartbeats 4000000 in
set_option maxRecDepth 100000 in
theorem rpow_up (a n : Int) (ha : Word a) (hn : -9223372036854775808 ≤ n ∧ n ≤ 9223372036854775807) (w : World) :
    Calls Try.prog 43 #[.int .u64 a, .int .i64 n] w fun e w' => e = got2 (powV a n) (powB a n) ∧ Up w w' := by
  obtain ⟨a1, a2⟩ := id ha
  by_cases hneg : n < 0
  · have H := Lib.hid (powV_neg (a := a) hneg)
    go_enter Try.func43, Try.ntmps43
    go_wp2
    refine bodyPost_ret (v := .tuple #[.agg #[.int .u64 0, .int .u64 0], .bool false]) (by simp [results, Try.results43, go_sem]) rfl ⟨?_, ?_⟩
    · rw [H.out.1, H.out.2]; rfl
    · repeat (first | exact Up.refl _ | refine Up.alloc ?_ _ _ | refine Up.setCell ?_ (by first | (simp; done) | (simp; omega) | omega) _ | refine Up.drewN ?_ _ | refine Up.drew ?_)
  obtain ⟨n, rfl⟩ := Int.eq_ofNat_of_zero_le (a := n) (by omega)
  have n2 : n ≤ 9223372036854775807 := by omega
  have HV := Lib.hid (powV_nat a n)
  clear hneg hn
  by_cases h0 : n = 0
  · have t1 : ((n : Int) == 0) = true := beq_iff_eq.2 (by omega)
    have HE := Lib.hid (show powV a (n : Int) = 1 ∧ powB a (n : Int) = true by rw [HV.out.1, HV.out.2, h0, Int.pow_zero]; exact ⟨by decide, by decide⟩)
    clear h0
    go_enter Try.func43, Try.ntmps43
    go_wp2_with fail
    refine (rof_up 1 _).mono ?_
    rintro e w1 ⟨rfl, hu1⟩
    obtain ⟨hc1, hz1⟩ := hu1.cells
    have hs1 := hu1.size
    try simp at hs1
    try unfold got2
    have p1_0 : w.heap.size < w1.heap.size := by omega
    go_wp2_with fail
    refine bodyPost_ret (v := .tuple #[.agg #[.int .u64 0, .int .u64 1], .bool true]) (by simp [results, Try.results43, go_sem, hc1]) rfl ⟨?_, ?_⟩
    · rw [HE.out.1, HE.out.2]; rfl
    · repeat (first | exact Up.refl _ | refine Up.trans ?_ hu1 | refine Up.alloc ?_ _ _ | refine Up.setCell ?_ (by first | (simp; done) | (simp; omega) | omega) _ | refine Up.drewN ?_ _ | refine Up.drew ?_)
  have t1 : ((n : Int) == 0) = false := beq_eq_false_iff_ne.2 (by omega)
  by_cases hs1 : a = 1
  · subst hs1
    have HE := Lib.hid (show powV 1 (n : Int) = 1 ∧ powB 1 (n : Int) = true by rw [HV.out.1, HV.out.2, pow_le1 1 (by decide) (by decide) n h0]; exact ⟨by decide, by decide⟩)
    clear h0
    go_enter Try.func43, Try.ntmps43
    go_wp2_with fail
    refine (rof_up 1 _).mono ?_
    rintro e w1 ⟨rfl, hu1⟩
    obtain ⟨hc1, hz1⟩ := hu1.cells
    have hs1 := hu1.size
    try simp at hs1
    try unfold got2
    have p1_0 : w.heap.size < w1.heap.size := by omega
    go_wp2_with fail
    refine bodyPost_ret (v := .tuple #[.agg #[.int .u64 0, .int .u64 1], .bool true]) (by simp [results, Try.results43, go_sem, hc1]) rfl ⟨?_, ?_⟩
    · rw [HE.out.1, HE.out.2]; rfl
    · repeat (first | exact Up.refl _ | refine Up.trans ?_ hu1 | refine Up.alloc ?_ _ _ | refine Up.setCell ?_ (by first | (simp; done) | (simp; omega) | omega) _ | refine Up.drewN ?_ _ | refine Up.drew ?_)
  have t2 : (a == 1) = false := beq_eq_false_iff_ne.2 hs1
  by_cases hs0 : a = 0
  · subst hs0
    have HE := Lib.hid (show powV 0 (n : Int) = 0 ∧ powB 0 (n : Int) = true by rw [HV.out.1, HV.out.2, pow_le1 0 (by decide) (by decide) n h0]; exact ⟨by decide, by decide⟩)
    clear h0
    go_enter Try.func43, Try.ntmps43
    go_wp2_with fail
    refine bodyPost_ret (v := .tuple #[.agg #[.int .u64 0, .int .u64 0], .bool true]) (by simp [results, Try.results43, go_sem]) rfl ⟨?_, ?_⟩
    · rw [HE.out.1, HE.out.2]; rfl
    · repeat (first | exact Up.refl _ | refine Up.alloc ?_ _ _ | refine Up.setCell ?_ (by first | (simp; done) | (simp; omega) | omega) _ | refine Up.drewN ?_ _ | refine Up.drew ?_)
  have hb : 1 < a := by omega
  have t3 : (a == 0) = false := beq_eq_false_iff_ne.2 hs0
  clear hs1 hs0 h0
  go_enter Try.func43, Try.ntmps43
  go_wp2_with fail
  refine (rof_up 1 _).mono ?_
  rintro e w1 ⟨rfl, hu1⟩
  obtain ⟨hc1, hz1⟩ := hu1.cells
  have hs1 := hu1.size
  try simp at hs1
  try unfold got2
  have p1_0 : w.heap.size < w1.heap.size := by omega
  go_wp2_with fail
  go_loopw [7, 8] (fun o u wr => ∃ (P : Int) (b : Bool) (i : Nat), o = .bool b ∧ u = .int .i64 (i : Int) ∧ i ≤ n ∧ In2 P ∧ Hid (P = fit2 (a ^ i)) ∧ Hid (b = fits2 (a ^ i)) ∧ Up w wr ∧ wr.cell? ⟨w1.heap.size, 0, none⟩ = some (.int .u64 (hiZ P)) ∧ wr.cell? ⟨w1.heap.size, 1, none⟩ = some (.int .u64 (loZ P)) ∧ wr.cell? ⟨w.heap.size, 0, none⟩ = some (.int .u64 0) ∧ wr.cell? ⟨w.heap.size, 1, none⟩ = some (.int .u64 0)) (fun _ u _ => n - (intOf u).toNat)
  case atStart =>
    refine ⟨1, true, 0, rfl, rfl, by omega, ⟨by decide, by decide⟩, Lib.hid (by rw [Int.pow_zero]; decide), Lib.hid (by rw [Int.pow_zero]; decide), ?_, ?_, ?_, ?_, ?_⟩
    · repeat (first | exact Up.refl _ | refine Up.trans ?_ hu1 | refine Up.alloc ?_ _ _ | refine Up.setCell ?_ (by first | (simp; done) | (simp; omega) | omega) _ | refine Up.drewN ?_ _ | refine Up.drew ?_)
    all_goals simp [go_sem, *, show hiZ 1 = 0 by decide, show loZ 1 = 1 by decide]
  case round =>
    obtain ⟨P, b, i, rfl, rfl, hin, hP, HP, HQ, hup, q0, q1, r0, r1⟩ := hrel
    have HUP := Lib.hid hup
    have z0 := hup.own 0 0
    have z1 := hup.own 0 1
    simp only [Nat.add_zero] at z0 z1
    have lr : w.heap.size < wr.heap.size := World.block_lt_of_cell? _ _ r0
    have lq : w1.heap.size < wr.heap.size := World.block_lt_of_cell? _ _ q0
    have zq0 : wr.frozen? ⟨w1.heap.size, 0, none⟩ = false := by have := hup.own (w1.heap.size - w.heap.size) 0; rw [show w.heap.size + (w1.heap.size - w.heap.size) = w1.heap.size by omega] at this; exact this
    have zq1 : wr.frozen? ⟨w1.heap.size, 1, none⟩ = false := by have := hup.own (w1.heap.size - w.heap.size) 1; rw [show w.heap.size + (w1.heap.size - w.heap.size) = w1.heap.size by omega] at this; exact this
    clear hup hc1 hz1
    cases b with
    | false =>
      have hni : ¬ In2 (a ^ i) := fun h => by have := HQ.out; rw [fits2_yes h] at this; exact absurd this (by decide)
      have HX := Lib.hid (fit2_no (pow_far2 hb hin hni))
      have HY := Lib.hid (fits2_no (pow_far2 hb hin hni))
      have HE := Lib.hid (HP.out.trans (fit2_no hni))
      clear hni
      by_cases hlt : i < n
      all_goals
        go_wp2_with fail
        refine bodyPost_ret (v := .tuple #[.agg #[.int .u64 (hiZ P), .int .u64 (loZ P)], .bool false]) (by simp [results, Try.results43, go_sem, r0, r1]) rfl ⟨?_, ?_⟩
        · rw [HV.out.1, HV.out.2, HX.out, HY.out, HE.out]; rfl
        · repeat (first | exact Up.refl _ | (refine Up.trans ?_ (HUP.out); skip) | refine Up.alloc ?_ _ _ | refine Up.setCell ?_ (by first | (simp; done) | (simp; omega) | omega) _ | refine Up.drewN ?_ _ | refine Up.drew ?_)
    | true =>
      have hyi : In2 (a ^ i) := by
        by_cases h : In2 (a ^ i)
        · exact h
        · have := HQ.out; rw [fits2_no h] at this; exact absurd this (by decide)
      have HE := Lib.hid (HP.out.trans (fit2_yes hyi))
      clear hyi
      by_cases hlt : i < n
      · go_upto_region 11 with fail
        go_region_with (first | (go_at_call 45; (with_reducible refine (rof_up a _).mono ?_); rintro e w2 ⟨rfl, hu2⟩; have HU2 := Lib.hid hu2; obtain ⟨hc2, hz2⟩ := hu2.cells; have hs2 := hu2.size; (try simp at hs2); clear hu2; (try unfold got2); (try (have p2_0 : wr.heap.size < w2.heap.size := by omega)); (try (have p2_1 : w1.heap.size < w2.heap.size := by omega)); have c2_0 : w2.cell? ⟨w1.heap.size, 0, none⟩ = some (.int .u64 (hiZ P)) := (hc2 _ _ lq).trans q0; have c2_1 : w2.cell? ⟨w1.heap.size, 1, none⟩ = some (.int .u64 (loZ P)) := (hc2 _ _ lq).trans q1; have z2_0 : w2.frozen? ⟨w1.heap.size, 0, none⟩ = false := (hz2 _).trans zq0; have z2_1 : w2.frozen? ⟨w1.heap.size, 1, none⟩ = false := (hz2 _).trans zq1; clear hc2 hz2) | (go_at_call 44; (with_reducible refine (rmul_of P a hP ha _).mono ?_); rintro e w3 ⟨rfl, hu3⟩; have HU3 := Lib.hid hu3; obtain ⟨hc3, hz3⟩ := hu3.cells; have hs3 := hu3.size; (try simp at hs3); clear hu3; (try unfold got2); (try (have p3_0 : wr.heap.size < w3.heap.size := by omega)); (try (have p3_1 : w1.heap.size < w3.heap.size := by omega)); have c3_0 : w3.cell? ⟨w1.heap.size, 0, none⟩ = some (.int .u64 (hiZ P)) := (hc3 _ _ p2_1).trans c2_0; have c3_1 : w3.cell? ⟨w1.heap.size, 1, none⟩ = some (.int .u64 (loZ P)) := (hc3 _ _ p2_1).trans c2_1; have z3_0 : w3.frozen? ⟨w1.heap.size, 0, none⟩ = false := (hz3 _).trans z2_0; have z3_1 : w3.frozen? ⟨w1.heap.size, 1, none⟩ = false := (hz3 _).trans z2_1; clear hc3 hz3))
        all_goals
          go_wp2_with fail
          go_roundw
          case rel =>
            refine ⟨fit2 (P * a), fits2 (P * a), i + 1, rfl, by go_num, by omega, fit2_in _, Lib.hid (by rw [Int.pow_succ, ← HE.out]), Lib.hid (by rw [Int.pow_succ, ← HE.out]), ?_, ?_, ?_, ?_, ?_⟩
            · repeat (first | exact HUP.out | refine Up.trans ?_ HU3.out | refine Up.trans ?_ HU2.out | refine Up.setCell ?_ (by first | (simp; done) | (simp; omega) | omega) _ | refine Up.drewN ?_ _ | refine Up.drew ?_)
            · simp [go_sem, *]
            · simp [go_sem, *]
            · have r2 := HU3.out.keep _ _ _ (HU2.out.keep _ _ _ (show wr.drew.cell? _ = _ from r0)); rw [cell_far (by show w1.heap.size ≠ w.heap.size; omega), cell_far (by show w1.heap.size ≠ w.heap.size; omega)]; exact r2
            · have r2 := HU3.out.keep _ _ _ (HU2.out.keep _ _ _ (show wr.drew.cell? _ = _ from r1)); rw [cell_far (by show w1.heap.size ≠ w.heap.size; omega), cell_far (by show w1.heap.size ≠ w.heap.size; omega)]; exact r2
          case measure => simp only [intOf]; omega
      · have HN := Lib.hid (show n = i by omega)
        go_wp2_with fail
        refine bodyPost_ret (v := .tuple #[.agg #[.int .u64 (hiZ P), .int .u64 (loZ P)], .bool true]) (by simp [results, Try.results43, go_sem, r0, r1]) rfl ⟨?_, ?_⟩
        · rw [HV.out.1, HV.out.2, HN.out, ← HP.out, ← HQ.out]; rfl
        · repeat (first | exact Up.refl _ | (refine Up.trans ?_ (HUP.out); skip) | refine Up.alloc ?_ _ _ | refine Up.setCell ?_ (by first | (simp; done) | (simp; omega) | omega) _ | refine Up.drewN ?_ _ | refine Up.drew ?_)

end Go.Proofs.Ytinjainclhfahaa
