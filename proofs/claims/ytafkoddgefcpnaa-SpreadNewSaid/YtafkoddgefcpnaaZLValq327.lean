/- Package spread: states, Validate, New, Most; New, Most, Same of the reference. -/
import Derived.Test.YtafkoddgefcpnaaRows
import Derived.Test.YtafkoddgefcpnaaZKMcq191
import Derived.Test.YtafkoddgefcpnaaZKSameq247
import Derived.Test.YtafkoddgefcpnaaZLRatq317
import Derived.Test.YtafkoddgefcpnaaZLValq325
namespace Go.Proofs.Ytafkoddgefcpnaa
open Go.RowKit
set_option linter.unusedVariables false

set_option maxHeartbeats 4000000 in
set_option maxRecDepth 100000 in
theorem new14_no (v q c now : Int) (h : mayC v q c now = false) (w : World) :
    Calls Try.prog 39 #[.int .i64 v, .int .i64 q, .int .i64 c, .int .i64 now] w fun e w' => e = .returned (.tuple #[.agg #[.int .i64 0, .int .i64 0, .int .i64 0, .int .i64 0, .int .i64 0, .slice none 0 0], .int .i64 1]) ∧ Up w w' := by
  have KN := Lib.hid (mnew_no 4 v q c now (by unfold mayM; rw [h]; rfl))
  have KF := Lib.hid (fromSmooth_up 0 0 0 0 0 0 0 0 none)
  clear h
  go_enter Try.func39, Try.ntmps39
  go_wp2_with (first
    | (go_at_call 54; (with_reducible refine (KN.out _).mono ?_); rintro e w1 ⟨rfl, hu⟩; have hv := ((Up.refl w).alloc #[.int .i64 0, .int .i64 0, .int .i64 0, .int .i64 0, .int .i64 0, .slice none 0 0] 61).trans hu; have HV1 := Lib.hid hv; have HU1 := Lib.hid ((Up.refl w).trans hv); have r_1_0 := hu.keep (w.heap.size) 0 (.int .i64 0) (by simp [go_sem]); have r_1_1 := hu.keep (w.heap.size) 1 (.int .i64 0) (by simp [go_sem]); have r_1_2 := hu.keep (w.heap.size) 2 (.int .i64 0) (by simp [go_sem]); have r_1_3 := hu.keep (w.heap.size) 3 (.int .i64 0) (by simp [go_sem]); have r_1_4 := hu.keep (w.heap.size) 4 (.int .i64 0) (by simp [go_sem]); have r_1_5 := hu.keep (w.heap.size) 5 (.slice none 0 0) (by simp [go_sem]); have lr1 := World.block_lt_of_cell? _ _ r_1_0; clear hu hv )
    | (go_at_call 90; (with_reducible refine (KF.out _).mono ?_); rintro e w2 ⟨rfl, hu⟩; have hv := ((Up.refl w1).alloc #[.int .i64 0, .int .i64 0, .int .i64 0, .int .i64 0, .int .i64 0, .int .i64 0, .slice none 0 0] 26).trans hu; have HV2 := Lib.hid hv; have HU2 := Lib.hid (HU1.out.trans hv); have r_2_0 := hv.keep _ _ _ r_1_0; have r_2_1 := hv.keep _ _ _ r_1_1; have r_2_2 := hv.keep _ _ _ r_1_2; have r_2_3 := hv.keep _ _ _ r_1_3; have r_2_4 := hv.keep _ _ _ r_1_4; have r_2_5 := hv.keep _ _ _ r_1_5; have x_2_0 := hu.keep (w1.heap.size) 0 (.int .i64 0) (by simp [go_sem]); have x_2_1 := hu.keep (w1.heap.size) 1 (.int .i64 0) (by simp [go_sem]); have x_2_2 := hu.keep (w1.heap.size) 2 (.int .i64 0) (by simp [go_sem]); have x_2_3 := hu.keep (w1.heap.size) 3 (.int .i64 0) (by simp [go_sem]); have x_2_4 := hu.keep (w1.heap.size) 4 (.int .i64 0) (by simp [go_sem]); have x_2_5 := hu.keep (w1.heap.size) 5 (.int .i64 0) (by simp [go_sem]); have x_2_6 := hu.keep (w1.heap.size) 6 (.slice none 0 0) (by simp [go_sem]); have lr2 := World.block_lt_of_cell? _ _ r_2_0; have lx2 := World.block_lt_of_cell? _ _ x_2_0; have z0 := HU2.out.ownGe (g := w.heap.size) (Nat.le_refl _) 0; have z1 := HU2.out.ownGe (g := w.heap.size) (Nat.le_refl _) 1; have z2 := HU2.out.ownGe (g := w.heap.size) (Nat.le_refl _) 2; have z3 := HU2.out.ownGe (g := w.heap.size) (Nat.le_refl _) 3; have z4 := HU2.out.ownGe (g := w.heap.size) (Nat.le_refl _) 4; have z5 := HU2.out.ownGe (g := w.heap.size) (Nat.le_refl _) 5; clear hu hv lr1 r_1_0 r_1_1 r_1_2 r_1_3 r_1_4 r_1_5))
  refine bodyPost_ret (v := .tuple #[.agg #[.int .i64 0, .int .i64 0, .int .i64 0, .int .i64 0, .int .i64 0, .slice none 0 0], .int .i64 1]) (by simp [results, Try.results39, go_sem, r_2_0, r_2_1, r_2_2, r_2_3, r_2_4, r_2_5]) rfl ⟨rfl, ?_⟩
  exact HU2.out.setP6 (Nat.le_refl _)

set_option maxHeartbeats 4000000 in
set_option maxRecDepth 100000 in
theorem rnew14_no (v q c now : Int) (h : mayC v q c now = false) (w : World) :
    Calls Try.prog 40 #[.int .i64 v, .int .i64 q, .int .i64 c, .int .i64 now] w fun e w' => e = .returned (.tuple #[.agg #[.int .i64 0, .int .i64 0, .int .i64 0, .int .i64 0, .int .i64 0, .slice none 0 0], .int .i64 1]) ∧ Up w w' := by
  have KM := Lib.hid (rmay_any v c now)
  have KK := Lib.hid (rmayK11_any q)
  unfold mayC at h
  cases hb : mayB v c now with
  | false =>
    rw [hb] at KM
    clear h hb
    go_enter Try.func40, Try.ntmps40
    go_wp2_with (first | (go_at_call 56; (with_reducible refine (KM.out _).mono ?_); rintro e w' ⟨rfl, rfl⟩) | (go_at_call 57; (with_reducible refine (KK.out _).mono ?_); rintro e w' ⟨rfl, rfl⟩))
    refine bodyPost_ret (v := .tuple #[.agg #[.int .i64 0, .int .i64 0, .int .i64 0, .int .i64 0, .int .i64 0, .slice none 0 0], .int .i64 1]) (by simp [results, Try.results40, go_sem]) rfl ⟨?_, ?_⟩
    · rfl
    · repeat (first | exact Up.refl _ | refine Up.alloc ?_ _ _ | refine Up.setCell ?_ (by first | (simp; done) | (simp; omega) | omega) _ | refine Up.drewN ?_ _ | refine Up.drew ?_)
  | true =>
    rw [hb] at KM h
    rw [Bool.true_and] at h
    rw [h] at KK
    clear h hb
    go_enter Try.func40, Try.ntmps40
    go_wp2_with (first | (go_at_call 56; (with_reducible refine (KM.out _).mono ?_); rintro e w' ⟨rfl, rfl⟩) | (go_at_call 57; (with_reducible refine (KK.out _).mono ?_); rintro e w' ⟨rfl, rfl⟩))
    refine bodyPost_ret (v := .tuple #[.agg #[.int .i64 0, .int .i64 0, .int .i64 0, .int .i64 0, .int .i64 0, .slice none 0 0], .int .i64 1]) (by simp [results, Try.results40, go_sem]) rfl ⟨?_, ?_⟩
    · rfl
    · repeat (first | exact Up.refl _ | refine Up.alloc ?_ _ _ | refine Up.setCell ?_ (by first | (simp; done) | (simp; omega) | omega) _ | refine Up.drewN ?_ _ | refine Up.drew ?_)

set_option maxHeartbeats 4000000 in
set_option maxRecDepth 100000 in
theorem rnew14_yes (v q c now : Int) (h : mayC v q c now = true) (w : World) :
    Calls Try.prog 40 #[.int .i64 v, .int .i64 q, .int .i64 c, .int .i64 now] w fun e w' => e = .returned (.tuple #[.agg #[.int .i64 v, .int .i64 q, .int .i64 c, .int .i64 now, .int .i64 0, .slice none 0 0], .int .i64 0]) ∧ Up w w' := by
  have KM := Lib.hid (rmay_any v c now)
  have KK := Lib.hid (rmayK11_any q)
  unfold mayC at h
  rw [Bool.and_eq_true] at h
  rw [h.1] at KM
  rw [h.2] at KK
  clear h
  go_enter Try.func40, Try.ntmps40
  go_wp2_with (first | (go_at_call 56; (with_reducible refine (KM.out _).mono ?_); rintro e w' ⟨rfl, rfl⟩) | (go_at_call 57; (with_reducible refine (KK.out _).mono ?_); rintro e w' ⟨rfl, rfl⟩))
  refine bodyPost_ret (v := .tuple #[.agg #[.int .i64 v, .int .i64 q, .int .i64 c, .int .i64 now, .int .i64 0, .slice none 0 0], .int .i64 0]) (by simp [results, Try.results40, go_sem]) rfl ⟨?_, ?_⟩
  · rfl
  · repeat (first | exact Up.refl _ | refine Up.alloc ?_ _ _ | refine Up.setCell ?_ (by first | (simp; done) | (simp; omega) | omega) _ | refine Up.drewN ?_ _ | refine Up.drew ?_)

theorem mostS_yes {k c : Int} (h2 : 1 ≤ k ∧ k ≤ 64) (h3 : 1 ≤ c ∧ c ≤ 65536) : mostS k c = 12 * k * (3 * bitsZ c + 24) + 4 := if_pos ⟨h2, h3⟩
theorem mostS_no {k c : Int} (h : ¬ ((1 ≤ k ∧ k ≤ 64) ∧ (1 ≤ c ∧ c ≤ 65536))) : mostS k c = 0 := if_neg h
theorem mostS_fits {k y : Int} (hk : 1 ≤ k ∧ k ≤ 64) (h0 : 0 ≤ y) (h1 : y ≤ 65536) : 0 ≤ 12 * k * (3 * y + 24) ∧ 12 * k * (3 * y + 24) ≤ 151013376 := by
  have a1 : 0 ≤ 12 * k * (3 * y + 24) := Int.mul_nonneg (by omega) (by omega)
  have a2 : 12 * k * (3 * y + 24) ≤ 768 * (3 * y + 24) := Int.mul_le_mul_of_nonneg_right (by omega) (by omega)
  omega
set_option maxHeartbeats 4000000 in
set_option maxRecDepth 100000 in
theorem most14_any (k c : Int) (w : World) :
    Calls Try.prog 42 #[.int .i64 k, .int .i64 c] w fun e w' => e = .returned (.int .i64 (mostS k c)) ∧ w = w' := by
  have KS := Lib.hid (validSizes13_any 4 k c)
  rw [show agB 4 = true from rfl, Bool.true_and] at KS
  cases hz : (decide (1 ≤ k ∧ k ≤ 64) && decide (1 ≤ c ∧ c ≤ 65536)) with
  | false =>
    rw [mostS_no (fun h => by rw [decide_eq_true h.1, decide_eq_true h.2] at hz; cases hz)]
    rw [hz] at KS
    clear hz
    go_enter Try.func42, Try.ntmps42
    go_wp2_with (go_at_call 61; (with_reducible refine (KS.out _).mono ?_); rintro e w' ⟨rfl, rfl⟩)
    go_ret
    exact ⟨rfl, rfl⟩
  | true =>
    rw [hz] at KS
    rw [Bool.and_eq_true, decide_eq_true_eq, decide_eq_true_eq] at hz
    obtain ⟨hk, hc⟩ := hz
    rw [mostS_yes hk hc]
    have KB := Lib.hid (bits_any c ⟨by omega, by omega⟩)
    have hy := bitsZ_bound c
    have hz := mostS_fits (k := k) (y := bitsZ c) hk hy.1 (by have := hy.2.1 (by omega); omega)
    have hy0 : 0 ≤ bitsZ c ∧ bitsZ c ≤ 65536 := ⟨hy.1, by have := hy.2.1 (by omega); omega⟩
    generalize bitsZ c = y at *
    obtain ⟨z1, z2⟩ := hz
    obtain ⟨z3, z4⟩ := hy0
    obtain ⟨k1, k2⟩ := hk
    clear hy hc
    go_enter Try.func42, Try.ntmps42
    go_wp2_with (first | (go_at_call 61; (with_reducible refine (KS.out _).mono ?_); rintro e w' ⟨rfl, rfl⟩) | (go_at_call 62; (with_reducible refine (KB.out _).mono ?_); rintro e w' ⟨rfl, rfl⟩))
    go_ret
    exact ⟨rfl, rfl⟩

set_option maxHeartbeats 4000000 in
set_option maxRecDepth 100000 in
theorem rmost14_any (k c : Int) (w : World) :
    Calls Try.prog 43 #[.int .i64 k, .int .i64 c] w fun e w' => e = .returned (.int .i64 (mostS k c)) ∧ w = w' := by
  have KK := Lib.hid (rmayK11_any k)
  have KB : Hid (∀ w : World, True) := Lib.hid (fun _ => trivial)
  cases hk0 : decide (1 ≤ k ∧ k ≤ 64) with
  | false =>
    rw [mostS_no (fun h => of_decide_eq_false hk0 h.1)]
    rw [hk0] at KK
    clear hk0
    go_enter Try.func43, Try.ntmps43
    go_wp2_with (first | (go_at_call 57; (with_reducible refine (KK.out _).mono ?_); rintro e w' ⟨rfl, rfl⟩) | (go_at_call 64; (with_reducible refine (KB.out _).mono ?_); rintro e w' ⟨rfl, rfl⟩))
    go_ret
    exact ⟨rfl, rfl⟩
  | true =>
  rw [hk0] at KK
  have hk : 1 ≤ k ∧ k ≤ 64 := of_decide_eq_true hk0
  clear hk0
  by_cases c1 : c < 1
  · rw [mostS_no (by omega)]
    have t1 : decide (c < 1) = true := decide_eq_true c1
    go_enter Try.func43, Try.ntmps43
    go_wp2_with (first | (go_at_call 57; (with_reducible refine (KK.out _).mono ?_); rintro e w' ⟨rfl, rfl⟩) | (go_at_call 64; (with_reducible refine (KB.out _).mono ?_); rintro e w' ⟨rfl, rfl⟩))
    go_ret
    exact ⟨rfl, rfl⟩
  have t1 : decide (c < 1) = false := decide_eq_false c1
  by_cases c2 : 65536 < c
  · rw [mostS_no (by omega)]
    have t2 : decide (65536 < c) = true := decide_eq_true c2
    go_enter Try.func43, Try.ntmps43
    go_wp2_with (first | (go_at_call 57; (with_reducible refine (KK.out _).mono ?_); rintro e w' ⟨rfl, rfl⟩) | (go_at_call 64; (with_reducible refine (KB.out _).mono ?_); rintro e w' ⟨rfl, rfl⟩))
    go_ret
    exact ⟨rfl, rfl⟩
  have t2 : decide (65536 < c) = false := decide_eq_false c2
  have hc : 1 ≤ c ∧ c ≤ 65536 := by omega
  rw [mostS_yes hk hc]
  clear KB
  have KB := Lib.hid (rbits_any c ⟨by omega, by omega⟩)
  have hy := bitsZ_bound c
  have hz := mostS_fits (k := k) (y := bitsZ c) hk hy.1 (by have := hy.2.1 (by omega); omega)
  have hy0 : 0 ≤ bitsZ c ∧ bitsZ c ≤ 65536 := ⟨hy.1, by have := hy.2.1 (by omega); omega⟩
  generalize bitsZ c = y at *
  obtain ⟨z1, z2⟩ := hz
  obtain ⟨z3, z4⟩ := hy0
  obtain ⟨k1, k2⟩ := hk
  clear hy hc
  go_enter Try.func43, Try.ntmps43
  go_wp2_with (first | (go_at_call 57; (with_reducible refine (KK.out _).mono ?_); rintro e w' ⟨rfl, rfl⟩) | (go_at_call 64; (with_reducible refine (KB.out _).mono ?_); rintro e w' ⟨rfl, rfl⟩))
  go_ret
  exact ⟨rfl, rfl⟩

set_option maxHeartbeats 4000000 in
set_option maxRecDepth 100000 in
theorem same14_t (v q c now seq : Int) (n k k2 : Nat) (A B : Option Addr) (L : List Mrk) (hn : n ≤ 1000000) (w : World) (hA : SG cM w A n L) (hB : SG cM w B n L) :
    Calls Try.prog 41 #[.agg #[.int .i64 v, .int .i64 q, .int .i64 c, .int .i64 now, .int .i64 seq, .slice A n k], .agg #[.int .i64 v, .int .i64 q, .int .i64 c, .int .i64 now, .int .i64 seq, .slice B n k2]] w fun e w' => e = .returned (.bool true) ∧ Up w w' := by
  have KS := Lib.hid (fun W (hu : Up w W) => sameM_t n k k2 A B L hn W (hA.up hu) (hB.up hu))
  clear hA hB
  go_enter Try.func41, Try.ntmps41
  go_wp2_with (go_at_call 58; (with_reducible refine (KS.out _ (((Up.refl w).alloc _ _).alloc _ _)).mono ?_); rintro e w1 ⟨rfl, hu⟩; have HU := Lib.hid hu; clear hu)
  go_ret
  exact ⟨rfl, (((Up.refl w).alloc _ _).alloc _ _).trans HU.out⟩
end Go.Proofs.Ytafkoddgefcpnaa
