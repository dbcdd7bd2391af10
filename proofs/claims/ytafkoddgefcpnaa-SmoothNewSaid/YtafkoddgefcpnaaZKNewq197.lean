/- Package smooth: Validate, New, Most; those of the reference; equal states. -/
import Derived.Test.YtafkoddgefcpnaaRows
import Derived.Test.YtafkoddgefcpnaaZKMcq191
import Derived.Test.YtafkoddgefcpnaaZKNewq196
namespace Go.Proofs.Ytafkoddgefcpnaa
open Go.RowKit
set_option linter.unusedVariables false

set_option maxHeartbeats 4000000 in
set_option maxRecDepth 100000 in
theorem new13_no (g v q c now : Int) (h : mayM g v q c now = false) (w : World) :
    Calls Try.prog 13 #[.int .i64 g, .int .i64 v, .int .i64 q, .int .i64 c, .int .i64 now] w fun e w' => e = .returned (.tuple #[.agg #[.int .i64 0, .int .i64 0, .int .i64 0, .int .i64 0, .int .i64 0, .int .i64 0, .slice none 0 0], .int .i64 1]) ∧ Up w w' := by
  have KN := Lib.hid (mnew_no g v q c now h)
  clear h
  go_enter Try.func13, Try.ntmps13
  go_wp2_with (go_at_call 54; (with_reducible refine (KN.out _).mono ?_); rintro e w1 ⟨rfl, hu⟩; have HU1 := Lib.hid (((Up.refl w).alloc _ _).trans hu); have r0 := hu.keep w.heap.size 0 (.int .i64 0) (by simp [go_sem]); have r1 := hu.keep w.heap.size 1 (.int .i64 0) (by simp [go_sem]); have r2 := hu.keep w.heap.size 2 (.int .i64 0) (by simp [go_sem]); have r3 := hu.keep w.heap.size 3 (.int .i64 0) (by simp [go_sem]); have r4 := hu.keep w.heap.size 4 (.int .i64 0) (by simp [go_sem]); have r5 := hu.keep w.heap.size 5 (.int .i64 0) (by simp [go_sem]); have r6 := hu.keep w.heap.size 6 (.slice none 0 0) (by simp [go_sem]); have z0 := HU1.out.ownGe (g := w.heap.size) (Nat.le_refl _) 0; have z1 := HU1.out.ownGe (g := w.heap.size) (Nat.le_refl _) 1; have z2 := HU1.out.ownGe (g := w.heap.size) (Nat.le_refl _) 2; have z3 := HU1.out.ownGe (g := w.heap.size) (Nat.le_refl _) 3; have z4 := HU1.out.ownGe (g := w.heap.size) (Nat.le_refl _) 4; have z5 := HU1.out.ownGe (g := w.heap.size) (Nat.le_refl _) 5; have z6 := HU1.out.ownGe (g := w.heap.size) (Nat.le_refl _) 6; clear hu)
  refine bodyPost_ret (v := .tuple #[.agg #[.int .i64 0, .int .i64 0, .int .i64 0, .int .i64 0, .int .i64 0, .int .i64 0, .slice none 0 0], .int .i64 1]) (by simp [results, Try.results13, go_sem, r0, r1, r2, r3, r4, r5, r6]) rfl ⟨rfl, ?_⟩
  exact HU1.out.set7 (Nat.le_refl _)

set_option maxHeartbeats 4000000 in
set_option maxRecDepth 100000 in
theorem rnew13_no (g v q c now : Int) (h : mayM g v q c now = false) (w : World) :
    Calls Try.prog 14 #[.int .i64 g, .int .i64 v, .int .i64 q, .int .i64 c, .int .i64 now] w fun e w' => e = .returned (.tuple #[.agg #[.int .i64 0, .int .i64 0, .int .i64 0, .int .i64 0, .int .i64 0, .int .i64 0, .slice none 0 0], .int .i64 1]) ∧ Up w w' := by
  have KA := Lib.hid (rmayAgg_any g)
  have KM := Lib.hid (rmay_any v c now)
  have KK := Lib.hid (rmayK11_any q)
  rw [mayM_form2] at h
  cases ha : agB g with
  | false =>
    rw [ha] at KA
    clear h ha
    go_enter Try.func14, Try.ntmps14
    go_wp2_with (first | (go_at_call 55; (with_reducible refine (KA.out _).mono ?_); rintro e w' ⟨rfl, rfl⟩) | (go_at_call 56; (with_reducible refine (KM.out _).mono ?_); rintro e w' ⟨rfl, rfl⟩) | (go_at_call 57; (with_reducible refine (KK.out _).mono ?_); rintro e w' ⟨rfl, rfl⟩))
    refine bodyPost_ret (v := .tuple #[.agg #[.int .i64 0, .int .i64 0, .int .i64 0, .int .i64 0, .int .i64 0, .int .i64 0, .slice none 0 0], .int .i64 1]) (by simp [results, Try.results14, go_sem]) rfl ⟨?_, ?_⟩
    · rfl
    · repeat (first | exact Up.refl _ | refine Up.alloc ?_ _ _ | refine Up.setCell ?_ (by first | (simp; done) | (simp; omega) | omega) _ | refine Up.drewN ?_ _ | refine Up.drew ?_)
  | true =>
  rw [ha] at KA h
  cases hb : mayB v c now with
  | false =>
    rw [hb] at KM
    clear h ha hb
    go_enter Try.func14, Try.ntmps14
    go_wp2_with (first | (go_at_call 55; (with_reducible refine (KA.out _).mono ?_); rintro e w' ⟨rfl, rfl⟩) | (go_at_call 56; (with_reducible refine (KM.out _).mono ?_); rintro e w' ⟨rfl, rfl⟩) | (go_at_call 57; (with_reducible refine (KK.out _).mono ?_); rintro e w' ⟨rfl, rfl⟩))
    refine bodyPost_ret (v := .tuple #[.agg #[.int .i64 0, .int .i64 0, .int .i64 0, .int .i64 0, .int .i64 0, .int .i64 0, .slice none 0 0], .int .i64 1]) (by simp [results, Try.results14, go_sem]) rfl ⟨?_, ?_⟩
    · rfl
    · repeat (first | exact Up.refl _ | refine Up.alloc ?_ _ _ | refine Up.setCell ?_ (by first | (simp; done) | (simp; omega) | omega) _ | refine Up.drewN ?_ _ | refine Up.drew ?_)
  | true =>
    rw [hb] at KM h
    rw [Bool.true_and, Bool.true_and] at h
    rw [h] at KK
    clear h ha hb
    go_enter Try.func14, Try.ntmps14
    go_wp2_with (first | (go_at_call 55; (with_reducible refine (KA.out _).mono ?_); rintro e w' ⟨rfl, rfl⟩) | (go_at_call 56; (with_reducible refine (KM.out _).mono ?_); rintro e w' ⟨rfl, rfl⟩) | (go_at_call 57; (with_reducible refine (KK.out _).mono ?_); rintro e w' ⟨rfl, rfl⟩))
    refine bodyPost_ret (v := .tuple #[.agg #[.int .i64 0, .int .i64 0, .int .i64 0, .int .i64 0, .int .i64 0, .int .i64 0, .slice none 0 0], .int .i64 1]) (by simp [results, Try.results14, go_sem]) rfl ⟨?_, ?_⟩
    · rfl
    · repeat (first | exact Up.refl _ | refine Up.alloc ?_ _ _ | refine Up.setCell ?_ (by first | (simp; done) | (simp; omega) | omega) _ | refine Up.drewN ?_ _ | refine Up.drew ?_)

set_option maxHeartbeats 4000000 in
set_option maxRecDepth 100000 in
theorem rnew13_yes (g v q c now : Int) (h : mayM g v q c now = true) (w : World) :
    Calls Try.prog 14 #[.int .i64 g, .int .i64 v, .int .i64 q, .int .i64 c, .int .i64 now] w fun e w' => e = .returned (.tuple #[.agg #[.int .i64 g, .int .i64 v, .int .i64 q, .int .i64 c, .int .i64 now, .int .i64 0, .slice none 0 0], .int .i64 0]) ∧ Up w w' := by
  have KA := Lib.hid (rmayAgg_any g)
  have KM := Lib.hid (rmay_any v c now)
  have KK := Lib.hid (rmayK11_any q)
  rw [mayM_form2] at h
  rw [Bool.and_eq_true, Bool.and_eq_true] at h
  rw [h.1] at KA
  rw [h.2.1] at KM
  rw [h.2.2] at KK
  clear h
  go_enter Try.func14, Try.ntmps14
  go_wp2_with (first | (go_at_call 55; (with_reducible refine (KA.out _).mono ?_); rintro e w' ⟨rfl, rfl⟩) | (go_at_call 56; (with_reducible refine (KM.out _).mono ?_); rintro e w' ⟨rfl, rfl⟩) | (go_at_call 57; (with_reducible refine (KK.out _).mono ?_); rintro e w' ⟨rfl, rfl⟩))
  refine bodyPost_ret (v := .tuple #[.agg #[.int .i64 g, .int .i64 v, .int .i64 q, .int .i64 c, .int .i64 now, .int .i64 0, .slice none 0 0], .int .i64 0]) (by simp [results, Try.results14, go_sem]) rfl ⟨?_, ?_⟩
  · rfl
  · repeat (first | exact Up.refl _ | refine Up.alloc ?_ _ _ | refine Up.setCell ?_ (by first | (simp; done) | (simp; omega) | omega) _ | refine Up.drewN ?_ _ | refine Up.drew ?_)

set_option maxHeartbeats 4000000 in
set_option maxRecDepth 100000 in
theorem greatest_any (g c : Int) (hg : 1 ≤ g ∧ g ≤ 4) (hc : 1 ≤ c ∧ c ≤ 65536) (w : World) :
    Calls Try.prog 63 #[.int .i64 g, .int .i64 c] w fun e w' => e = .returned (.int .i64 (topG g c)) ∧ w = w' := by
  obtain ⟨c1, c2⟩ := hc
  have : g = 1 ∨ g = 2 ∨ g = 3 ∨ g = 4 := by omega
  clear hg
  rcases this with rfl | rfl | rfl | rfl
  · rw [show topG 1 c = c from rfl]
    go_enter Try.func63, Try.ntmps63
    go_wp2
    go_ret
    exact ⟨rfl, rfl⟩
  · rw [show topG 2 c = c * 4096 from rfl]
    go_enter Try.func63, Try.ntmps63
    go_wp2
    go_ret
    exact ⟨rfl, rfl⟩
  · rw [show topG 3 c = c * 4096 * 4096 from rfl]
    go_enter Try.func63, Try.ntmps63
    go_wp2
    go_ret
    exact ⟨rfl, rfl⟩
  · rw [show topG 4 c = 8192 from rfl]
    go_enter Try.func63, Try.ntmps63
    go_wp2
    go_ret
    exact ⟨rfl, rfl⟩

set_option maxHeartbeats 4000000 in
set_option maxRecDepth 100000 in
theorem most13_any (g k c : Int) (w : World) :
    Calls Try.prog 18 #[.int .i64 g, .int .i64 k, .int .i64 c] w fun e w' => e = .returned (.int .i64 (mostZ g k c)) ∧ w = w' := by
  have KS := Lib.hid (validSizes13_any g k c)
  cases hz : (agB g && (decide (1 ≤ k ∧ k ≤ 64) && decide (1 ≤ c ∧ c ≤ 65536))) with
  | false =>
    rw [mostZ_no hz]
    rw [hz] at KS
    clear hz
    go_enter Try.func18, Try.ntmps18
    go_wp2_with (go_at_call 61; (with_reducible refine (KS.out _).mono ?_); rintro e w' ⟨rfl, rfl⟩)
    go_ret
    exact ⟨rfl, rfl⟩
  | true =>
    rw [hz] at KS
    rw [Bool.and_eq_true, Bool.and_eq_true, decide_eq_true_eq, decide_eq_true_eq] at hz
    obtain ⟨hg, hk, hc⟩ := hz
    rw [mostZ_yes hg hk hc]
    have hg2 := agB_true hg
    have hb := topG_bd hg2 hc
    have KG := Lib.hid (greatest_any g c hg2 hc)
    generalize topG g c = f at *
    have KB := Lib.hid (bits_any f ⟨by omega, by omega⟩)
    have hy := bitsZ_bound f
    generalize bitsZ f = y at *
    have hz := most_fits (k := k) (y := y) hk hy.1 (by have := hy.2.1 (by omega); omega)
    obtain ⟨z1, z2⟩ := hz
    obtain ⟨k1, k2⟩ := hk
    clear hy hb hg2 hg hc
    go_enter Try.func18, Try.ntmps18
    go_wp2_with (first | (go_at_call 61; (with_reducible refine (KS.out _).mono ?_); rintro e w' ⟨rfl, rfl⟩) | (go_at_call 63; (with_reducible refine (KG.out _).mono ?_); rintro e w' ⟨rfl, rfl⟩) | (go_at_call 62; (with_reducible refine (KB.out _).mono ?_); rintro e w' ⟨rfl, rfl⟩))
    go_ret
    exact ⟨rfl, rfl⟩

end Go.Proofs.Ytafkoddgefcpnaa
