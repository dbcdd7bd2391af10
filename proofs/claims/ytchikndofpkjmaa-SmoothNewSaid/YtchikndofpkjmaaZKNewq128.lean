/- Package smooth: Validate, New, Most; those of the reference; equal states. -/
import Derived.Test.YtchikndofpkjmaaRows
import Derived.Test.YtchikndofpkjmaaZAwakeq65
import Derived.Test.YtchikndofpkjmaaZKNewq127
namespace Go.Proofs.Ytchikndofpkjmaa
open Go.RowKit
set_option linter.unusedVariables false

set_option maxHeartbeats 4000000 in
set_option maxRecDepth 100000 in
theorem new13_no (g v q c now : Int) (h : mayM g v q c now = false) (w : World) :
    Calls Try.prog 10 #[.int .i64 g, .int .i64 v, .int .i64 q, .int .i64 c, .int .i64 now] w fun e w' => e = .returned (.tuple #[.agg #[.int .i64 0, .int .i64 0, .int .i64 0, .int .i64 0, .int .i64 0, .int .i64 0, .slice none 0 0], .int .i64 1]) ∧ Up w w' := by
  have KS := Lib.hid (validSizes13_any g q c)
  have KF := Lib.hid (first_any now v)
  rw [mayM_form] at h
  cases hz : (agB g && (decide (1 ≤ q ∧ q ≤ 64) && decide (1 ≤ c ∧ c ≤ 65536))) with
  | false =>
    rw [hz] at KS
    clear h hz
    go_enter Try.func10, Try.ntmps10
    go_wp2_with (go_at_call 36; (with_reducible refine (KS.out _).mono ?_); rintro e w' ⟨rfl, rfl⟩)
    refine bodyPost_ret (v := .tuple #[.agg #[.int .i64 0, .int .i64 0, .int .i64 0, .int .i64 0, .int .i64 0, .int .i64 0, .slice none 0 0], .int .i64 1]) (by simp [results, Try.results10, go_sem]) rfl ⟨?_, ?_⟩
    · rfl
    · repeat (first | exact Up.refl _ | refine Up.alloc ?_ _ _ | refine Up.setCell ?_ (by first | (simp; done) | (simp; omega) | omega) _ | refine Up.drewN ?_ _ | refine Up.drew ?_)
  | true =>
    rw [hz] at KS h
    rw [Bool.true_and] at h
    rw [firZ_no h] at KF
    clear h hz
    go_enter Try.func10, Try.ntmps10
    go_wp2_with (first | (go_at_call 36; (with_reducible refine (KS.out _).mono ?_); rintro e w' ⟨rfl, rfl⟩) | (go_at_call 37; (with_reducible refine (KF.out _).mono ?_); rintro e w' ⟨rfl, rfl⟩))
    refine bodyPost_ret (v := .tuple #[.agg #[.int .i64 0, .int .i64 0, .int .i64 0, .int .i64 0, .int .i64 0, .int .i64 0, .slice none 0 0], .int .i64 1]) (by simp [results, Try.results10, go_sem]) rfl ⟨?_, ?_⟩
    · rfl
    · repeat (first | exact Up.refl _ | refine Up.alloc ?_ _ _ | refine Up.setCell ?_ (by first | (simp; done) | (simp; omega) | omega) _ | refine Up.drewN ?_ _ | refine Up.drew ?_)

set_option maxHeartbeats 4000000 in
set_option maxRecDepth 100000 in
theorem rnew13_no (g v q c now : Int) (h : mayM g v q c now = false) (w : World) :
    Calls Try.prog 11 #[.int .i64 g, .int .i64 v, .int .i64 q, .int .i64 c, .int .i64 now] w fun e w' => e = .returned (.tuple #[.agg #[.int .i64 0, .int .i64 0, .int .i64 0, .int .i64 0, .int .i64 0, .int .i64 0, .slice none 0 0], .int .i64 1]) ∧ Up w w' := by
  have KA := Lib.hid (rmayAgg_any g)
  have KM := Lib.hid (rmay_any v c now)
  have KK := Lib.hid (rmayK11_any q)
  rw [mayM_form2] at h
  cases ha : agB g with
  | false =>
    rw [ha] at KA
    clear h ha
    go_enter Try.func11, Try.ntmps11
    go_wp2_with (first | (go_at_call 38; (with_reducible refine (KA.out _).mono ?_); rintro e w' ⟨rfl, rfl⟩) | (go_at_call 39; (with_reducible refine (KM.out _).mono ?_); rintro e w' ⟨rfl, rfl⟩) | (go_at_call 40; (with_reducible refine (KK.out _).mono ?_); rintro e w' ⟨rfl, rfl⟩))
    refine bodyPost_ret (v := .tuple #[.agg #[.int .i64 0, .int .i64 0, .int .i64 0, .int .i64 0, .int .i64 0, .int .i64 0, .slice none 0 0], .int .i64 1]) (by simp [results, Try.results11, go_sem]) rfl ⟨?_, ?_⟩
    · rfl
    · repeat (first | exact Up.refl _ | refine Up.alloc ?_ _ _ | refine Up.setCell ?_ (by first | (simp; done) | (simp; omega) | omega) _ | refine Up.drewN ?_ _ | refine Up.drew ?_)
  | true =>
  rw [ha] at KA h
  cases hb : mayB v c now with
  | false =>
    rw [hb] at KM
    clear h ha hb
    go_enter Try.func11, Try.ntmps11
    go_wp2_with (first | (go_at_call 38; (with_reducible refine (KA.out _).mono ?_); rintro e w' ⟨rfl, rfl⟩) | (go_at_call 39; (with_reducible refine (KM.out _).mono ?_); rintro e w' ⟨rfl, rfl⟩) | (go_at_call 40; (with_reducible refine (KK.out _).mono ?_); rintro e w' ⟨rfl, rfl⟩))
    refine bodyPost_ret (v := .tuple #[.agg #[.int .i64 0, .int .i64 0, .int .i64 0, .int .i64 0, .int .i64 0, .int .i64 0, .slice none 0 0], .int .i64 1]) (by simp [results, Try.results11, go_sem]) rfl ⟨?_, ?_⟩
    · rfl
    · repeat (first | exact Up.refl _ | refine Up.alloc ?_ _ _ | refine Up.setCell ?_ (by first | (simp; done) | (simp; omega) | omega) _ | refine Up.drewN ?_ _ | refine Up.drew ?_)
  | true =>
    rw [hb] at KM h
    rw [Bool.true_and, Bool.true_and] at h
    rw [h] at KK
    clear h ha hb
    go_enter Try.func11, Try.ntmps11
    go_wp2_with (first | (go_at_call 38; (with_reducible refine (KA.out _).mono ?_); rintro e w' ⟨rfl, rfl⟩) | (go_at_call 39; (with_reducible refine (KM.out _).mono ?_); rintro e w' ⟨rfl, rfl⟩) | (go_at_call 40; (with_reducible refine (KK.out _).mono ?_); rintro e w' ⟨rfl, rfl⟩))
    refine bodyPost_ret (v := .tuple #[.agg #[.int .i64 0, .int .i64 0, .int .i64 0, .int .i64 0, .int .i64 0, .int .i64 0, .slice none 0 0], .int .i64 1]) (by simp [results, Try.results11, go_sem]) rfl ⟨?_, ?_⟩
    · rfl
    · repeat (first | exact Up.refl _ | refine Up.alloc ?_ _ _ | refine Up.setCell ?_ (by first | (simp; done) | (simp; omega) | omega) _ | refine Up.drewN ?_ _ | refine Up.drew ?_)

set_option maxHeartbeats 4000000 in
set_option maxRecDepth 100000 in
theorem rnew13_yes (g v q c now : Int) (h : mayM g v q c now = true) (w : World) :
    Calls Try.prog 11 #[.int .i64 g, .int .i64 v, .int .i64 q, .int .i64 c, .int .i64 now] w fun e w' => e = .returned (.tuple #[.agg #[.int .i64 g, .int .i64 v, .int .i64 q, .int .i64 c, .int .i64 now, .int .i64 0, .slice none 0 0], .int .i64 0]) ∧ Up w w' := by
  have KA := Lib.hid (rmayAgg_any g)
  have KM := Lib.hid (rmay_any v c now)
  have KK := Lib.hid (rmayK11_any q)
  rw [mayM_form2] at h
  rw [Bool.and_eq_true, Bool.and_eq_true] at h
  rw [h.1] at KA
  rw [h.2.1] at KM
  rw [h.2.2] at KK
  clear h
  go_enter Try.func11, Try.ntmps11
  go_wp2_with (first | (go_at_call 38; (with_reducible refine (KA.out _).mono ?_); rintro e w' ⟨rfl, rfl⟩) | (go_at_call 39; (with_reducible refine (KM.out _).mono ?_); rintro e w' ⟨rfl, rfl⟩) | (go_at_call 40; (with_reducible refine (KK.out _).mono ?_); rintro e w' ⟨rfl, rfl⟩))
  refine bodyPost_ret (v := .tuple #[.agg #[.int .i64 g, .int .i64 v, .int .i64 q, .int .i64 c, .int .i64 now, .int .i64 0, .slice none 0 0], .int .i64 0]) (by simp [results, Try.results11, go_sem]) rfl ⟨?_, ?_⟩
  · rfl
  · repeat (first | exact Up.refl _ | refine Up.alloc ?_ _ _ | refine Up.setCell ?_ (by first | (simp; done) | (simp; omega) | omega) _ | refine Up.drewN ?_ _ | refine Up.drew ?_)

set_option maxHeartbeats 4000000 in
set_option maxRecDepth 100000 in
theorem greatest_any (g c : Int) (hg : 1 ≤ g ∧ g ≤ 4) (hc : 1 ≤ c ∧ c ≤ 65536) (w : World) :
    Calls Try.prog 45 #[.int .i64 g, .int .i64 c] w fun e w' => e = .returned (.int .i64 (topG g c)) ∧ w = w' := by
  obtain ⟨c1, c2⟩ := hc
  have : g = 1 ∨ g = 2 ∨ g = 3 ∨ g = 4 := by omega
  clear hg
  rcases this with rfl | rfl | rfl | rfl
  · rw [show topG 1 c = c from rfl]
    go_enter Try.func45, Try.ntmps45
    go_wp2
    go_ret
    exact ⟨rfl, rfl⟩
  · rw [show topG 2 c = c * 4096 from rfl]
    go_enter Try.func45, Try.ntmps45
    go_wp2
    go_ret
    exact ⟨rfl, rfl⟩
  · rw [show topG 3 c = c * 4096 * 4096 from rfl]
    go_enter Try.func45, Try.ntmps45
    go_wp2
    go_ret
    exact ⟨rfl, rfl⟩
  · rw [show topG 4 c = 8192 from rfl]
    go_enter Try.func45, Try.ntmps45
    go_wp2
    go_ret
    exact ⟨rfl, rfl⟩

set_option maxHeartbeats 4000000 in
set_option maxRecDepth 100000 in
theorem most13_any (g k c : Int) (w : World) :
    Calls Try.prog 15 #[.int .i64 g, .int .i64 k, .int .i64 c] w fun e w' => e = .returned (.int .i64 (mostZ g k c)) ∧ w = w' := by
  have KS := Lib.hid (validSizes13_any g k c)
  cases hz : (agB g && (decide (1 ≤ k ∧ k ≤ 64) && decide (1 ≤ c ∧ c ≤ 65536))) with
  | false =>
    rw [mostZ_no hz]
    rw [hz] at KS
    clear hz
    go_enter Try.func15, Try.ntmps15
    go_wp2_with (go_at_call 36; (with_reducible refine (KS.out _).mono ?_); rintro e w' ⟨rfl, rfl⟩)
    go_ret
    exact ⟨rfl, rfl⟩
  | true =>
    rw [hz] at KS
    rw [Bool.and_eq_true, Bool.and_eq_true, decide_eq_true_eq, decide_eq_true_eq] at hz
    obtain ⟨hg, hk, hc⟩ := hz
    rw [mostZ_yes hg hk hc]
    have hg2 := agB_true hg
    have hb := topG_bd hg2 hc
    have KG := Lib.hid (greatest_any g c hg2 hc)
    generalize topG g c = f at *
    have KB := Lib.hid (bits_any f ⟨by omega, by omega⟩)
    have hy := bitsZ_bound f
    generalize bitsZ f = y at *
    have hz := most_fits (k := k) (y := y) hk hy.1 (by have := hy.2.1 (by omega); omega)
    obtain ⟨z1, z2⟩ := hz
    obtain ⟨k1, k2⟩ := hk
    clear hy hb hg2 hg hc
    go_enter Try.func15, Try.ntmps15
    go_wp2_with (first | (go_at_call 36; (with_reducible refine (KS.out _).mono ?_); rintro e w' ⟨rfl, rfl⟩) | (go_at_call 45; (with_reducible refine (KG.out _).mono ?_); rintro e w' ⟨rfl, rfl⟩) | (go_at_call 44; (with_reducible refine (KB.out _).mono ?_); rintro e w' ⟨rfl, rfl⟩))
    go_ret
    exact ⟨rfl, rfl⟩

end Go.Proofs.Ytchikndofpkjmaa
