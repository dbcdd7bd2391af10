/- Package smooth: Validate, New, Most; those of the reference; equal states. -/
import Derived.Test.YtafkoddgefcpnaaRows
import Derived.Test.YtafkoddgefcpnaaZKNewq195
namespace Go.Proofs.Ytafkoddgefcpnaa
open Go.RowKit
set_option linter.unusedVariables false

theorem topG_bd {g c : Int} (hg : 1 ≤ g ∧ g ≤ 4) (hc : 1 ≤ c ∧ c ≤ 65536) : 1 ≤ topG g c ∧ topG g c ≤ 1099511627776 := by
  unfold topG
  repeat' split
  all_goals omega
theorem mostZ_yes {g k c : Int} (h1 : agB g = true) (h2 : 1 ≤ k ∧ k ≤ 64) (h3 : 1 ≤ c ∧ c ≤ 65536) : mostZ g k c = 2 * k * bitsZ (topG g c) + 2 := if_pos ⟨h1, h2, h3⟩
theorem mostZ_no {g k c : Int} (h : (agB g && (decide (1 ≤ k ∧ k ≤ 64) && decide (1 ≤ c ∧ c ≤ 65536))) = false) : mostZ g k c = 0 := if_neg (fun h2 => by rw [h2.1, decide_eq_true h2.2.1, decide_eq_true h2.2.2] at h; cases h)
theorem most_fits {k y : Int} (hk : 1 ≤ k ∧ k ≤ 64) (h0 : 0 ≤ y) (h1 : y ≤ 1099511627776) : 0 ≤ 2 * k * y ∧ 2 * k * y ≤ 140737488355328 := by
  have a1 : 0 ≤ 2 * k * y := Int.mul_nonneg (by omega) h0
  have a2 : 2 * k * y ≤ 128 * y := Int.mul_le_mul_of_nonneg_right (by omega) h0
  omega

set_option maxHeartbeats 4000000 in
set_option maxRecDepth 100000 in
theorem rmost13_any (g k c : Int) (w : World) :
    Calls Try.prog 19 #[.int .i64 g, .int .i64 k, .int .i64 c] w fun e w' => e = .returned (.int .i64 (mostZ g k c)) ∧ w = w' := by
  have KA := Lib.hid (rmayAgg_any g)
  have KK := Lib.hid (rmayK11_any k)
  have KB : Hid (∀ w : World, True) := Lib.hid (fun _ => trivial)
  cases ha : agB g with
  | false =>
    rw [mostZ_no (by rw [ha]; rfl)]
    rw [ha] at KA
    clear ha
    go_enter Try.func19, Try.ntmps19
    go_wp2_with (first | (go_at_call 55; (with_reducible refine (KA.out _).mono ?_); rintro e w' ⟨rfl, rfl⟩) | (go_at_call 57; (with_reducible refine (KK.out _).mono ?_); rintro e w' ⟨rfl, rfl⟩) | (go_at_call 64; (with_reducible refine (KB.out _).mono ?_); rintro e w' ⟨rfl, rfl⟩))
    go_ret
    exact ⟨rfl, rfl⟩
  | true =>
  rw [ha] at KA
  cases hk : decide (1 ≤ k ∧ k ≤ 64) with
  | false =>
    rw [mostZ_no (by rw [ha, hk]; rfl)]
    rw [hk] at KK
    clear ha hk
    go_enter Try.func19, Try.ntmps19
    go_wp2_with (first | (go_at_call 55; (with_reducible refine (KA.out _).mono ?_); rintro e w' ⟨rfl, rfl⟩) | (go_at_call 57; (with_reducible refine (KK.out _).mono ?_); rintro e w' ⟨rfl, rfl⟩) | (go_at_call 64; (with_reducible refine (KB.out _).mono ?_); rintro e w' ⟨rfl, rfl⟩))
    go_ret
    exact ⟨rfl, rfl⟩
  | true =>
  rw [hk] at KK
  by_cases c1 : c < 1
  · rw [mostZ_no (by rw [ha, hk, decide_eq_false (p := 1 ≤ c ∧ c ≤ 65536) (by omega)]; rfl)]
    clear ha hk
    have t1 : decide (c < 1) = true := decide_eq_true c1
    go_enter Try.func19, Try.ntmps19
    go_wp2_with (first | (go_at_call 55; (with_reducible refine (KA.out _).mono ?_); rintro e w' ⟨rfl, rfl⟩) | (go_at_call 57; (with_reducible refine (KK.out _).mono ?_); rintro e w' ⟨rfl, rfl⟩) | (go_at_call 64; (with_reducible refine (KB.out _).mono ?_); rintro e w' ⟨rfl, rfl⟩))
    go_ret
    exact ⟨rfl, rfl⟩
  by_cases c2 : 65536 < c
  · rw [mostZ_no (by rw [ha, hk, decide_eq_false (p := 1 ≤ c ∧ c ≤ 65536) (by omega)]; rfl)]
    clear ha hk
    have t1 : decide (c < 1) = false := decide_eq_false c1
    have t2 : decide (65536 < c) = true := decide_eq_true c2
    go_enter Try.func19, Try.ntmps19
    go_wp2_with (first | (go_at_call 55; (with_reducible refine (KA.out _).mono ?_); rintro e w' ⟨rfl, rfl⟩) | (go_at_call 57; (with_reducible refine (KK.out _).mono ?_); rintro e w' ⟨rfl, rfl⟩) | (go_at_call 64; (with_reducible refine (KB.out _).mono ?_); rintro e w' ⟨rfl, rfl⟩))
    go_ret
    exact ⟨rfl, rfl⟩
  have hk2 : 1 ≤ k ∧ k ≤ 64 := of_decide_eq_true hk
  have hc : 1 ≤ c ∧ c ≤ 65536 := by omega
  have t1 : decide (c < 1) = false := decide_eq_false c1
  have t2 : decide (65536 < c) = false := decide_eq_false c2
  rw [mostZ_yes ha hk2 hc]
  have hg2 := agB_true ha
  have : g = 1 ∨ g = 2 ∨ g = 3 ∨ g = 4 := by omega
  clear KB
  have hb := topG_bd hg2 hc
  have KB := Lib.hid (rbits_any (topG g c) ⟨by omega, by omega⟩)
  have hy := bitsZ_bound (topG g c)
  have hz := most_fits (k := k) (y := bitsZ (topG g c)) hk2 hy.1 (by have := hy.2.1 (by omega); omega)
  generalize hye : bitsZ (topG g c) = y at *
  obtain ⟨z1, z2⟩ := hz
  obtain ⟨k1, k2⟩ := hk2
  clear hy hb hg2 ha hk hc hye
  rcases this with rfl | rfl | rfl | rfl
  · rw [show topG 1 c = c from rfl] at KB
    go_enter Try.func19, Try.ntmps19
    go_wp2_with (first | (go_at_call 55; (with_reducible refine (KA.out _).mono ?_); rintro e w' ⟨rfl, rfl⟩) | (go_at_call 57; (with_reducible refine (KK.out _).mono ?_); rintro e w' ⟨rfl, rfl⟩) | (go_at_call 64; (with_reducible refine (KB.out _).mono ?_); rintro e w' ⟨rfl, rfl⟩))
    go_ret
    exact ⟨rfl, rfl⟩
  · rw [show topG 2 c = c * 4096 from rfl] at KB
    go_enter Try.func19, Try.ntmps19
    go_wp2_with (first | (go_at_call 55; (with_reducible refine (KA.out _).mono ?_); rintro e w' ⟨rfl, rfl⟩) | (go_at_call 57; (with_reducible refine (KK.out _).mono ?_); rintro e w' ⟨rfl, rfl⟩) | (go_at_call 64; (with_reducible refine (KB.out _).mono ?_); rintro e w' ⟨rfl, rfl⟩))
    go_ret
    exact ⟨rfl, rfl⟩
  · rw [show topG 3 c = c * 4096 * 4096 from rfl] at KB
    go_enter Try.func19, Try.ntmps19
    go_wp2_with (first | (go_at_call 55; (with_reducible refine (KA.out _).mono ?_); rintro e w' ⟨rfl, rfl⟩) | (go_at_call 57; (with_reducible refine (KK.out _).mono ?_); rintro e w' ⟨rfl, rfl⟩) | (go_at_call 64; (with_reducible refine (KB.out _).mono ?_); rintro e w' ⟨rfl, rfl⟩))
    go_ret
    exact ⟨rfl, rfl⟩
  · rw [show topG 4 c = 8192 from rfl] at KB
    go_enter Try.func19, Try.ntmps19
    go_wp2_with (first | (go_at_call 55; (with_reducible refine (KA.out _).mono ?_); rintro e w' ⟨rfl, rfl⟩) | (go_at_call 57; (with_reducible refine (KK.out _).mono ?_); rintro e w' ⟨rfl, rfl⟩) | (go_at_call 64; (with_reducible refine (KB.out _).mono ?_); rintro e w' ⟨rfl, rfl⟩))
    go_ret
    exact ⟨rfl, rfl⟩

end Go.Proofs.Ytafkoddgefcpnaa
