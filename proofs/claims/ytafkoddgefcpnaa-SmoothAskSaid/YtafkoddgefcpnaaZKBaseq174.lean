/- Package smooth and its reference: parameters, values, aggregates of marks, what fits together. -/
import Derived.Test.YtafkoddgefcpnaaRows
import Derived.Test.YtafkoddgefcpnaaZIAppq119
namespace Go.Proofs.Ytafkoddgefcpnaa
open Go.RowKit
set_option linter.unusedVariables false

set_option maxHeartbeats 4000000 in
theorem rvalue13_any (g v : Int) (w : World) :
    Calls Try.prog 73 #[.int .i64 g, .int .i64 v] w fun e w' => e = .returned (.bool (decide (valG g v))) ∧ w = w' := by
  have KV := Lib.hid (rvalue_any v)
  unfold valG
  cases hv : valueB v with
  | false =>
    rw [decide_eq_false (p := -4096 ≤ v ∧ v ≤ 4096 ∧ (0 ≤ v ∨ g = 1 ∨ g = 4)) (fun h => by rw [show valueB v = true from decide_eq_true ⟨h.1, h.2.1⟩] at hv; cases hv)]
    rw [hv] at KV
    clear hv
    go_enter Try.func73, Try.ntmps73
    go_wp2_with (go_at_call 115; (with_reducible refine (KV.out _).mono ?_); rintro e w' ⟨rfl, rfl⟩)
    go_ret
    exact ⟨rfl, rfl⟩
  | true =>
  rw [hv] at KV
  have hv2 : -4096 ≤ v ∧ v ≤ 4096 := of_decide_eq_true hv
  clear hv
  have HB : Hid (∀ _ : ¬ (0 ≤ v ∨ g = 1 ∨ g = 4), decide (-4096 ≤ v ∧ v ≤ 4096 ∧ (0 ≤ v ∨ g = 1 ∨ g = 4)) = false) := Lib.hid (fun h => decide_eq_false (fun x => h x.2.2))
  have HT : Hid (∀ _ : (0 ≤ v ∨ g = 1 ∨ g = 4), decide (-4096 ≤ v ∧ v ≤ 4096 ∧ (0 ≤ v ∨ g = 1 ∨ g = 4)) = true) := Lib.hid (fun h => decide_eq_true ⟨hv2.1, hv2.2, h⟩)
  generalize decide (-4096 ≤ v ∧ v ≤ 4096 ∧ (0 ≤ v ∨ g = 1 ∨ g = 4)) = r at *
  clear hv2
  by_cases h1 : 0 ≤ v
  · obtain rfl : r = true := HT.out (Or.inl h1)
    clear HB HT
    go_enter Try.func73, Try.ntmps73
    go_wp2_with (go_at_call 115; (with_reducible refine (KV.out _).mono ?_); rintro e w' ⟨rfl, rfl⟩)
    go_ret
    exact ⟨rfl, rfl⟩
  have t1 : decide (0 ≤ v) = false := decide_eq_false h1
  by_cases h2 : g = 1
  · subst h2
    obtain rfl : r = true := HT.out (Or.inr (Or.inl rfl))
    clear HB HT
    go_enter Try.func73, Try.ntmps73
    go_wp2_with (go_at_call 115; (with_reducible refine (KV.out _).mono ?_); rintro e w' ⟨rfl, rfl⟩)
    go_ret
    exact ⟨rfl, rfl⟩
  have t2 : (g == 1) = false := beq_eq_false_iff_ne.2 h2
  by_cases h3 : g = 4
  · subst h3
    obtain rfl : r = true := HT.out (Or.inr (Or.inr rfl))
    clear HB HT h2
    go_enter Try.func73, Try.ntmps73
    go_wp2_with (go_at_call 115; (with_reducible refine (KV.out _).mono ?_); rintro e w' ⟨rfl, rfl⟩)
    go_ret
    exact ⟨rfl, rfl⟩
  have t3 : (g == 4) = false := beq_eq_false_iff_ne.2 h3
  obtain rfl : r = false := HB.out (fun h => h.elim h1 (fun h => h.elim h2 h3))
  clear HB HT
  go_enter Try.func73, Try.ntmps73
  go_wp2_with (go_at_call 115; (with_reducible refine (KV.out _).mono ?_); rintro e w' ⟨rfl, rfl⟩)
  go_ret
  exact ⟨rfl, rfl⟩

set_option maxHeartbeats 4000000 in
set_option maxRecDepth 100000 in
theorem part13_any (n s q lo hi : Int) (h1 : 1 ≤ n) (h2 : n ≤ 65536) (h3 : -4096 ≤ lo) (h4 : lo ≤ 4096) (h5 : -4096 ≤ hi) (h6 : hi ≤ 4096) (w : World) :
    Calls Try.prog 109 #[.int .i64 n, .int .i64 s, .int .i64 q, .int .i64 lo, .int .i64 hi] w fun e w' => e = .returned (.bool (decide (prtP n s q lo hi))) ∧ w = w' := by
  obtain ⟨⟨x1, x2⟩, ⟨x3, x4⟩, x5⟩ := fit_facts (s := s) (q := q) h1 h2 h3 h4 h5 h6
  have HF := Lib.hid (fit_facts2 (s := s) (q := q) h1 h2 h3 h4 h5 h6)
  have HB : Hid (∀ _ : ¬ (n * lo ≤ s ∧ s ≤ n * hi ∧ 0 ≤ q ∧ q ≤ n * 4096 * 4096 ∧ s * s ≤ n * q), decide (prtP n s q lo hi) = false) := Lib.hid (fun h => decide_eq_false h)
  have HT : Hid (n * lo ≤ s ∧ s ≤ n * hi ∧ 0 ≤ q ∧ q ≤ n * 4096 * 4096 ∧ s * s ≤ n * q → decide (prtP n s q lo hi) = true) := Lib.hid (fun h => decide_eq_true h)
  generalize decide (prtP n s q lo hi) = r at *
  have z1 : 0 ≤ n * 4096 * 4096 := by omega
  by_cases k0 : ¬ (n * lo ≤ s)
  · obtain rfl : r = false := HB.out (fun h => k0 h.1)
    have u0 := Int.not_le.1 k0
    clear HB HT HF
    go_enter Try.func109, Try.ntmps109
    go_wp2
    go_ret
    exact ⟨rfl, rfl⟩
  have k0 := Classical.not_not.1 k0
  have u0 : ¬ (s < n * lo) := Int.not_lt.2 k0
  by_cases k1 : ¬ (s ≤ n * hi)
  · obtain rfl : r = false := HB.out (fun h => k1 h.2.1)
    have u1 := Int.not_le.1 k1
    clear HB HT HF
    go_enter Try.func109, Try.ntmps109
    go_wp2
    go_ret
    exact ⟨rfl, rfl⟩
  have k1 := Classical.not_not.1 k1
  have u1 : ¬ (n * hi < s) := Int.not_lt.2 k1
  by_cases k2 : ¬ (0 ≤ q)
  · obtain rfl : r = false := HB.out (fun h => k2 h.2.2.1)
    have u2 := Int.not_le.1 k2
    clear HB HT HF
    go_enter Try.func109, Try.ntmps109
    go_wp2
    go_ret
    exact ⟨rfl, rfl⟩
  have k2 := Classical.not_not.1 k2
  have u2 : ¬ (q < 0) := Int.not_lt.2 k2
  by_cases k3 : ¬ (q ≤ n * 4096 * 4096)
  · obtain rfl : r = false := HB.out (fun h => k3 h.2.2.2.1)
    have u3 := Int.not_le.1 k3
    clear HB HT HF
    go_enter Try.func109, Try.ntmps109
    go_wp2
    go_ret
    exact ⟨rfl, rfl⟩
  have k3 := Classical.not_not.1 k3
  have u3 : ¬ (n * 4096 * 4096 < q) := Int.not_lt.2 k3
  obtain ⟨⟨y1, y2⟩, y3, y4⟩ := HF.out k0 k1 k2 k3
  by_cases k4 : ¬ (s * s ≤ n * q)
  · obtain rfl : r = false := HB.out (fun h => k4 h.2.2.2.2)
    have u4 := Int.not_le.1 k4
    clear HB HT HF
    go_enter Try.func109, Try.ntmps109
    go_wp2
    go_ret
    exact ⟨rfl, rfl⟩
  have k4 := Classical.not_not.1 k4
  have u4 : ¬ (n * q < s * s) := Int.not_lt.2 k4
  obtain rfl : r = true := HT.out ⟨k0, k1, k2, k3, k4⟩
  clear HB HT HF
  go_enter Try.func109, Try.ntmps109
  go_wp2
  go_ret
  exact ⟨rfl, rfl⟩

end Go.Proofs.Ytafkoddgefcpnaa
