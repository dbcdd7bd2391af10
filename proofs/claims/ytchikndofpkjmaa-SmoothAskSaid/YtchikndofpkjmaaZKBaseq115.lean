/- Texts of these claims, one after the other. -/
import Derived.Test.YtchikndofpkjmaaRows
import Derived.Test.YtchikndofpkjmaaZIBaseq77
namespace Go.Proofs.Ytchikndofpkjmaa
open Go.RowKit
set_option linter.unusedVariables false

theorem ofZ_4 (sq t n s q lo hi : Int) : ofZ 4 ⟨sq, t, n, s, q, lo, hi⟩ = fit (hi - lo) := by
  rfl
set_option maxHeartbeats 4000000 in
theorem of13_up (g sq t n s q lo hi : Int) (hl : In lo) (hh : In hi) (w : World) :
    Calls Try.prog 13 #[.agg #[.int .i64 sq, .int .i64 t, .int .i64 n, .int .i64 s, .int .i64 q, .int .i64 lo, .int .i64 hi], .int .i64 g] w fun e w' => e = .returned (.int .i64 (ofZ g ⟨sq, t, n, s, q, lo, hi⟩)) ∧ Up w w' := by
  by_cases h1 : g = 1
  · subst h1
    rw [show ofZ 1 ⟨sq, t, n, s, q, lo, hi⟩ = n from rfl]
    go_enter Try.func13, Try.ntmps13
    go_wp2
    go_ret
    exact ⟨rfl, (Up.refl w).alloc _ _⟩
  by_cases h2 : g = 2
  · subst h2
    rw [show ofZ 2 ⟨sq, t, n, s, q, lo, hi⟩ = s from rfl]
    clear h1
    go_enter Try.func13, Try.ntmps13
    go_wp2
    go_ret
    exact ⟨rfl, (Up.refl w).alloc _ _⟩
  by_cases h3 : g = 3
  · subst h3
    rw [show ofZ 3 ⟨sq, t, n, s, q, lo, hi⟩ = q from rfl]
    clear h1 h2
    go_enter Try.func13, Try.ntmps13
    go_wp2
    go_ret
    exact ⟨rfl, (Up.refl w).alloc _ _⟩
  by_cases h4 : g = 4
  · subst h4
    rw [ofZ_4]
    have KS := Lib.hid (sub_any hi lo hh hl)
    have HF : fits (hi - lo) = false → fit (hi - lo) = 0 := fun h => by unfold fit; rw [h]; rfl
    cases hf : fits (hi - lo) with
    | false =>
      have e0 := HF hf
      rw [hf, e0] at KS
      rw [e0]
      clear h1 h2 h3 HF hf e0
      go_enter Try.func13, Try.ntmps13
      go_wp2_with (go_at_call 42; (with_reducible refine (KS.out _).mono ?_); rintro e w' ⟨rfl, rfl⟩)
      go_ret
      exact ⟨rfl, (Up.refl w).alloc _ _⟩
    | true =>
      rw [hf] at KS
      clear HF hf
      generalize fit (hi - lo) = y at *
      clear h1 h2 h3
      go_enter Try.func13, Try.ntmps13
      go_wp2_with (go_at_call 42; (with_reducible refine (KS.out _).mono ?_); rintro e w' ⟨rfl, rfl⟩)
      go_ret
      exact ⟨rfl, (Up.refl w).alloc _ _⟩
  · rw [show ofZ g ⟨sq, t, n, s, q, lo, hi⟩ = 0 by unfold ofZ; rw [if_neg h1, if_neg h2, if_neg h3, if_neg h4]]
    have t1 : (g == 1) = false := beq_eq_false_iff_ne.2 h1
    have t2 : (g == 2) = false := beq_eq_false_iff_ne.2 h2
    have t3 : (g == 3) = false := beq_eq_false_iff_ne.2 h3
    have t4 : (g == 4) = false := beq_eq_false_iff_ne.2 h4
    go_enter Try.func13, Try.ntmps13
    go_wp2
    go_ret
    exact ⟨rfl, (Up.refl w).alloc _ _⟩
set_option maxHeartbeats 4000000 in
set_option maxRecDepth 100000 in
theorem validSizes13_any (g q c : Int) (w : World) :
    Calls Try.prog 36 #[.int .i64 g, .int .i64 q, .int .i64 c] w fun e w' => e = .returned (.bool ((agB g && (decide (1 ≤ q ∧ q ≤ 64) && decide (1 ≤ c ∧ c ≤ 65536))))) ∧ w = w' := by
  have HV : (agB g && (decide (1 ≤ q ∧ q ≤ 64) && decide (1 ≤ c ∧ c ≤ 65536))) = decide (1 ≤ g ∧ g ≤ 4 ∧ 1 ≤ q ∧ q ≤ 64 ∧ 1 ≤ c ∧ c ≤ 65536) := by unfold agB; simp [Bool.decide_and, Bool.and_assoc]
  rw [HV]
  clear HV
  have HB : Hid (∀ _ : ¬ (1 ≤ g ∧ g ≤ 4 ∧ 1 ≤ q ∧ q ≤ 64 ∧ 1 ≤ c ∧ c ≤ 65536), decide (1 ≤ g ∧ g ≤ 4 ∧ 1 ≤ q ∧ q ≤ 64 ∧ 1 ≤ c ∧ c ≤ 65536) = false) := Lib.hid (fun h => decide_eq_false h)
  have HT : Hid (1 ≤ g ∧ g ≤ 4 ∧ 1 ≤ q ∧ q ≤ 64 ∧ 1 ≤ c ∧ c ≤ 65536 → decide (1 ≤ g ∧ g ≤ 4 ∧ 1 ≤ q ∧ q ≤ 64 ∧ 1 ≤ c ∧ c ≤ 65536) = true) := Lib.hid (fun h => decide_eq_true h)
  generalize decide (1 ≤ g ∧ g ≤ 4 ∧ 1 ≤ q ∧ q ≤ 64 ∧ 1 ≤ c ∧ c ≤ 65536) = r at *
  by_cases h0 : ¬ (1 ≤ g)
  · obtain rfl : r = false := HB.out (fun h => h0 h.1)
    clear HB HT
    go_enter Try.func36, Try.ntmps36
    go_wp2
    go_ret
    exact ⟨rfl, rfl⟩
  have h0 := Classical.not_not.1 h0
  by_cases h1 : ¬ (g ≤ 4)
  · obtain rfl : r = false := HB.out (fun h => h1 h.2.1)
    clear HB HT
    go_enter Try.func36, Try.ntmps36
    go_wp2
    go_ret
    exact ⟨rfl, rfl⟩
  have h1 := Classical.not_not.1 h1
  by_cases h2 : ¬ (1 ≤ q)
  · obtain rfl : r = false := HB.out (fun h => h2 h.2.2.1)
    clear HB HT
    go_enter Try.func36, Try.ntmps36
    go_wp2
    go_ret
    exact ⟨rfl, rfl⟩
  have h2 := Classical.not_not.1 h2
  by_cases h3 : ¬ (q ≤ 64)
  · obtain rfl : r = false := HB.out (fun h => h3 h.2.2.2.1)
    clear HB HT
    go_enter Try.func36, Try.ntmps36
    go_wp2
    go_ret
    exact ⟨rfl, rfl⟩
  have h3 := Classical.not_not.1 h3
  by_cases h4 : ¬ (1 ≤ c)
  · obtain rfl : r = false := HB.out (fun h => h4 h.2.2.2.2.1)
    clear HB HT
    go_enter Try.func36, Try.ntmps36
    go_wp2
    go_ret
    exact ⟨rfl, rfl⟩
  have h4 := Classical.not_not.1 h4
  by_cases h5 : ¬ (c ≤ 65536)
  · obtain rfl : r = false := HB.out (fun h => h5 h.2.2.2.2.2)
    clear HB HT
    go_enter Try.func36, Try.ntmps36
    go_wp2
    go_ret
    exact ⟨rfl, rfl⟩
  have h5 := Classical.not_not.1 h5
  obtain rfl : r = true := HT.out ⟨h0, h1, h2, h3, h4, h5⟩
  clear HB HT
  go_enter Try.func36, Try.ntmps36
  go_wp2
  go_ret
  exact ⟨rfl, rfl⟩

set_option maxHeartbeats 4000000 in
set_option maxRecDepth 100000 in
theorem rmayAgg_any (g : Int) (w : World) :
    Calls Try.prog 38 #[.int .i64 g] w fun e w' => e = .returned (.bool (agB g)) ∧ w = w' := by
  have HV : agB g = decide (1 ≤ g ∧ g ≤ 4) := by unfold agB; simp [Bool.decide_and]
  rw [HV]
  clear HV
  have HB : Hid (∀ _ : ¬ (1 ≤ g ∧ g ≤ 4), decide (1 ≤ g ∧ g ≤ 4) = false) := Lib.hid (fun h => decide_eq_false h)
  have HT : Hid (1 ≤ g ∧ g ≤ 4 → decide (1 ≤ g ∧ g ≤ 4) = true) := Lib.hid (fun h => decide_eq_true h)
  generalize decide (1 ≤ g ∧ g ≤ 4) = r at *
  by_cases h0 : ¬ (1 ≤ g)
  · obtain rfl : r = false := HB.out (fun h => h0 h.1)
    clear HB HT
    go_enter Try.func38, Try.ntmps38
    go_wp2
    go_ret
    exact ⟨rfl, rfl⟩
  have h0 := Classical.not_not.1 h0
  by_cases h1 : ¬ (g ≤ 4)
  · obtain rfl : r = false := HB.out (fun h => h1 h.2)
    clear HB HT
    go_enter Try.func38, Try.ntmps38
    go_wp2
    go_ret
    exact ⟨rfl, rfl⟩
  have h1 := Classical.not_not.1 h1
  obtain rfl : r = true := HT.out ⟨h0, h1⟩
  clear HB HT
  go_enter Try.func38, Try.ntmps38
  go_wp2
  go_ret
  exact ⟨rfl, rfl⟩

set_option maxHeartbeats 4000000 in
theorem isValue13_any (v g : Int) (w : World) :
    Calls Try.prog 54 #[.int .i64 v, .int .i64 g] w fun e w' => e = .returned (.bool (decide (-4096 ≤ v ∧ v ≤ 4096 ∧ (0 ≤ v ∨ ¬ (g = 2 ∨ g = 3))))) ∧ w = w' := by
  have HB : Hid (∀ _ : ¬ (-4096 ≤ v ∧ v ≤ 4096 ∧ (0 ≤ v ∨ ¬ (g = 2 ∨ g = 3))), decide (-4096 ≤ v ∧ v ≤ 4096 ∧ (0 ≤ v ∨ ¬ (g = 2 ∨ g = 3))) = false) := Lib.hid (fun h => decide_eq_false h)
  have HT : Hid (∀ _ : (-4096 ≤ v ∧ v ≤ 4096 ∧ (0 ≤ v ∨ ¬ (g = 2 ∨ g = 3))), decide (-4096 ≤ v ∧ v ≤ 4096 ∧ (0 ≤ v ∨ ¬ (g = 2 ∨ g = 3))) = true) := Lib.hid (fun h => decide_eq_true h)
  generalize decide (-4096 ≤ v ∧ v ≤ 4096 ∧ (0 ≤ v ∨ ¬ (g = 2 ∨ g = 3))) = r at *
  by_cases h1 : g = 2
  · subst h1
    by_cases h2 : 0 ≤ v
    · by_cases h3 : v ≤ 4096
      · obtain rfl : r = true := HT.out ⟨by omega, h3, Or.inl h2⟩
        clear HB HT
        go_enter Try.func54, Try.ntmps54
        go_wp2
        go_ret
        exact ⟨rfl, rfl⟩
      · obtain rfl : r = false := HB.out (fun h => h3 h.2.1)
        clear HB HT
        go_enter Try.func54, Try.ntmps54
        go_wp2
        go_ret
        exact ⟨rfl, rfl⟩
    · obtain rfl : r = false := HB.out (fun h => h.2.2.elim h2 (fun x => x (Or.inl rfl)))
      clear HB HT
      go_enter Try.func54, Try.ntmps54
      go_wp2
      go_ret
      exact ⟨rfl, rfl⟩
  by_cases h1b : g = 3
  · subst h1b
    clear h1
    by_cases h2 : 0 ≤ v
    · by_cases h3 : v ≤ 4096
      · obtain rfl : r = true := HT.out ⟨by omega, h3, Or.inl h2⟩
        clear HB HT
        go_enter Try.func54, Try.ntmps54
        go_wp2
        go_ret
        exact ⟨rfl, rfl⟩
      · obtain rfl : r = false := HB.out (fun h => h3 h.2.1)
        clear HB HT
        go_enter Try.func54, Try.ntmps54
        go_wp2
        go_ret
        exact ⟨rfl, rfl⟩
    · obtain rfl : r = false := HB.out (fun h => h.2.2.elim h2 (fun x => x (Or.inr rfl)))
      clear HB HT
      go_enter Try.func54, Try.ntmps54
      go_wp2
      go_ret
      exact ⟨rfl, rfl⟩
  have t1 : (g == 2) = false := beq_eq_false_iff_ne.2 h1
  have t2 : (g == 3) = false := beq_eq_false_iff_ne.2 h1b
  have hx : Hid (¬ (g = 2 ∨ g = 3)) := Lib.hid (fun h => h.elim h1 h1b)
  by_cases h2 : -4096 ≤ v
  · by_cases h3 : v ≤ 4096
    · obtain rfl : r = true := HT.out ⟨h2, h3, Or.inr hx.out⟩
      clear HB HT
      go_enter Try.func54, Try.ntmps54
      go_wp2
      go_ret
      exact ⟨rfl, rfl⟩
    · obtain rfl : r = false := HB.out (fun h => h3 h.2.1)
      clear HB HT
      go_enter Try.func54, Try.ntmps54
      go_wp2
      go_ret
      exact ⟨rfl, rfl⟩
  · obtain rfl : r = false := HB.out (fun h => h2 h.1)
    clear HB HT
    go_enter Try.func54, Try.ntmps54
    go_wp2
    go_ret
    exact ⟨rfl, rfl⟩
theorem valG_form {g v : Int} (hg : 1 ≤ g ∧ g ≤ 4) : (-4096 ≤ v ∧ v ≤ 4096 ∧ (0 ≤ v ∨ ¬ (g = 2 ∨ g = 3))) ↔ valG g v := by unfold valG; omega
theorem isValueG_any (v g : Int) (hg : 1 ≤ g ∧ g ≤ 4) (w : World) :
    Calls Try.prog 54 #[.int .i64 v, .int .i64 g] w fun e w' => e = .returned (.bool (decide (valG g v))) ∧ w = w' := by
  rw [show decide (valG g v) = decide (-4096 ≤ v ∧ v ≤ 4096 ∧ (0 ≤ v ∨ ¬ (g = 2 ∨ g = 3))) from decide_eq_decide.2 (valG_form hg).symm]
  exact isValue13_any v g w
theorem isLive13_up (g v q c now sq0 : Int) (nn k : Nat) (A : Option Addr) (sq t n s qq lo hi : Int) (w : World) :
    Calls Try.prog 51 #[.agg #[.int .i64 g, .int .i64 v, .int .i64 q, .int .i64 c, .int .i64 now, .int .i64 sq0, .slice A nn k], .agg #[.int .i64 sq, .int .i64 t, .int .i64 n, .int .i64 s, .int .i64 qq, .int .i64 lo, .int .i64 hi]] w fun e w' => e = .returned (.bool (liveB now v t)) ∧ Up w w' := by
  have KL := Lib.hid (live_any now v t)
  generalize liveB now v t = r at *
  go_enter Try.func51, Try.ntmps51
  go_wp2_with (go_at_call 84; (with_reducible refine (KL.out _).mono ?_); rintro e w' ⟨rfl, rfl⟩)
  go_ret
  exact ⟨rfl, ((Up.refl w).alloc _ _).alloc _ _⟩

theorem fit_facts {n s q lo hi : Int} (h1 : 1 ≤ n) (h2 : n ≤ 65536) (h3 : -4096 ≤ lo) (h4 : lo ≤ 4096) (h5 : -4096 ≤ hi) (h6 : hi ≤ 4096) : (-268435456 ≤ n * lo ∧ n * lo ≤ 268435456) ∧ (-268435456 ≤ n * hi ∧ n * hi ≤ 268435456) ∧ (n * 4096 * 4096 ≤ 1099511627776) := by
  have a1 : n * (-4096) ≤ n * lo := Int.mul_le_mul_of_nonneg_left h3 (by omega)
  have a2 : n * lo ≤ n * 4096 := Int.mul_le_mul_of_nonneg_left h4 (by omega)
  have a3 : n * (-4096) ≤ n * hi := Int.mul_le_mul_of_nonneg_left h5 (by omega)
  have a4 : n * hi ≤ n * 4096 := Int.mul_le_mul_of_nonneg_left h6 (by omega)
  omega
theorem fit_facts2 {n s q lo hi : Int} (h1 : 1 ≤ n) (h2 : n ≤ 65536) (h3 : -4096 ≤ lo) (h4 : lo ≤ 4096) (h5 : -4096 ≤ hi) (h6 : hi ≤ 4096) (a : n * lo ≤ s) (b : s ≤ n * hi) (c : 0 ≤ q) (d : q ≤ n * 4096 * 4096) : (0 ≤ s * s ∧ s * s ≤ 72057594037927936) ∧ (0 ≤ n * q ∧ n * q ≤ 72057594037927936) := by
  obtain ⟨x1, x2, x3⟩ := fit_facts (s := s) (q := q) h1 h2 h3 h4 h5 h6
  have y1 := sq_bd (x := s) (m := 268435456) (by omega) (by omega)
  have y2 := sq_nn s
  have y3 : 0 ≤ n * q := Int.mul_nonneg (by omega) c
  have y4 : n * q ≤ 65536 * q := Int.mul_le_mul_of_nonneg_right h2 c
  omega

set_option maxHeartbeats 4000000 in
set_option maxRecDepth 100000 in
theorem fit13_any (n s q lo hi : Int) (h1 : 1 ≤ n) (h2 : n ≤ 65536) (h3 : -4096 ≤ lo) (h4 : lo ≤ 4096) (h5 : -4096 ≤ hi) (h6 : hi ≤ 4096) (w : World) :
    Calls Try.prog 99 #[.int .i64 n, .int .i64 s, .int .i64 q, .int .i64 lo, .int .i64 hi] w fun e w' => e = .returned (.bool (decide (prtP n s q lo hi))) ∧ w = w' := by
  obtain ⟨⟨x1, x2⟩, ⟨x3, x4⟩, x5⟩ := fit_facts (s := s) (q := q) h1 h2 h3 h4 h5 h6
  have HF := Lib.hid (fit_facts2 (s := s) (q := q) h1 h2 h3 h4 h5 h6)
  have HB : Hid (∀ _ : ¬ (n * lo ≤ s ∧ s ≤ n * hi ∧ 0 ≤ q ∧ q ≤ n * 4096 * 4096 ∧ s * s ≤ n * q), decide (prtP n s q lo hi) = false) := Lib.hid (fun h => decide_eq_false h)
  have HT : Hid (n * lo ≤ s ∧ s ≤ n * hi ∧ 0 ≤ q ∧ q ≤ n * 4096 * 4096 ∧ s * s ≤ n * q → decide (prtP n s q lo hi) = true) := Lib.hid (fun h => decide_eq_true h)
  generalize decide (prtP n s q lo hi) = r at *
  have z1 : 0 ≤ n * 4096 * 4096 := by omega
  by_cases k0 : ¬ (n * lo ≤ s)
  · obtain rfl : r = false := HB.out (fun h => k0 h.1)
    have u0 := Int.not_le.1 k0
    clear HB HT HF
    go_enter Try.func99, Try.ntmps99
    go_wp2
    go_ret
    exact ⟨rfl, rfl⟩
  have k0 := Classical.not_not.1 k0
  have u0 : ¬ (s < n * lo) := Int.not_lt.2 k0
  by_cases k1 : ¬ (s ≤ n * hi)
  · obtain rfl : r = false := HB.out (fun h => k1 h.2.1)
    have u1 := Int.not_le.1 k1
    clear HB HT HF
    go_enter Try.func99, Try.ntmps99
    go_wp2
    go_ret
    exact ⟨rfl, rfl⟩
  have k1 := Classical.not_not.1 k1
  have u1 : ¬ (n * hi < s) := Int.not_lt.2 k1
  by_cases k2 : ¬ (0 ≤ q)
  · obtain rfl : r = false := HB.out (fun h => k2 h.2.2.1)
    have u2 := Int.not_le.1 k2
    clear HB HT HF
    go_enter Try.func99, Try.ntmps99
    go_wp2
    go_ret
    exact ⟨rfl, rfl⟩
  have k2 := Classical.not_not.1 k2
  have u2 : ¬ (q < 0) := Int.not_lt.2 k2
  by_cases k3 : ¬ (q ≤ n * 4096 * 4096)
  · obtain rfl : r = false := HB.out (fun h => k3 h.2.2.2.1)
    have u3 := Int.not_le.1 k3
    clear HB HT HF
    go_enter Try.func99, Try.ntmps99
    go_wp2
    go_ret
    exact ⟨rfl, rfl⟩
  have k3 := Classical.not_not.1 k3
  have u3 : ¬ (n * 4096 * 4096 < q) := Int.not_lt.2 k3
  obtain ⟨⟨y1, y2⟩, y3, y4⟩ := HF.out k0 k1 k2 k3
  by_cases k4 : ¬ (s * s ≤ n * q)
  · obtain rfl : r = false := HB.out (fun h => k4 h.2.2.2.2)
    have u4 := Int.not_le.1 k4
    clear HB HT HF
    go_enter Try.func99, Try.ntmps99
    go_wp2
    go_ret
    exact ⟨rfl, rfl⟩
  have k4 := Classical.not_not.1 k4
  have u4 : ¬ (n * q < s * s) := Int.not_lt.2 k4
  obtain rfl : r = true := HT.out ⟨k0, k1, k2, k3, k4⟩
  clear HB HT HF
  go_enter Try.func99, Try.ntmps99
  go_wp2
  go_ret
  exact ⟨rfl, rfl⟩

end Go.Proofs.Ytchikndofpkjmaa

namespace Go.Proofs.Ytchikndofpkjmaa
open Go.RowKit
set_option linter.unusedVariables false

set_option maxHeartbeats 4000000 in
theorem rof13_up (g sq t n s q lo hi : Int) (hl : In lo) (hh : In hi) (w : World) :
    Calls Try.prog 14 #[.agg #[.int .i64 sq, .int .i64 t, .int .i64 n, .int .i64 s, .int .i64 q, .int .i64 lo, .int .i64 hi], .int .i64 g] w fun e w' => e = .returned (.int .i64 (ofZ g ⟨sq, t, n, s, q, lo, hi⟩)) ∧ Up w w' := by
  by_cases h1 : g = 1
  · subst h1
    rw [show ofZ 1 ⟨sq, t, n, s, q, lo, hi⟩ = n from rfl]
    go_enter Try.func14, Try.ntmps14
    go_wp2
    go_ret
    exact ⟨rfl, (Up.refl w).alloc _ _⟩
  by_cases h2 : g = 2
  · subst h2
    rw [show ofZ 2 ⟨sq, t, n, s, q, lo, hi⟩ = s from rfl]
    clear h1
    go_enter Try.func14, Try.ntmps14
    go_wp2
    go_ret
    exact ⟨rfl, (Up.refl w).alloc _ _⟩
  by_cases h3 : g = 3
  · subst h3
    rw [show ofZ 3 ⟨sq, t, n, s, q, lo, hi⟩ = q from rfl]
    clear h1 h2
    go_enter Try.func14, Try.ntmps14
    go_wp2
    go_ret
    exact ⟨rfl, (Up.refl w).alloc _ _⟩
  by_cases h4 : g = 4
  · subst h4
    rw [ofZ_4]
    have KS := Lib.hid (rsub_any hi lo hh hl)
    have HF : fits (hi - lo) = false → fit (hi - lo) = 0 := fun h => by unfold fit; rw [h]; rfl
    cases hf : fits (hi - lo) with
    | false =>
      have e0 := HF hf
      rw [hf, e0] at KS
      rw [e0]
      clear h1 h2 h3 HF hf e0
      go_enter Try.func14, Try.ntmps14
      go_wp2_with (go_at_call 43; (with_reducible refine (KS.out _).mono ?_); rintro e w' ⟨rfl, rfl⟩)
      go_ret
      exact ⟨rfl, (Up.refl w).alloc _ _⟩
    | true =>
      rw [hf] at KS
      clear HF hf
      generalize fit (hi - lo) = y at *
      clear h1 h2 h3
      go_enter Try.func14, Try.ntmps14
      go_wp2_with (go_at_call 43; (with_reducible refine (KS.out _).mono ?_); rintro e w' ⟨rfl, rfl⟩)
      go_ret
      exact ⟨rfl, (Up.refl w).alloc _ _⟩
  · rw [show ofZ g ⟨sq, t, n, s, q, lo, hi⟩ = 0 by unfold ofZ; rw [if_neg h1, if_neg h2, if_neg h3, if_neg h4]]
    have t1 : (g == 1) = false := beq_eq_false_iff_ne.2 h1
    have t2 : (g == 2) = false := beq_eq_false_iff_ne.2 h2
    have t3 : (g == 3) = false := beq_eq_false_iff_ne.2 h3
    have t4 : (g == 4) = false := beq_eq_false_iff_ne.2 h4
    go_enter Try.func14, Try.ntmps14
    go_wp2
    go_ret
    exact ⟨rfl, (Up.refl w).alloc _ _⟩

end Go.Proofs.Ytchikndofpkjmaa
