/- What the powers of package num, and of its reference, return. -/
import Derived.Test.YtpaembijdedeiaaNumMul
import Derived.Test.YtpaembijdedeiaaRefMul
namespace Go.Proofs.Ytpaembijdedeiaa
open Go.RowKit

theorem powSmall_any (a : Int) (n : Nat) (h1 : -1 ≤ a) (h2 : a ≤ 1) (hn : n ≤ 9223372036854775807) (w : World) :
    Calls Try.prog 38 #[.int .i64 a, .int .i64 (n : Int)] w fun e w' => e = .returned (.int .i64 (a ^ n)) ∧ w = w' := by
  obtain ⟨p, q, r⟩ := pow_small a h1 h2 n
  have h4 : In (a * a) := by
    rcases (by omega : a = -1 ∨ a = 0 ∨ a = 1) with h | h | h <;> subst h <;> exact ⟨by decide, by decide⟩
  obtain ⟨m1, m2⟩ := h4
  by_cases h0 : n = 0
  · have H := Lib.hid (p h0)
    have t1 : ((n : Int) == 0) = true := beq_iff_eq.2 (by omega)
    clear p q r h0
    go_enter Try.func38, Try.ntmps38
    go_wp2
    go_ret
    exact ⟨by rw [H.out]; rfl, rfl⟩
  · have t1 : ((n : Int) == 0) = false := beq_eq_false_iff_ne.2 (by omega)
    by_cases he : n % 2 = 0
    · have H := Lib.hid (q h0 he)
      have t2 : ((n : Int) % 2 == 0) = true := beq_iff_eq.2 (by omega)
      clear p q r h0 he
      go_enter Try.func38, Try.ntmps38
      go_wp2
      go_ret
      exact ⟨by rw [H.out]; rfl, rfl⟩
    · have H := Lib.hid (r (by omega))
      have t2 : ((n : Int) % 2 == 0) = false := beq_eq_false_iff_ne.2 (by omega)
      clear p q r h0 he
      go_enter Try.func38, Try.ntmps38
      go_wp2
      go_ret
      exact ⟨by rw [H.out]; rfl, rfl⟩

theorem pow_any (a n : Int) (ha : In a) (hn : In n) (w : World) :
    Calls Try.prog 20 #[.int .i64 a, .int .i64 n] w fun e w' => e = got (pows a n) (powOk a n) ∧ w = w' := by
  by_cases hneg : n < 0
  · have H := Lib.hid (pows_neg (a := a) hneg)
    go_enter Try.func20, Try.ntmps20
    go_wp2
    go_ret2
    exact ⟨by rw [H.out.1, H.out.2]; rfl, rfl⟩
  obtain ⟨n, rfl⟩ := Int.eq_ofNat_of_zero_le (a := n) (by omega)
  have n2 : n ≤ 9223372036854775807 := by unfold In at hn; omega
  obtain ⟨H1, H2⟩ := pows_nat a n
  replace H1 := Lib.hid H1
  replace H2 := Lib.hid H2
  clear hneg hn
  by_cases hs : -1 ≤ a ∧ a ≤ 1
  · obtain ⟨s1, s2⟩ := hs
    have hi := pow_small_in a s1 s2 n
    have H3 := Lib.hid (fit_yes hi)
    have H4 := Lib.hid (fits_yes hi)
    clear hi
    go_enter Try.func20, Try.ntmps20
    go_wp2_with fail
    refine (powSmall_any a n s1 s2 n2 _).mono ?_
    rintro e w' ⟨rfl, rfl⟩
    go_wp2
    go_ret2
    exact ⟨by rw [H1.out, H2.out, H3.out, H4.out]; rfl, rfl⟩
  have hb : a < -1 ∨ 1 < a := by omega
  have HB := Lib.hid hb
  rcases hb with hb | hb
  all_goals
    clear hs
    go_enter Try.func20, Try.ntmps20
    go_wp2_with fail
    go_loop [6, 21] (fun t u => ∃ (P : Int) (i : Nat), t = .int .i64 P ∧ u = .int .i64 (i : Int) ∧ i ≤ n ∧ -9223372036854775808 ≤ P ∧ P ≤ 9223372036854775807 ∧ Hid (P = a ^ i)) (fun _ u => n - (intOf u).toNat)
    case atStart => exact ⟨1, 0, rfl, rfl, by omega, by omega, by omega, Lib.hid (by rw [Int.pow_zero])⟩
    case round =>
      obtain ⟨P, i, rfl, rfl, hin, P1, P2, HP⟩ := hrel
      by_cases hlt : i < n
      · by_cases hi : In (P * a)
        · have HF := Lib.hid (fit_yes hi)
          have HG := Lib.hid (fits_yes hi)
          obtain ⟨i1, i2⟩ := hi
          go_wp2_with fail
          refine (mul_any P a ⟨P1, P2⟩ ha _).mono ?_
          rintro e w' ⟨rfl, rfl⟩
          rw [HF.out, HG.out]
          go_wp2
          go_round
          case rel => exact ⟨P * a, i + 1, rfl, by go_num, by omega, by omega, by omega, Lib.hid (by rw [Int.pow_succ, ← HP.out])⟩
          case measure => simp only [intOf]; omega
        · have HF := Lib.hid (fit_no hi)
          have HG := Lib.hid (fits_no hi)
          have hfar : ¬ In (a ^ n) := pow_far HB.out (k := i + 1) (by omega) (by rw [Int.pow_succ, ← HP.out]; exact hi)
          have HX := Lib.hid (fit_no hfar)
          have HY := Lib.hid (fits_no hfar)
          clear hi hfar
          go_wp2_with fail
          refine (mul_any P a ⟨P1, P2⟩ ha _).mono ?_
          rintro e w' ⟨rfl, rfl⟩
          rw [HF.out, HG.out]
          go_wp2
          go_ret2
          exact ⟨by rw [H1.out, H2.out, HX.out, HY.out]; rfl, rfl⟩
      · have hi : In (a ^ n) := by
          rw [show n = i by omega, ← HP.out]; exact ⟨P1, P2⟩
        have HX := Lib.hid (fit_yes hi)
        have HY := Lib.hid (fits_yes hi)
        have HE := Lib.hid (show a ^ n = P by rw [show n = i by omega, ← HP.out])
        clear hi
        go_wp2
        go_ret2
        exact ⟨by rw [H1.out, H2.out, HX.out, HY.out, HE.out]; rfl, rfl⟩

theorem rpow_any (a n : Int) (ha : In a) (hn : In n) (w : World) :
    Calls Try.prog 21 #[.int .i64 a, .int .i64 n] w fun e w' => e = got (pows a n) (powOk a n) ∧ w = w' := by
  by_cases hneg : n < 0
  · have H := Lib.hid (pows_neg (a := a) hneg)
    go_enter Try.func21, Try.ntmps21
    go_wp2
    go_ret2
    exact ⟨by rw [H.out.1, H.out.2]; rfl, rfl⟩
  obtain ⟨n, rfl⟩ := Int.eq_ofNat_of_zero_le (a := n) (by omega)
  have n2 : n ≤ 9223372036854775807 := by unfold In at hn; omega
  obtain ⟨H1, H2⟩ := pows_nat a n
  replace H1 := Lib.hid H1
  replace H2 := Lib.hid H2
  clear hneg hn
  by_cases hs : -1 ≤ a ∧ a ≤ 1
  · obtain ⟨s1, s2⟩ := hs
    have hi := pow_small_in a s1 s2 n
    have H3 := Lib.hid (fit_yes hi)
    have H4 := Lib.hid (fits_yes hi)
    obtain ⟨p, q, r⟩ := pow_small a s1 s2 n
    clear hi
    by_cases hm : a = -1
    · subst hm
      have H5 := Lib.hid (show (-1 : Int) ^ n = 1 - 2 * ((n : Int) % 2) by
        by_cases h0 : n = 0
        · rw [p h0, h0]; rfl
        · by_cases he : n % 2 = 0
          · rw [q h0 he]; omega
          · rw [r (by omega)]; omega)
      clear p q r
      go_enter Try.func21, Try.ntmps21
      go_wp2
      go_ret2
      exact ⟨by rw [H1.out, H2.out, H3.out, H4.out, H5.out]; rfl, rfl⟩
    · have hp : a * a = a := by
        rcases (by omega : a = 0 ∨ a = 1) with h | h <;> subst h <;> decide
      by_cases h0 : n = 0
      · have H5 := Lib.hid (p h0)
        have t1 : ((n : Int) == 0) = true := beq_iff_eq.2 (by omega)
        clear p q r h0 hp
        rcases (by omega : a = 0 ∨ a = 1) with h | h
        all_goals
          subst h
          go_enter Try.func21, Try.ntmps21
          go_wp2
          go_ret2
          exact ⟨by rw [H1.out, H2.out, H3.out, H4.out, H5.out]; rfl, rfl⟩
      · have H5 := Lib.hid (show a ^ n = a by
          by_cases he : n % 2 = 0
          · rw [q h0 he, hp]
          · exact r (by omega))
        have t1 : ((n : Int) == 0) = false := beq_eq_false_iff_ne.2 (by omega)
        clear p q r h0 hp
        rcases (by omega : a = 0 ∨ a = 1) with h | h
        all_goals
          subst h
          go_enter Try.func21, Try.ntmps21
          go_wp2
          go_ret2
          exact ⟨by rw [H1.out, H2.out, H3.out, H4.out, H5.out]; rfl, rfl⟩
  have hb : a < -1 ∨ 1 < a := by omega
  have HB := Lib.hid hb
  have t0 : (a == 0) = false := beq_eq_false_iff_ne.2 (by omega)
  have t1 : (a == 1) = false := beq_eq_false_iff_ne.2 (by omega)
  have t2 : (a == -1) = false := beq_eq_false_iff_ne.2 (by omega)
  clear hs hb
  go_enter Try.func21, Try.ntmps21
  go_wp2_with fail
  go_loop [6, 7, 8] (fun t o u => ∃ (P : Int) (b : Bool) (i : Nat), t = .int .i64 P ∧ o = .bool b ∧ u = .int .i64 (i : Int) ∧ i ≤ n ∧ -9223372036854775808 ≤ P ∧ P ≤ 9223372036854775807 ∧ Hid (P = fit (a ^ i)) ∧ Hid (b = fits (a ^ i))) (fun _ _ u => n - (intOf u).toNat)
  case atStart => exact ⟨1, true, 0, rfl, rfl, rfl, by omega, by omega, by omega, Lib.hid (by rw [Int.pow_zero]; rfl), Lib.hid (by rw [Int.pow_zero]; rfl)⟩
  case round =>
    obtain ⟨P, b, i, rfl, rfl, rfl, hin, P1, P2, HP, HQ⟩ := hrel
    cases b with
    | false =>
      have hni : ¬ In (a ^ i) := fun h => by have := HQ.out; rw [fits_yes h] at this; exact absurd this (by decide)
      have HX := Lib.hid (fit_no (pow_far HB.out hin hni))
      have HY := Lib.hid (fits_no (pow_far HB.out hin hni))
      have HE := Lib.hid (HP.out.trans (fit_no hni))
      clear hni
      by_cases hlt : i < n
      all_goals
        go_wp2
        go_ret2
        exact ⟨by rw [H1.out, H2.out, HX.out, HY.out, HE.out]; rfl, rfl⟩
    | true =>
      have hyi : In (a ^ i) := by
        by_cases h : In (a ^ i)
        · exact h
        · have := HQ.out; rw [fits_no h] at this; exact absurd this (by decide)
      have HE := Lib.hid (HP.out.trans (fit_yes hyi))
      clear hyi
      by_cases hlt : i < n
      · obtain ⟨f1, f2⟩ := fit_in (P * a)
        go_wp2_with fail
        refine (rmul_any P a ⟨P1, P2⟩ ha _).mono ?_
        rintro e w' ⟨rfl, rfl⟩
        go_wp2
        go_round
        case rel => exact ⟨fit (P * a), fits (P * a), i + 1, rfl, rfl, by go_num, by omega, f1, f2, Lib.hid (by rw [Int.pow_succ, ← HE.out]), Lib.hid (by rw [Int.pow_succ, ← HE.out])⟩
        case measure => simp only [intOf]; omega
      · have HN := Lib.hid (show n = i by omega)
        go_wp2
        go_ret2
        exact ⟨by rw [H1.out, H2.out, HN.out, ← HP.out, ← HQ.out]; rfl, rfl⟩

end Go.Proofs.Ytpaembijdedeiaa
