/- Weight of package draw, and of its reference. -/
import Derived.Test.YtfandjmfkmdofaaDBase
namespace Go.Proofs.Ytfandjmfkmdofaa
open Go.RowKit

abbrev gotO (x : Option Int) : Ending := .returned (.tuple #[.int .i64 (x.getD 0), .bool x.isSome])
theorem isDraw_any (x m : Int) (b : Bool) (hb : decide (0 ≤ x ∧ x < m) = b) (w : World) :
    Calls Try.prog 21 #[.int .i64 x, .int .i64 m] w fun e w' => e = .returned (.bool b) ∧ w = w' := by
  by_cases h : 0 ≤ x
  · by_cases k : x < m
    · rw [decide_eq_true ⟨h, k⟩] at hb
      subst hb
      go_enter Try.func21, Try.ntmps21
      go_wp2
      go_ret
      exact ⟨rfl, rfl⟩
    · rw [decide_eq_false (by omega)] at hb
      subst hb
      go_enter Try.func21, Try.ntmps21
      go_wp2
      go_ret
      exact ⟨rfl, rfl⟩
  · rw [decide_eq_false (by omega)] at hb
    subst hb
    go_enter Try.func21, Try.ntmps21
    go_wp2
    go_ret
    exact ⟨rfl, rfl⟩

set_option maxHeartbeats 4000000 in
theorem weight_any (n k : Nat) (A : Option Addr) (L : List Int) (hz : n * 8 ≤ 140737488351232) (hin : ∀ x ∈ L, In x) (w : World) (hS : Sn w A n L) :
    Calls Try.prog 12 #[.slice A n k] w fun e w' => e = gotO (wtO L) ∧ w = w' := by
  obtain ⟨hl, hcell⟩ := hS
  have HL := Lib.hid hl
  have HC := Lib.hid hcell
  have HI := Lib.hid hin
  clear hl hcell hin
  generalize hr : wtO L = r
  have HR := Lib.hid hr
  clear hr
  go_enter Try.func12, Try.ntmps12
  go_wp2_with fail
  go_loop [4, 11] (fun s d => ∃ (i : Nat) (p : Int), s = .int .i64 p ∧ d = .int .i64 i ∧ i ≤ n ∧ 1 ≤ p ∧ p ≤ 4611686018427387904 ∧ Hid (wtF p (L.drop i) = r)) (fun _ d => n - (intOf d).toNat)
  case atStart => exact ⟨0, 1, rfl, rfl, Nat.zero_le _, by omega, by omega, Lib.hid (by rw [List.drop_zero]; exact HR.out)⟩
  case round =>
    obtain ⟨i, p, rfl, rfl, hin, p1, p2, HW⟩ := hrel
    by_cases hi : i < n
    · obtain ⟨b, o, rfl, hc⟩ := HC.out (by omega)
      have c1 : w.cell? ⟨b, o + i, none⟩ = some (.int .i64 (L.getD i 0)) := hc i hi
      have hil : i < L.length := by rw [HL.out]; exact hi
      have KM := Lib.hid (mul_any p (L.getD i 0) ⟨by omega, by omega⟩ (in_getD HI.out hil))
      by_cases hx : 1 ≤ L.getD i 0 ∧ p * L.getD i 0 ≤ 4611686018427387904
      · have HW1 := Lib.hid ((wtF_yes hil hx.1 hx.2).symm.trans HW.out)
        obtain ⟨x1, x2⟩ := hx
        have x3 : 1 * 1 ≤ p * L.getD i 0 := Int.mul_le_mul p1 x1 (by omega) (by omega)
        rw [fit_yes ⟨by omega, by omega⟩, fits_yes ⟨by omega, by omega⟩] at KM
        generalize L.getD i 0 = x at c1 KM HW1 x1 x2 x3
        generalize p * x = y at KM HW1 x2 x3
        clear hc HC HR HW hil HL HI
        go_wp2_with fail
        refine (KM.out _).mono ?_
        rintro e w' ⟨rfl, rfl⟩
        go_wp2_with fail
        go_round
        case rel => exact ⟨i + 1, y, by first | rfl | simp, by first | rfl | simp, by omega, by omega, by omega, HW1⟩
        case measure => simp only [intOf]; omega
      · obtain rfl : r = none := by rw [← HW.out]; exact wtF_no hil hx
        clear HW HR
        by_cases hf : In (p * L.getD i 0)
        · rw [fit_yes hf, fits_yes hf] at KM
          by_cases x1 : 1 ≤ L.getD i 0
          · have x2 : 4611686018427387904 < p * L.getD i 0 := by omega
            generalize L.getD i 0 = x at c1 KM x1 x2
            generalize p * x = y at KM x2
            clear hc HC hil HL HI hx hf
            go_wp2_with fail
            refine (KM.out _).mono ?_
            rintro e w' ⟨rfl, rfl⟩
            go_wp2_with fail
            go_ret2
            exact ⟨rfl, rfl⟩
          · generalize L.getD i 0 = x at c1 KM x1
            generalize p * x = y at KM
            clear hc HC hil HL HI hx hf
            go_wp2_with fail
            refine (KM.out _).mono ?_
            rintro e w' ⟨rfl, rfl⟩
            go_wp2_with fail
            go_ret2
            exact ⟨rfl, rfl⟩
        · rw [fit_no hf, fits_no hf] at KM
          generalize L.getD i 0 = x at c1 KM
          clear hc HC hil HL HI hx hf
          go_wp2_with fail
          refine (KM.out _).mono ?_
          rintro e w' ⟨rfl, rfl⟩
          go_wp2_with fail
          go_ret2
          exact ⟨rfl, rfl⟩
    · obtain rfl : i = n := by omega
      obtain rfl : r = some p := by rw [← HW.out]; exact wtF_end (by rw [HL.out]; exact Nat.le_refl _)
      clear HW HR HC HL HI
      go_wp2_with fail
      go_ret2
      exact ⟨rfl, rfl⟩

set_option maxHeartbeats 4000000 in
theorem rweight_any (n k : Nat) (A : Option Addr) (L : List Int) (hz : n * 8 ≤ 140737488351232) (hin : ∀ x ∈ L, In x) (w : World) (hS : Sn w A n L) :
    Calls Try.prog 13 #[.slice A n k] w fun e w' => e = gotO (wtO L) ∧ w = w' := by
  obtain ⟨hl, hcell⟩ := hS
  have HL := Lib.hid hl
  have HC := Lib.hid hcell
  have HI := Lib.hid hin
  clear hl hcell hin
  generalize hr : wtO L = r
  have HR := Lib.hid hr
  clear hr
  go_enter Try.func13, Try.ntmps13
  go_wp2_with fail
  go_loop [4, 9] (fun s d => ∃ (i : Nat) (p : Int), s = .int .i64 p ∧ d = .int .i64 i ∧ i ≤ n ∧ 1 ≤ p ∧ p ≤ 4611686018427387904 ∧ Hid (wtF p (L.drop i) = r)) (fun _ d => n - (intOf d).toNat)
  case atStart => exact ⟨0, 1, rfl, rfl, Nat.zero_le _, by omega, by omega, Lib.hid (by rw [List.drop_zero]; exact HR.out)⟩
  case round =>
    obtain ⟨i, p, rfl, rfl, hin, p1, p2, HW⟩ := hrel
    by_cases hi : i < n
    · obtain ⟨b, o, rfl, hc⟩ := HC.out (by omega)
      have c1 : w.cell? ⟨b, o + i, none⟩ = some (.int .i64 (L.getD i 0)) := hc i hi
      have hil : i < L.length := by rw [HL.out]; exact hi
      have hix := in_getD HI.out hil
      by_cases x1 : 1 ≤ L.getD i 0
      · have q1 : (4611686018427387904 : Int).tdiv (L.getD i 0) = 4611686018427387904 / L.getD i 0 := Int.tdiv_eq_ediv_of_nonneg (by omega)
        have q2 : 0 ≤ 4611686018427387904 / L.getD i 0 := Int.ediv_nonneg (by omega) (by omega)
        have q3 : 4611686018427387904 / L.getD i 0 ≤ 4611686018427387904 := Int.ediv_le_self _ (by omega)
        have q4 : p ≤ 4611686018427387904 / L.getD i 0 ↔ p * L.getD i 0 ≤ 4611686018427387904 := Int.le_ediv_iff_mul_le (by omega)
        have f1 : ¬ L.getD i 0 = 0 := by omega
        by_cases x2 : p * L.getD i 0 ≤ 4611686018427387904
        · have HW1 := Lib.hid ((wtF_yes hil x1 x2).symm.trans HW.out)
          have x3 : 1 * 1 ≤ p * L.getD i 0 := Int.mul_le_mul p1 x1 (by omega) (by omega)
          have q5 := q4.2 x2
          generalize L.getD i 0 = x at c1 HW1 x1 x2 x3 q1 q2 q3 q4 q5 f1
          generalize (4611686018427387904 : Int) / x = q at q1 q2 q3 q4 q5
          have e1 : IntKind.i64.wrap q = q := IntWalk.i64_in _ (by omega)
          have e2 : IntKind.i64.wrap (p * x) = p * x := IntWalk.i64_in _ (by omega)
          clear hc HC HR HW hil HL HI hix q4
          go_wp2
          go_round
          case rel => exact ⟨i + 1, p * x, by first | rfl | simp, by first | rfl | simp, by omega, by omega, by omega, HW1⟩
          case measure => simp only [intOf]; omega
        · obtain rfl : r = none := by rw [← HW.out]; exact wtF_no hil (fun h => x2 h.2)
          have q5 : 4611686018427387904 / L.getD i 0 < p := by
            rcases Int.lt_or_le (4611686018427387904 / L.getD i 0) p with h | h
            · exact h
            · exact absurd (q4.1 h) x2
          generalize L.getD i 0 = x at c1 x1 x2 q1 q2 q3 q4 q5 f1
          generalize (4611686018427387904 : Int) / x = q at q1 q2 q3 q4 q5
          have e1 : IntKind.i64.wrap q = q := IntWalk.i64_in _ (by omega)
          clear hc HC HR HW hil HL HI hix q4 x2
          go_wp2
          go_ret2
          exact ⟨rfl, rfl⟩
      · obtain rfl : r = none := by rw [← HW.out]; exact wtF_no hil (fun h => x1 h.1)
        generalize L.getD i 0 = x at c1 x1
        clear hc HC HR HW hil HL HI hix
        go_wp2
        go_ret2
        exact ⟨rfl, rfl⟩
    · obtain rfl : i = n := by omega
      obtain rfl : r = some p := by rw [← HW.out]; exact wtF_end (by rw [HL.out]; exact Nat.le_refl _)
      clear HW HR HC HL HI
      go_wp2_with fail
      go_ret2
      exact ⟨rfl, rfl⟩
end Go.Proofs.Ytfandjmfkmdofaa
