/- What the integer square roots of package num, and of its reference, return. -/
import Derived.Test.YtpaembijdedeiaaNum
namespace Go.Proofs.Ytpaembijdedeiaa
open Go.RowKit

theorem root_any (n : Int) (hn : In n) (w : World) :
    Calls Try.prog 32 #[.int .i64 n] w fun e w' => e = .returned (.int .i64 (rootZ n)) ∧ w = w' := by
  obtain ⟨n1, n2⟩ := hn
  by_cases hneg : n < 0
  · have H := Lib.hid (rootZ_neg hneg)
    go_enter Try.func32, Try.ntmps32
    go_wp2
    go_ret
    exact ⟨by rw [H.out]; rfl, rfl⟩
  have n0 : 0 ≤ n := by omega
  have tN : decide (n < 0) = false := decide_eq_false hneg
  clear hneg
  go_enter Try.func32, Try.ntmps32
  go_wp2
  go_loop [3, 4] (fun t u => ∃ r B D : Int, t = .int .i64 r ∧ u = .int .i64 B ∧ 0 ≤ r ∧ r + D ≤ 4294967296 ∧ Hid (r * r ≤ n) ∧ Hid (n < (r + D) * (r + D)) ∧ Hid (Open2 B D)) (fun _ u => (intOf u).toNat)
  case atStart => exact ⟨0, 2147483648, 4294967296, rfl, rfl, by omega, by omega, Lib.hid (by omega), Lib.hid (by omega), Lib.hid open_start⟩
  case round =>
    obtain ⟨r, B, D, rfl, rfl, r0, rD, HL, HU, HO⟩ := hrel
    clear tN
    rcases open_cases HO.out with ⟨hB, hD⟩ | ⟨b1, b2, hD, hO⟩
    · have HF := Lib.hid (rootZ_eq (n := n) (r := r) ⟨r0, HL.out, by have := HU.out; rw [hD] at this; exact this⟩)
      subst hB; subst hD
      clear HL HU HO
      go_wp2
      go_ret
      exact ⟨by rw [HF.out]; rfl, rfl⟩
    · have HO2 := Lib.hid hO
      clear hO HO
      subst hD
      have t1 : 1 ≤ r + B := by omega
      by_cases hy : r + B ≤ n / (r + B)
      · have hy' := Lib.hid ((root_yes t1).1 hy)
        go_wp2
        go_round
        case rel => exact ⟨r + B, B / 2, B, rfl, rfl, by omega, by omega, hy', Lib.hid (by have := HU.out; rw [show r + 2 * B = r + B + B by omega] at this; exact this), HO2⟩
        case measure => simp only [intOf]; omega
      · have hy' := Lib.hid (show n < (r + B) * (r + B) from by have := mt (root_yes (n := n) t1).2 hy; omega)
        go_wp2
        go_round
        case rel => exact ⟨r, B / 2, B, rfl, rfl, by omega, by omega, HL, hy', HO2⟩
        case measure => simp only [intOf]; omega

theorem rroot_any (n : Int) (hn : In n) (w : World) :
    Calls Try.prog 33 #[.int .i64 n] w fun e w' => e = .returned (.int .i64 (rootZ n)) ∧ w = w' := by
  obtain ⟨n1, n2⟩ := hn
  by_cases hneg : n < 0
  · have H := Lib.hid (rootZ_neg hneg)
    go_enter Try.func33, Try.ntmps33
    go_wp2
    go_ret
    exact ⟨by rw [H.out]; rfl, rfl⟩
  have n0 : 0 ≤ n := by omega
  have tN : decide (n < 0) = false := decide_eq_false hneg
  clear hneg
  go_enter Try.func33, Try.ntmps33
  go_wp2
  go_loop [3, 4] (fun t u => ∃ r B D : Int, t = .int .i64 r ∧ u = .int .i64 B ∧ 0 ≤ r ∧ r + D ≤ 4294967296 ∧ Hid (r * r ≤ n) ∧ Hid (n < (r + D) * (r + D)) ∧ Hid (Open2 B D)) (fun _ u => (intOf u).toNat)
  case atStart => exact ⟨0, 2147483648, 4294967296, rfl, rfl, by omega, by omega, Lib.hid (by omega), Lib.hid (by omega), Lib.hid open_start⟩
  case round =>
    obtain ⟨r, B, D, rfl, rfl, r0, rD, HL, HU, HO⟩ := hrel
    clear tN
    rcases open_cases HO.out with ⟨hB, hD⟩ | ⟨b1, b2, hD, hO⟩
    · have HF := Lib.hid (rootZ_eq (n := n) (r := r) ⟨r0, HL.out, by have := HU.out; rw [hD] at this; exact this⟩)
      subst hB; subst hD
      clear HL HU HO
      go_wp2
      go_ret
      exact ⟨by rw [HF.out]; rfl, rfl⟩
    · have HO2 := Lib.hid hO
      clear hO HO
      subst hD
      have t1 : 1 ≤ r + B := by omega
      by_cases hs : r + B ≤ 3037000499
      · obtain ⟨s1, s2⟩ := root_near (t := r + B) (by omega) hs
        by_cases hy : (r + B) * (r + B) ≤ n
        · have hy' := Lib.hid hy
          go_wp2
          go_round
          case rel => exact ⟨r + B, B / 2, B, rfl, rfl, by omega, by omega, hy', Lib.hid (by have := HU.out; rw [show r + 2 * B = r + B + B by omega] at this; exact this), HO2⟩
          case measure => simp only [intOf]; omega
        · have hy' := Lib.hid (show n < (r + B) * (r + B) from by omega)
          go_wp2
          go_round
          case rel => exact ⟨r, B / 2, B, rfl, rfl, by omega, by omega, HL, hy', HO2⟩
          case measure => simp only [intOf]; omega
      · have hy' := Lib.hid (root_far (n := n) (t := r + B) n2 (by omega))
        go_wp2
        go_round
        case rel => exact ⟨r, B / 2, B, rfl, rfl, by omega, by omega, HL, hy', HO2⟩
        case measure => simp only [intOf]; omega

end Go.Proofs.Ytpaembijdedeiaa
