/- What Mod and Int of the verifier's package made return. -/
import Derived.Test.YtegaeaonoggmkaaRows
import Derived.Test.YtegaeaonoggmkaaZWFormatq9
namespace Go.Proofs.Ytegaeaonoggmkaa
open Go.RowKit

theorem modm_any (a n : Int) (hn : 1 ≤ n) (hn' : n ≤ 1000000) (w : World) :
    Calls Try.prog 27 #[.int .i64 a, .int .i64 n] w fun e w' => e = .returned (.int .i64 (a % n)) ∧ w = w' := by
  have t0 : (n == 0) = false := by simp; omega
  have h1 := Int.tmod_eq_emod (a := a) (b := n)
  have h2 : 0 ≤ a % n := Int.emod_nonneg _ (by omega)
  have h3 : a % n < n := Int.emod_lt_of_pos _ (by omega)
  have z0 : ¬ n = 0 := by omega
  by_cases hs : a.tmod n < 0
  · have t1 : decide (a.tmod n < 0) = true := decide_eq_true hs
    have HE : Hid (a % n = a.tmod n + n) := Lib.hid (by
      by_cases hz : 0 ≤ a ∨ n ∣ a
      · rw [if_pos hz] at h1; omega
      · rw [if_neg hz] at h1; have : (n.natAbs : Int) = n := by omega
        omega)
    have b1 : -1000000 ≤ a.tmod n := by have := HE.out; omega
    generalize hr : a % n = r at *
    clear h1 h2 h3 hr
    have HEE := Lib.hid HE.out
    have k1 : IntKind.i64.wrap (a.tmod n) = a.tmod n := IntWalk.i64_in _ (by omega)
    have k2 : IntKind.i64.wrap (a.tmod n + n) = a.tmod n + n := IntWalk.i64_in _ (by omega)
    clear HE
    go_enter Try.func27, Try.ntmps27
    go_wp2
    go_ret
    exact ⟨by rw [HEE.out]; rfl, rfl⟩
  · have t1 : decide (a.tmod n < 0) = false := decide_eq_false hs
    have HE : Hid (a % n = a.tmod n) := Lib.hid (by
      by_cases hz : 0 ≤ a ∨ n ∣ a
      · rw [if_pos hz] at h1; omega
      · rw [if_neg hz] at h1; have : (n.natAbs : Int) = n := by omega
        omega)
    have b1 : a.tmod n ≤ 1000000 := by have := HE.out; omega
    generalize hr : a % n = r at *
    clear h1 h2 h3 hr
    have HEE := Lib.hid HE.out
    have k1 : IntKind.i64.wrap (a.tmod n) = a.tmod n := IntWalk.i64_in _ (by omega)
    clear HE
    go_enter Try.func27, Try.ntmps27
    go_wp2
    go_ret
    exact ⟨by rw [HEE.out]; rfl, rfl⟩
end Go.Proofs.Ytegaeaonoggmkaa
