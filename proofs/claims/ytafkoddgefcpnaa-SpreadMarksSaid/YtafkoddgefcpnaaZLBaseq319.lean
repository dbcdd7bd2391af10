/- Package spread and its reference: the spread of a mark. -/
import Derived.Test.YtafkoddgefcpnaaRows
import Derived.Test.YtafkoddgefcpnaaZLBaseq318
import Derived.Test.YtafkoddgefcpnaaZWMulq63
namespace Go.Proofs.Ytafkoddgefcpnaa
open Go.RowKit
set_option linter.unusedVariables false

set_option maxHeartbeats 4000000 in
set_option maxRecDepth 100000 in
theorem rmay14_up (sq t nn s qq lo hi : Int) (w : World) :
    Calls Try.prog 94 #[.agg #[.int .i64 sq, .int .i64 t, .int .i64 nn, .int .i64 s, .int .i64 qq, .int .i64 lo, .int .i64 hi]] w fun e w' => e = .returned (.bool (myM ⟨sq, t, nn, s, qq, lo, hi⟩)) ∧ Up w w' := by
  have HB : Hid (∀ _ : ¬ (1 ≤ nn ∧ nn ≤ 65536 ∧ -(nn * 4096) ≤ s ∧ s ≤ nn * 4096 ∧ 0 ≤ qq ∧ qq ≤ nn * 16777216 ∧ s * s ≤ nn * qq), myM ⟨sq, t, nn, s, qq, lo, hi⟩ = false) := Lib.hid (fun h => decide_eq_false h)
  have HT : Hid (1 ≤ nn ∧ nn ≤ 65536 ∧ -(nn * 4096) ≤ s ∧ s ≤ nn * 4096 ∧ 0 ≤ qq ∧ qq ≤ nn * 16777216 ∧ s * s ≤ nn * qq → myM ⟨sq, t, nn, s, qq, lo, hi⟩ = true) := Lib.hid (fun h => decide_eq_true h)
  generalize myM ⟨sq, t, nn, s, qq, lo, hi⟩ = r at *
  by_cases k0 : ¬ (1 ≤ nn)
  · obtain rfl : r = false := HB.out (fun h => k0 h.1)
    have u0 : nn < 1 := by omega
    clear HB HT
    go_enter Try.func94, Try.ntmps94
    go_wp2
    go_ret
    exact ⟨rfl, (Up.refl w).alloc _ _⟩
  have k0 := Classical.not_not.1 k0
  have u0 : ¬ (nn < 1) := by omega
  by_cases k1 : ¬ (nn ≤ 65536)
  · obtain rfl : r = false := HB.out (fun h => k1 h.2.1)
    have u1 : 65536 < nn := by omega
    clear HB HT
    go_enter Try.func94, Try.ntmps94
    go_wp2
    go_ret
    exact ⟨rfl, (Up.refl w).alloc _ _⟩
  have k1 := Classical.not_not.1 k1
  have u1 : ¬ (65536 < nn) := by omega
  by_cases k2 : ¬ (-(nn * 4096) ≤ s)
  · obtain rfl : r = false := HB.out (fun h => k2 h.2.2.1)
    have u2 : s < -nn * 4096 := by omega
    clear HB HT
    go_enter Try.func94, Try.ntmps94
    go_wp2
    go_ret
    exact ⟨rfl, (Up.refl w).alloc _ _⟩
  have k2 := Classical.not_not.1 k2
  have u2 : ¬ (s < -nn * 4096) := by omega
  by_cases k3 : ¬ (s ≤ nn * 4096)
  · obtain rfl : r = false := HB.out (fun h => k3 h.2.2.2.1)
    have u3 : nn * 4096 < s := by omega
    clear HB HT
    go_enter Try.func94, Try.ntmps94
    go_wp2
    go_ret
    exact ⟨rfl, (Up.refl w).alloc _ _⟩
  have k3 := Classical.not_not.1 k3
  have u3 : ¬ (nn * 4096 < s) := by omega
  by_cases k4 : ¬ (0 ≤ qq)
  · obtain rfl : r = false := HB.out (fun h => k4 h.2.2.2.2.1)
    have u4 : qq < 0 := by omega
    clear HB HT
    go_enter Try.func94, Try.ntmps94
    go_wp2
    go_ret
    exact ⟨rfl, (Up.refl w).alloc _ _⟩
  have k4 := Classical.not_not.1 k4
  have u4 : ¬ (qq < 0) := by omega
  by_cases k5 : ¬ (qq ≤ nn * 16777216)
  · obtain rfl : r = false := HB.out (fun h => k5 h.2.2.2.2.2.1)
    have u5 : nn * 4096 * 4096 < qq := by omega
    clear HB HT
    go_enter Try.func94, Try.ntmps94
    go_wp2
    go_ret
    exact ⟨rfl, (Up.refl w).alloc _ _⟩
  have k5 := Classical.not_not.1 k5
  have u5 : ¬ (nn * 4096 * 4096 < qq) := by omega
  have y1 := sq_bd (x := s) (m := 268435456) (by omega) (by omega)
  have y2 := sq_nn s
  have y3 : 0 ≤ nn * qq := Int.mul_nonneg (by omega) k4
  have y4 : nn * qq ≤ 65536 * qq := Int.mul_le_mul_of_nonneg_right k1 k4
  by_cases k6 : ¬ (s * s ≤ nn * qq)
  · obtain rfl : r = false := HB.out (fun h => k6 h.2.2.2.2.2.2)
    have u6 : nn * qq < s * s := by omega
    clear HB HT
    go_enter Try.func94, Try.ntmps94
    go_wp2
    go_ret
    exact ⟨rfl, (Up.refl w).alloc _ _⟩
  have k6 := Classical.not_not.1 k6
  have u6 : ¬ (nn * qq < s * s) := by omega
  obtain rfl : r = true := HT.out ⟨k0, k1, k2, k3, k4, k5, k6⟩
  clear HB HT
  go_enter Try.func94, Try.ntmps94
  go_wp2
  go_ret
  exact ⟨rfl, (Up.refl w).alloc _ _⟩

end Go.Proofs.Ytafkoddgefcpnaa
