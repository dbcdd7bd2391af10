/- The numbers of binary digits, in package num and in its reference; the examples of the chapter hold. -/
import Derived.Test.YtafkoddgefcpnaaRows
import Derived.Test.YtafkoddgefcpnaaZWMathq0
namespace Go.Proofs.Ytafkoddgefcpnaa
open Go.RowKit

theorem bits_any (n : Int) (hn : In n) (w : World) :
    Calls Try.prog 62 #[.int .i64 n] w fun e w' => e = .returned (.int .i64 (bitsZ n)) ∧ w = w' := by
  obtain ⟨n1, n2⟩ := hn
  have hb := bitsZ_bound n
  have HB := Lib.hid hb
  clear hb
  go_enter Try.func62, Try.ntmps62
  go_wp2
  go_loop [0, 3] (fun t k => ∃ m c : Int, t = .int .i64 m ∧ k = .int .i64 c ∧ m ≤ 9223372036854775807 ∧ -9223372036854775808 ≤ m ∧ 0 ≤ c ∧ Hid (c + bitsZ m = bitsZ n)) (fun t _ => (intOf t).toNat)
  case atStart => exact ⟨n, 0, rfl, rfl, n2, n1, by omega, Lib.hid (by omega)⟩
  case round =>
    obtain ⟨m, c, rfl, rfl, m2, m1, hc, HR⟩ := hrel
    by_cases hm : 0 < m
    · have hs := bitsZ_step m hm
      have hcu : c ≤ 9223372036854775806 := by
        have := HR.out; have := HB.out; have := bitsZ_bound (m / 2); omega
      have HS := Lib.hid hs
      clear hs
      go_wp2
      go_round
      case rel => exact ⟨m / 2, c + 1, rfl, rfl, by omega, by omega, by omega, Lib.hid (by have := HS.out; have := HR.out; omega)⟩
      case measure => simp only [intOf]; omega
    · go_wp2
      go_ret
      have e1 := bitsZ_low m (by omega)
      exact ⟨by rw [← HR.out, e1, Int.add_zero]; rfl, rfl⟩

end Go.Proofs.Ytafkoddgefcpnaa
