/- What math/bits.Div64 returns. -/
import Derived.Test.YtchikndofpkjmaaRows
import Derived.Test.YtchikndofpkjmaaZWMathq2
namespace Go.Proofs.Ytchikndofpkjmaa
open Go.RowKit

theorem pow_cast (n : Nat) : ((2 ^ n : Nat) : Int) = (2 : Int) ^ n := by simp
theorem keep64z (a : Int) (h0 : 0 ≤ a) (h1 : a < 18446744073709551616) : IntKind.u64.wrap a = a := by rw [IntKind.wrap_u64]; omega
theorem or_join (n : Nat) (x y : Int) (hx0 : 0 ≤ x) (hx : x % 2 ^ n = 0) (hx1 : x < 18446744073709551616) (hy0 : 0 ≤ y) (hy : y < 2 ^ n) (hy1 : y < 18446744073709551616) : bits .or .u64 x y = x + y :=
  bits_join .u64 64 (by decide) (fun m h0 h1 => keep64z m h0 (by simpa using h1)) n x y hx0 hx (by simpa using hx1) hy0 hy (by simpa using hy1)

end Go.Proofs.Ytchikndofpkjmaa
