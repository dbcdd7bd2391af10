/- What ratio.quotient and the reference's reduced return. -/
import Derived.Test.YtafkoddgefcpnaaRows
import Derived.Test.YtafkoddgefcpnaaZRMathq204
import Derived.Test.YtafkoddgefcpnaaZRQuoq224
import Derived.Test.YtafkoddgefcpnaaZWGcdq218
import Derived.Test.YtafkoddgefcpnaaZWMulq63
namespace Go.Proofs.Ytafkoddgefcpnaa
open Go.RowKit

theorem rgcd_v (x y : Int) (hx : In2 x) (hy : In2 y) (w : World) :
    Calls Try.prog 149 #[.agg #[.int .u64 (hiZ x), .int .u64 (loZ x)], .agg #[.int .u64 (hiZ y), .int .u64 (loZ y)]] w fun e w' =>
      e = .returned (.agg #[.int .u64 (hiZ (gcdZ x y)), .int .u64 (loZ (gcdZ x y))]) ∧ Up w w' := by
  have h := rgcd_up (hiZ x) (loZ x) (hiZ y) (loZ y) (hiZ_word hx) (loZ_word x) (hiZ_word hy) (loZ_word y) w
  rw [val_hilo, val_hilo] at h
  exact h
end Go.Proofs.Ytafkoddgefcpnaa
