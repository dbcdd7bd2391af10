/- Two equal answers of Query are equal to the law. -/
import Derived.Test.YtafkoddgefcpnaaRows
import Derived.Test.YtafkoddgefcpnaaZBWholeq242
import Derived.Test.YtafkoddgefcpnaaZESqq71
import Derived.Test.YtafkoddgefcpnaaZHNumq244
namespace Go.Proofs.Ytafkoddgefcpnaa
open Go.RowKit

theorem eqB6 (x0 x1 x2 x3 x4 x5 : Int) (w : World) : (Op.equalIn 10000 42 (.agg #[.int .i64 x0, .int .i64 x1, .int .i64 x2, .int .i64 x3, .int .i64 x4, .int .i64 x5]) (.agg #[.int .i64 x0, .int .i64 x1, .int .i64 x2, .int .i64 x3, .int .i64 x4, .int .i64 x5])).run Try.prog w = .ok true w := by
  have qu := Try.underlying2
  have qa := Try.isAgg2
  have qz := Try.sizeOf2
  have ru := Try.underlying40
  have ra := Try.isAgg40
  have rz := Try.sizeOf40
  have e : ∀ a b w, (Op.equalIn 9999 40 (.agg #[.int .i64 a, .int .i64 b]) (.agg #[.int .i64 a, .int .i64 b])).run Try.prog w = .ok true w := fun a b w => by
    rw [show (9999 : Nat) = 9998 + 1 from rfl, Op.equalIn]
    simp only [Sem.run_bind, run_underlying Try.underlying40, Result.andThen_ok]
    go_simp
  rw [show (10000 : Nat) = 9999 + 1 from rfl, Op.equalIn]
  simp only [Sem.run_bind, run_underlying Try.underlying42, Result.andThen_ok]
  go_simp
end Go.Proofs.Ytafkoddgefcpnaa
