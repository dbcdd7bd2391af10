/- What the greatest common divisors of package num, and of its reference, return. -/
import Derived.Test.YtjmfliljiffekaaNum
import Derived.Deep.QuietTactic
import Derived.BigQuiet
namespace Go.Proofs.Ytjmfliljiffekaa
open Go.RowKit

theorem grown_drewN {W w : World} (h : Grown W w) (n : Nat) : Grown W (w.drewN n) := h

end Go.Proofs.Ytjmfliljiffekaa
