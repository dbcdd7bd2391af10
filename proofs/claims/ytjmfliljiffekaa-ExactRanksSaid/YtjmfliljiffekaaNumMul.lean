/- What the products of package num, and of its reference, return. -/
import Derived.Test.YtjmfliljiffekaaNum
namespace Go.Proofs.Ytjmfliljiffekaa
open Go.RowKit

theorem wr_wrap (x : Int) : wrap64 x = wr x := by unfold wrap64 wr; rfl

end Go.Proofs.Ytjmfliljiffekaa
