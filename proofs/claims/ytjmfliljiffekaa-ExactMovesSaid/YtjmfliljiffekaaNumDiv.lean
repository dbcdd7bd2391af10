/- What the quotients and the remainder of package num, and of its reference, return. -/
import Derived.Test.YtjmfliljiffekaaNum
namespace Go.Proofs.Ytjmfliljiffekaa
open Go.RowKit

end Go.Proofs.Ytjmfliljiffekaa
