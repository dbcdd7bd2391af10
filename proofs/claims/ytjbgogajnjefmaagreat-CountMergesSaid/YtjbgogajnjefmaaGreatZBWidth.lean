/- What magnitude and width of package bounds return. -/
import Derived.Test.YtjbgogajnjefmaaGreatZRArithm4
import Derived.Test.YtjbgogajnjefmaaGreatZRSum
import Derived.Test.YtjbgogajnjefmaaGreatZWKeepm7
namespace Go.Proofs.YtjbgogajnjefmaaGreat
open Go.RowKit

/-- The width of an interval, over the product of the denominators. -/
def wdZ (n1 d1 n3 d3 : Int) : Int := n3 * d1 - n1 * d3
end Go.Proofs.YtjbgogajnjefmaaGreat
