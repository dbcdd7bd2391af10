/- What ratio.toInt, magnitude and negate return. -/
import Derived.Test.YtjmfliljiffekaaWMul
import Derived.Test.YtjmfliljiffekaaWKeep
import Derived.Test.YtjmfliljiffekaaRMath
namespace Go.Proofs.Ytjmfliljiffekaa
open Go.RowKit

/-- A sign and a magnitude as a value. -/
def sgnd (s : Bool) (v : Int) : Value := .agg #[.bool s, .int .u64 (hiZ v), .int .u64 (loZ v)]

end Go.Proofs.Ytjmfliljiffekaa
