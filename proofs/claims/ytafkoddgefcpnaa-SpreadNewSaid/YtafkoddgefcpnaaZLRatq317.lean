/- The answers of histograms of the spread, as rational numbers: they hold the spread of the live items, and are narrow. No program is named here. -/
import Derived.Test.YtafkoddgefcpnaaRows
import Derived.Test.YtafkoddgefcpnaaZAwakeq99
import Derived.Test.YtafkoddgefcpnaaZIBaseq115
import Derived.Test.YtafkoddgefcpnaaZRQuoq224
namespace Go.Proofs.Ytafkoddgefcpnaa

/-- What Most of package spread returns. -/
def mostS (k c : Int) : Int := if (1 ≤ k ∧ k ≤ 64) ∧ (1 ≤ c ∧ c ≤ 65536) then 12 * k * (3 * bitsZ c + 24) + 4 else 0
section
variable {v q c now : Int} {X : List Mrk} {M : List It}
end
end Go.Proofs.Ytafkoddgefcpnaa
