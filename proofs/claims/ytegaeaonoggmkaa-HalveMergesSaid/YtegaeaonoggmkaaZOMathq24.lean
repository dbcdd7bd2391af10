/- Halving counters: the states, what Advance, Add and Merge make of the sums, the weighted sum, and the sums of items. No program is named here. -/
import Derived.Test.YtegaeaonoggmkaaRows
import Derived.Test.YtegaeaonoggmkaaZWFormatq9
namespace Go.Proofs.Ytegaeaonoggmkaa

def mgH (S T : List Int) : List Int := byL S.length (fun e => S.getD e 0 + T.getD e 0)
theorem mgH_len (S T : List Int) : (mgH S T).length = S.length := byL_len _ _
end Go.Proofs.Ytegaeaonoggmkaa
