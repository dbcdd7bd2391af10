/- What Live of package exact and of its reference return. -/
import Derived.Test.YtfcknhpllhkpeaaRows
import Derived.Test.YtfcknhpllhkpeaaZESqq25
namespace Go.Proofs.Ytfcknhpllhkpeaa
open Go.RowKit

theorem livL_len (L : List It) (now v : Int) : (livL L now v).length ≤ L.length := List.length_filter_le _ _
end Go.Proofs.Ytfcknhpllhkpeaa
