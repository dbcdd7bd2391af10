/- append onto an empty row: nothing that was there changes; and where a walk over RingQueue is. -/
import Derived.Test.YtinjainclhfahaaRows
import Derived.Test.YtinjainclhfahaaZGBaseq14
import Derived.Test.YtinjainclhfahaaZHSmallq34
import Derived.Test.YtinjainclhfahaaZNumq21
namespace Go.Proofs.Ytinjainclhfahaa
open Go.RowKit

theorem one_new' (w : World) (p0 p1 : Int) {g : Nat} (hg : g = w.heap.size) : Sl (w.alloc (.cells #[.int .i64 p0, .int .i64 p1] 53)) (some ⟨g, 0, none⟩) 1 [(p0, p1)] := by
  subst hg; exact one_new w p0 p1
end Go.Proofs.Ytinjainclhfahaa
