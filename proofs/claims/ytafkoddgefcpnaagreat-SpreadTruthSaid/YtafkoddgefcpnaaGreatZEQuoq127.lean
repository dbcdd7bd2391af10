/- What quotient of package exact returns. -/
import Derived.Test.YtafkoddgefcpnaaGreatRows
import Derived.Test.YtafkoddgefcpnaaGreatZESqq32
import Derived.Test.YtafkoddgefcpnaaGreatZRQuoq125
import Derived.Test.YtafkoddgefcpnaaGreatZRValidq124
namespace Go.Proofs.YtafkoddgefcpnaaGreat
open Go.RowKit

theorem Qo.far {w w1:World} {a b q:Nat} {t:Int} {v:Value} (h:Qo w w1 a t) (hb:w.heap.size+1<b) (ha:b ≠ a):Qo w (w1.setCell ⟨b,q,none⟩ v) a t :=
  ⟨h.up.setCell (by show w.heap.size≤b;omega) _,(cell_far (by show b ≠ _;omega)).trans h.r0,(cell_far (by show b ≠ _;omega)).trans h.r1,(cell_far ha).trans h.t0,(cell_far ha).trans h.t1⟩
end Go.Proofs.YtafkoddgefcpnaaGreat
