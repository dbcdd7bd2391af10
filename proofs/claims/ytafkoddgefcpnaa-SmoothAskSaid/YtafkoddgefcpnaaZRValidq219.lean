/- Texts of these claims, one after the other. -/
import Derived.Test.YtafkoddgefcpnaaRows
import Derived.Test.YtafkoddgefcpnaaZWAddq15
import Derived.Test.YtafkoddgefcpnaaZWGcdq215
namespace Go.Proofs.Ytafkoddgefcpnaa
open Go.RowKit

theorem word_int {d : Int} (h : 1 ≤ d) (hd : In d) : Word d := by obtain ⟨_, d2⟩ := hd; exact ⟨by omega, by omega⟩

end Go.Proofs.Ytafkoddgefcpnaa

namespace Go.Proofs.Ytafkoddgefcpnaa
open Go.RowKit

theorem own0 {w w' : World} (h : Up w w') (o : Nat) : w'.frozen? ⟨w.heap.size, o, none⟩ = false := h.own 0 o

end Go.Proofs.Ytafkoddgefcpnaa

namespace Go.Proofs.Ytafkoddgefcpnaa
open Go.RowKit

/-- A rational number and a bool. -/
def gotR (n d : Int) (b : Bool) : Ending := .returned (.tuple #[.agg #[.int .i64 n, .int .i64 d], .bool b])

end Go.Proofs.Ytafkoddgefcpnaa
