/- What a variable with a smooth histogram holds, while streams are played. -/
import Derived.Test.YtafkoddgefcpnaaRows
import Derived.Test.YtafkoddgefcpnaaZKPlayq302
import Derived.Test.YtafkoddgefcpnaaZKRVdq198
namespace Go.Proofs.Ytafkoddgefcpnaa
open Go.RowKit
set_option linter.unusedVariables false

section
variable {g v q c now : Int} {X : List Mrk} {M : List It}
end
/-- Where the loop of SmoothKeeps is. -/
def RnN (w wr : World) (p : Nat) (g v q c : Int) (Am : Option Addr) (nm : Nat) (M0 : List It) (z : Int) (i : Nat) : Prop :=
  ∃ (now : Int) (X : List Mrk) (M : List It) (A1 : Option Addr) (k1 : Nat), Vm wr p g v q c now M.length X A1 k1 ∧ Sm g v q c now X M ∧ M.length ≤ i ∧ (i < nm → now ≤ (M0.getD i (0, 0)).1) ∧ (0 ≤ now ∧ now ≤ z) ∧ Sl wr Am nm M0 ∧ Up w wr
end Go.Proofs.Ytafkoddgefcpnaa
