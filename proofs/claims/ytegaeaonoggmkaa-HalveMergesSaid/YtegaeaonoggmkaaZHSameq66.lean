/- Same of the reference of layer 10; rows of numbers, SameInts. -/
import Derived.Test.YtegaeaonoggmkaaRows
import Derived.Test.YtegaeaonoggmkaaZERowq59
import Derived.Test.YtegaeaonoggmkaaZHTallyq56
namespace Go.Proofs.Ytegaeaonoggmkaa
open Go.RowKit

theorem OwI.of_up {w0 w w' : World} {v : Value} {n : Nat} {L : List Int} (h : OwI w0 w v n L) (hu : Up w w') : OwI w0 w' v n L := Rw.of_up h hu
end Go.Proofs.Ytegaeaonoggmkaa
