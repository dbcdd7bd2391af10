/- The base of the walks over slices of items: what a call leaves of the world, a slice that reads as a list, a block that is known whole. -/
import Derived.Test.YtafkoddgefcpnaaRows
import Derived.Test.YtafkoddgefcpnaaZGBaseq33
namespace Go.Proofs.Ytafkoddgefcpnaa
open Go.RowKit

theorem fl_take (L : List It) (k : Nat) : (fl L).take (k * 2) = fl (L.take k) := by
  induction L generalizing k with
  | nil => simp [fl]
  | cons p L ih =>
    cases k with
    | zero => rfl
    | succ k => rw [show (k + 1) * 2 = k * 2 + 1 + 1 by omega]; simpa [fl] using ih k
theorem Sl.first {w : World} {A : Option Addr} {n : Nat} {L : List It} (h : Sl w A n L) {k : Nat} (hk : k ≤ n) : Sl w A k (L.take k) := by
  refine ⟨by rw [List.length_take, h.1]; omega, fun hn => ?_⟩
  obtain ⟨b, o, rfl, hcell⟩ := h.2 (by omega)
  refine ⟨b, o, rfl, fun j u hu => hcell j u ?_⟩
  rw [← fl_take, List.getElem?_take] at hu
  split at hu
  · exact hu
  · cases hu

section
variable {w w' : World} {g : Nat} {t : TypeId} {cs : Array Value}
end
end Go.Proofs.Ytafkoddgefcpnaa
