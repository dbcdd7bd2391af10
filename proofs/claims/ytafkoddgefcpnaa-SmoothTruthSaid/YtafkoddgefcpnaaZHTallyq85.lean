/- Texts of these claims, one after the other. -/
import Derived.Test.YtafkoddgefcpnaaRows
import Derived.Test.YtafkoddgefcpnaaZESqq71
import Derived.Test.YtafkoddgefcpnaaZGBaseq35
namespace Go.Proofs.Ytafkoddgefcpnaa
open Go.RowKit

theorem tyL_len (f : Nat → Int) : (tyL f).length = 31 := by simp [tyL]
theorem tyL_set (f : Nat → Int) (m : Nat) (x : Int) : (tyL f).set m (.int .i64 x) = tyL (fun j => if j = m then x else f j) := by
  apply List.ext_getElem?
  intro j
  rw [List.getElem?_set]
  by_cases hj : j < 31
  · rw [tyL_at _ hj, tyL_at _ hj]
    by_cases e : m = j
    · subst e; simp [tyL_len, hj]
    · rw [if_neg e, if_neg (fun h => e h.symm)]
  · rw [List.getElem?_eq_none (by rw [tyL_len]; omega), List.getElem?_eq_none (by rw [tyL_len]; omega)]
    by_cases e : m = j
    · rw [if_pos e, if_neg (by rw [tyL_len]; omega)]
    · rw [if_neg e]
end Go.Proofs.Ytafkoddgefcpnaa

namespace Go.Proofs.Ytafkoddgefcpnaa
open Go.RowKit

theorem Mk.set_ {w : World} {g : Nat} {f : Nat → Int} (h : Mk w g f) (m : Nat) (x : Int) : Mk (w.setCell ⟨g, m, none⟩ (.int .i64 x)) g (fun j => if j = m then x else f j) := by
  have h1 := Blk.set_ h m (.int .i64 x)
  unfold Mk
  rw [← tyL_set]
  simpa using h1
end Go.Proofs.Ytafkoddgefcpnaa
