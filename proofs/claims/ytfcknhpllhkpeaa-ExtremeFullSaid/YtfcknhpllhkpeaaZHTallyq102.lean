/- Texts of these claims, one after the other. -/
import Derived.Test.YtfcknhpllhkpeaaRows
import Derived.Test.YtfcknhpllhkpeaaZGLawq24
import Derived.Test.YtfcknhpllhkpeaaZHSmallq100
namespace Go.Proofs.Ytfcknhpllhkpeaa
open Go.RowKit

/-- The cells of the array. -/
def tyL (f : Nat → Int) : List Value := (List.range 31).map (fun j => .int .i64 (f j))
theorem tyL_at (f : Nat → Int) {j : Nat} (h : j < 31) : (tyL f)[j]? = some (.int .i64 (f j)) := by simp [tyL, h]
end Go.Proofs.Ytfcknhpllhkpeaa

namespace Go.Proofs.Ytfcknhpllhkpeaa
open Go.RowKit

/-- A row of the call's own. -/
def Rw (w0 w : World) (e : TypeId) (sz : Nat) (v : Value) (n : Nat) (cs : List Value) : Prop := w.ownsRow w0.heap.size e sz v n cs
theorem Rw.nil (w0 w : World) (e : TypeId) (sz : Nat) : Rw w0 w e sz (.slice none 0 0) 0 [] := ⟨by simp, Or.inl ⟨rfl, rfl⟩⟩
theorem Rw.of_up {w0 w w' : World} {e : TypeId} {sz n : Nat} {v : Value} {cs : List Value} (h : Rw w0 w e sz v n cs) (hu : Up w w') : Rw w0 w' e sz v n cs := by
  refine ⟨h.1, ?_⟩
  rcases h.2 with h0 | ⟨g, cap, cur, h1, h2, h3, h4⟩
  · exact Or.inl h0
  · exact Or.inr ⟨g, cap, cur, h1, h2, Blk.up (t := e) h3 hu, h4⟩
theorem Rw.lt {w0 w : World} {e : TypeId} {sz n k : Nat} {B : Option Addr} {cs : List Value} (h : Rw w0 w e sz (.slice B n k) n cs) : ∀ g o, B = some ⟨g, o, none⟩ → g < w.heap.size := by
  rintro g o rfl
  rcases h.2 with ⟨h0, _⟩ | ⟨g2, cap, cur, h1, h2, h3, h4⟩
  · cases h0
  · cases h1
    exact Blk.lt (t := e) h3

end Go.Proofs.Ytfcknhpllhkpeaa

namespace Go.Proofs.Ytfcknhpllhkpeaa
open Go.RowKit

/-- Two addresses in different blocks. -/
def Apt (A B : Option Addr) : Prop := ∀ g o o', A = some ⟨g, o, none⟩ → B = some ⟨g, o', none⟩ → False
theorem Apt.symm {A B : Option Addr} (h : Apt A B) : Apt B A := fun g o o' h1 h2 => h g o' o h2 h1
end Go.Proofs.Ytfcknhpllhkpeaa

namespace Go.Proofs.Ytfcknhpllhkpeaa
open Go.RowKit

section
variable {w w' : World} {g k n : Nat} {L : List It}
end
theorem Cp.drewN {w w' : World} {g : Nat} (h : Cp w w' g) (n : Nat) : Cp w (w'.drewN n) g := ⟨fun w0 h0 hg => (h.up w0 h0 hg).drewN n, h.far, h.size, h.fr⟩
theorem Cp.trans {w w' w2 : World} {g : Nat} (h : Cp w w' g) (h2 : Cp w' w2 g) : Cp w w2 g :=
  ⟨fun w0 h0 hg => h2.up w0 (h.up w0 h0 hg) hg, fun b hb => (h2.far b hb).trans (h.far b hb), h2.size.trans h.size, fun a => (h2.fr a).trans (h.fr a)⟩
end Go.Proofs.Ytfcknhpllhkpeaa
