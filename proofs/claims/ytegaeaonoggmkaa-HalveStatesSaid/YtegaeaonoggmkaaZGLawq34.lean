/- Texts of these claims, one after the other. -/
import Derived.Test.YtegaeaonoggmkaaRows
import Derived.Test.YtegaeaonoggmkaaZGCallq85
import Derived.Test.YtegaeaonoggmkaaZGLawq33
namespace Go.Proofs.Ytegaeaonoggmkaa
open Go.RowKit

theorem Own.of_up {w0 w w' : World} {v : Value} {n : Nat} {L : List It} (h : Own w0 w v n L) (hu : Up w w') : Own w0 w' v n L := by
  refine ⟨h.1, ?_⟩
  rcases h.2 with h0 | ⟨g, cap, cur, h1, h2, h3, h4⟩
  · exact Or.inl h0
  · exact Or.inr ⟨g, cap, cur, h1, h2, Blk.up (t := 69) h3 hu, h4⟩
section
variable {w w1 w2 : World} {p g : Nat}
end

section
variable {w w' : World} {p g c h l : Nat} {L : List It}
end
end Go.Proofs.Ytegaeaonoggmkaa

namespace Go.Proofs.Ytegaeaonoggmkaa
open Go.RowKit

theorem hold3 {W w2 : World} (w : World) (b0 b1 b2 : Nat) (u : Up W w2) (hW : Up w W := by (repeat (first | (with_reducible exact Up.refl _) | (with_reducible assumption) | (with_reducible exact Hid.out (by assumption)) | (with_reducible refine Up.alloc ?_ _ _) | (with_reducible refine Up.setCell ?_ ?_ _) | (with_reducible refine Up.drewN ?_ _) | (with_reducible refine Up.drew ?_))); all_goals (first | (simp; done) | (simp; omega) | omega)) (h0 : b0 < W.heap.size := by first | assumption | omega | (simp [go_sem]; done) | (simp [go_sem]; omega)) (h1 : b1 < W.heap.size := by first | assumption | omega | (simp [go_sem]; done) | (simp [go_sem]; omega)) (h2 : b2 < W.heap.size := by first | assumption | omega | (simp [go_sem]; done) | (simp [go_sem]; omega)) :
    Hid (Up w w2) ∧ ((∀ o, w2.cell? ⟨b0, o, none⟩ = W.cell? ⟨b0, o, none⟩) ∧ (∀ o, w2.cell? ⟨b1, o, none⟩ = W.cell? ⟨b1, o, none⟩) ∧ (∀ o, w2.cell? ⟨b2, o, none⟩ = W.cell? ⟨b2, o, none⟩)) ∧ b0 < w2.heap.size ∧ b1 < w2.heap.size ∧ b2 < w2.heap.size :=
  have z := u.size
  ⟨Lib.hid (hW.trans u), ⟨fun o => u.cells.1 _ o h0, fun o => u.cells.1 _ o h1, fun o => u.cells.1 _ o h2⟩, ⟨(by omega), (by omega), (by omega)⟩⟩
end Go.Proofs.Ytegaeaonoggmkaa
