/- What Advance of package recent and of its reference returns. -/
import Derived.Test.YtflahclphdlolaaGreatZCClock
import Derived.Test.YtflahclphdlolaaGreatZELive
import Derived.Test.YtflahclphdlolaaGreatZFBase
import Derived.Test.YtflahclphdlolaaGreatZG0a
import Derived.Test.YtflahclphdlolaaGreatZG2a
import Derived.Test.YtflahclphdlolaaGreatZG4a
import Derived.Test.YtflahclphdlolaaGreatZGLaw
import Derived.Test.YtflahclphdlolaaGreatZJFVal
namespace Go.Proofs.YtflahclphdlolaaGreat
open Go.RowKit

theorem valB_later {L : List It} {now to : Int} (h : valB L now = true) (h1 : now ≤ to) (h2 : to ≤ 16777216) : valB L to = true := by
  unfold valB at h ⊢
  rw [Bool.and_eq_true, decide_eq_true_eq] at h ⊢
  exact ⟨tickB_yes (by have := tickB_true h.1; omega) h2, fun j hj => by have g := h.2 j hj; exact ⟨g.1, by have := g.2.1; omega, g.2.2⟩⟩
theorem adv_live {L : List It} {v c now to : Int} (h : mayB v c now = true ∧ (L.length : Int) ≤ c ∧ valB L now = true ∧ okB now v L = true) (h1 : now ≤ to) (h2 : to ≤ 16777216) : (valB L to && winB v) = true := by
  rw [valB_later h.2.2.1 h1 h2, (mayB_true h.1).2.1]; rfl
theorem Sl.off {w : World} {A : Option Addr} {n p o : Nat} {M : List It} (h : Sl w A n M) (hn : ∀ b o, A = some ⟨b, o, none⟩ → b ≠ p) (x : Value) : Sl (w.setCell ⟨p, o, none⟩ x) A n M := by
  refine ⟨h.1, fun h0 => ?_⟩
  obtain ⟨b, o, e, hc⟩ := h.2 h0
  exact ⟨b, o, e, fun j u hj => (cell_far (fun hp => hn b o e hp.symm)).trans (hc j u hj)⟩
/-- An address that was not there before. -/
def Nw (w : World) (A : Option Addr) : Prop := ∀ b o, A = some ⟨b, o, none⟩ → w.heap.size ≤ b
theorem Own.nw {w0 w : World} {A : Option Addr} {n c : Nat} {L : List It} (h : Own w0 w (.slice A n c) n L) : Nw w0 A := by
  intro b o e
  rcases h.2 with ⟨h1, _⟩ | ⟨g, cap, cur, h1, h2, _⟩
  · injection h1 with h1; rw [h1] at e; cases e
  · injection h1 with h1
    rw [h1] at e
    injection e with e
    injection e with e1 e2
    omega
theorem Own.cap {w0 w : World} {A : Option Addr} {n c : Nat} {L : List It} (h : Own w0 w (.slice A n c) n L) : n ≤ c := by
  obtain ⟨A2, c2, e, h1, _⟩ := h.sl
  cases e
  exact h1
theorem Nw.up {w w1 : World} {A : Option Addr} (h : Nw w1 A) (hu : Up w w1) : Nw w A := fun b o e => Nat.le_trans hu.size (h b o e)
theorem back_no {now to : Int} (h : to < now ∨ 16777216 < to) : backE now to = 3 := if_pos h
theorem back_yes {now to : Int} (h : now ≤ to) (k : to ≤ 16777216) : backE now to = 0 := if_neg (by omega)
theorem adv_no {now to : Int} (ht : tickB now = true) (h : to < now ∨ 16777216 < to) : (if tickB now = true then (if to < now ∨ 16777216 < to then ((0 : Int), (3 : Int)) else (to, 0)) else (0, 1)) = (0, 3) := by rw [if_pos ht, if_pos h]
theorem adv_yes {now to : Int} (ht : tickB now = true) (h : now ≤ to) (k : to ≤ 16777216) : (if tickB now = true then (if to < now ∨ 16777216 < to then ((0 : Int), (3 : Int)) else (to, 0)) else (0, 1)) = (to, 0) := by rw [if_pos ht, if_neg (by omega)]

end Go.Proofs.YtflahclphdlolaaGreat
