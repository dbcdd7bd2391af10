/- Texts of these claims, one after the other. -/
import Derived.Test.YtfcknhpllhkpeaaRows
import Derived.Test.YtfcknhpllhkpeaaZGCallq61
import Derived.Test.YtfcknhpllhkpeaaZGFrameq5
namespace Go.Proofs.Ytfcknhpllhkpeaa

theorem mxE_sub {mx : Bool} {L M : List It} (h1 : ∀ x ∈ M, x ∈ L) (h2 : ∀ x, mxE mx L x → x ∈ M) (x : It) : mxE mx M x ↔ mxE mx L x := by
  constructor
  · intro hx
    refine ⟨h1 x hx.1, fun y hy hr => ?_⟩
    obtain ⟨z, hz, hzy⟩ := mxE_dom mx hy
    have := hx.2 z (h2 z hz) (hzy.trans hr)
    subst this
    exact hr.anti hzy
  · intro hx
    exact ⟨h2 x hx, fun y hy hr => hx.2 y (h1 y hy) hr⟩
theorem KdE.sub {mx : Bool} {K L M : List It} (h1 : ∀ x ∈ M, x ∈ L) (h2 : ∀ x, mxE mx L x → x ∈ M) : KdE mx K M ↔ KdE mx K L :=
  ⟨fun h => ⟨h.1, fun x => (h.2 x).trans (mxE_sub h1 h2 x)⟩, fun h => ⟨h.1, fun x => (h.2 x).trans (mxE_sub h1 h2 x).symm⟩⟩
end Go.Proofs.Ytfcknhpllhkpeaa

namespace Go.Proofs.Ytfcknhpllhkpeaa
open Go.RowKit

theorem Wp.set {w w1 : World} {m : Nat} {t : Int} {xs ys z : Nat → Int} (h : Wp w w1 xs ys z) : Wp w (w1.setCell ⟨w.heap.size + 1 + 1 + 1, m, none⟩ (.int .u64 t)) xs ys (updz z m t) :=
  ⟨h.up.setCell (by show w.heap.size ≤ w.heap.size + 1 + 1 + 1; omega) _, fun i hi => (cell_far (by show w.heap.size + 1 + 1 + 1 ≠ _; omega)).trans (h.x i hi), fun i hi => (cell_far (by show w.heap.size + 1 + 1 + 1 ≠ _; omega)).trans (h.y i hi),
   fun i hi => (cell_far (by show w.heap.size + 1 + 1 + 1 ≠ _; omega)).trans (h.r i hi), fun i hi => by rw [cell_set (h.z i hi)]; unfold updz; by_cases e : m = i <;> simp [e, eq_comm]⟩
end Go.Proofs.Ytfcknhpllhkpeaa

namespace Go.Proofs.Ytfcknhpllhkpeaa
open Go.RowKit

/-- No element lies in the cells from place i on. -/
def zf (c h : Nat) (L : List It) (i : Nat) : Bool := decide (∀ k, k < c → i ≤ k → L.getD ((h + k) % c) (0, 0) = (0, 0))
end Go.Proofs.Ytfcknhpllhkpeaa

namespace Go.Proofs.Ytfcknhpllhkpeaa
open Go.RowKit

theorem call3 {W w2 : World} (w : World) (u : Up W w2) (hW : Up w W := by (repeat (first | (with_reducible exact Up.refl _) | (with_reducible assumption) | (with_reducible exact Hid.out (by assumption)) | (with_reducible refine Up.alloc ?_ _ _) | (with_reducible refine Up.setCell ?_ ?_ _) | (with_reducible refine Up.drewN ?_ _) | (with_reducible refine Up.drew ?_))); all_goals (first | (simp; done) | (simp; omega) | omega))
    (hs : w.heap.size + 3 ≤ W.heap.size := by first | (simp [go_sem]; done) | (simp [go_sem]; omega) | omega) :
    Hid (Up w w2) ∧ ((∀ o, w2.cell? ⟨w.heap.size, o, none⟩ = W.cell? ⟨w.heap.size, o, none⟩) ∧ (∀ o, w2.cell? ⟨w.heap.size + 1, o, none⟩ = W.cell? ⟨w.heap.size + 1, o, none⟩) ∧ (∀ o, w2.cell? ⟨w.heap.size + 2, o, none⟩ = W.cell? ⟨w.heap.size + 2, o, none⟩)) ∧ (w.heap.size < w2.heap.size ∧ w.heap.size + 1 < w2.heap.size ∧ w.heap.size + 2 < w2.heap.size) ∧ (∀ o, w2.frozen? ⟨w.heap.size, o, none⟩ = false) ∧ (∀ o, w2.frozen? ⟨w.heap.size + 1, o, none⟩ = false) ∧ (∀ o, w2.frozen? ⟨w.heap.size + 2, o, none⟩ = false) :=
  have z := u.size
  have U2 := hW.trans u
  ⟨Lib.hid U2, ⟨fun o => u.cells.1 _ o (by omega), fun o => u.cells.1 _ o (by omega), fun o => u.cells.1 _ o (by omega)⟩, ⟨by omega, by omega, by omega⟩, ⟨fun o => U2.ownGe (by omega) o, fun o => U2.ownGe (by omega) o, fun o => U2.ownGe (by omega) o⟩⟩
theorem KB1.set {b0 p q : Nat} {w W w1 : World} {v : Value} (h : KB1 b0 w W w1) (hp : w.heap.size ≤ p := by omega) (n0 : p ≠ b0 := by omega) : KB1 b0 w W (w1.setCell ⟨p, q, none⟩ v) :=
  ⟨h.1.setCell hp _, by rw [size_set]; exact h.2.1, fun o => (cell_far n0).trans (h.2.2 o)⟩
theorem KB2.set {b0 b1 p q : Nat} {w W w1 : World} {v : Value} (h : KB2 b0 b1 w W w1) (hp : w.heap.size ≤ p := by omega) (n0 : p ≠ b0 := by omega) (n1 : p ≠ b1 := by omega) : KB2 b0 b1 w W (w1.setCell ⟨p, q, none⟩ v) :=
  ⟨h.1.setCell hp _, by rw [size_set]; exact h.2.1, ⟨fun o => (cell_far n0).trans (h.2.2.1 o), fun o => (cell_far n1).trans (h.2.2.2 o)⟩⟩
theorem KB3.set {b0 b1 b2 p q : Nat} {w W w1 : World} {v : Value} (h : KB3 b0 b1 b2 w W w1) (hp : w.heap.size ≤ p := by omega) (n0 : p ≠ b0 := by omega) (n1 : p ≠ b1 := by omega) (n2 : p ≠ b2 := by omega) : KB3 b0 b1 b2 w W (w1.setCell ⟨p, q, none⟩ v) :=
  ⟨h.1.setCell hp _, by rw [size_set]; exact h.2.1, ⟨fun o => (cell_far n0).trans (h.2.2.1 o), fun o => (cell_far n1).trans (h.2.2.2.1 o), fun o => (cell_far n2).trans (h.2.2.2.2 o)⟩⟩
theorem KB4.set {b0 b1 b2 b3 p q : Nat} {w W w1 : World} {v : Value} (h : KB4 b0 b1 b2 b3 w W w1) (hp : w.heap.size ≤ p := by omega) (n0 : p ≠ b0 := by omega) (n1 : p ≠ b1 := by omega) (n2 : p ≠ b2 := by omega) (n3 : p ≠ b3 := by omega) : KB4 b0 b1 b2 b3 w W (w1.setCell ⟨p, q, none⟩ v) :=
  ⟨h.1.setCell hp _, by rw [size_set]; exact h.2.1, ⟨fun o => (cell_far n0).trans (h.2.2.1 o), fun o => (cell_far n1).trans (h.2.2.2.1 o), fun o => (cell_far n2).trans (h.2.2.2.2.1 o), fun o => (cell_far n3).trans (h.2.2.2.2.2 o)⟩⟩
theorem KB5.set {b0 b1 b2 b3 b4 p q : Nat} {w W w1 : World} {v : Value} (h : KB5 b0 b1 b2 b3 b4 w W w1) (hp : w.heap.size ≤ p := by omega) (n0 : p ≠ b0 := by omega) (n1 : p ≠ b1 := by omega) (n2 : p ≠ b2 := by omega) (n3 : p ≠ b3 := by omega) (n4 : p ≠ b4 := by omega) : KB5 b0 b1 b2 b3 b4 w W (w1.setCell ⟨p, q, none⟩ v) :=
  ⟨h.1.setCell hp _, by rw [size_set]; exact h.2.1, ⟨fun o => (cell_far n0).trans (h.2.2.1 o), fun o => (cell_far n1).trans (h.2.2.2.1 o), fun o => (cell_far n2).trans (h.2.2.2.2.1 o), fun o => (cell_far n3).trans (h.2.2.2.2.2.1 o), fun o => (cell_far n4).trans (h.2.2.2.2.2.2 o)⟩⟩
theorem KB6.set {b0 b1 b2 b3 b4 b5 p q : Nat} {w W w1 : World} {v : Value} (h : KB6 b0 b1 b2 b3 b4 b5 w W w1) (hp : w.heap.size ≤ p := by omega) (n0 : p ≠ b0 := by omega) (n1 : p ≠ b1 := by omega) (n2 : p ≠ b2 := by omega) (n3 : p ≠ b3 := by omega) (n4 : p ≠ b4 := by omega) (n5 : p ≠ b5 := by omega) : KB6 b0 b1 b2 b3 b4 b5 w W (w1.setCell ⟨p, q, none⟩ v) :=
  ⟨h.1.setCell hp _, by rw [size_set]; exact h.2.1, ⟨fun o => (cell_far n0).trans (h.2.2.1 o), fun o => (cell_far n1).trans (h.2.2.2.1 o), fun o => (cell_far n2).trans (h.2.2.2.2.1 o), fun o => (cell_far n3).trans (h.2.2.2.2.2.1 o), fun o => (cell_far n4).trans (h.2.2.2.2.2.2.1 o), fun o => (cell_far n5).trans (h.2.2.2.2.2.2.2 o)⟩⟩
theorem KB7.set {b0 b1 b2 b3 b4 b5 b6 p q : Nat} {w W w1 : World} {v : Value} (h : KB7 b0 b1 b2 b3 b4 b5 b6 w W w1) (hp : w.heap.size ≤ p := by omega) (n0 : p ≠ b0 := by omega) (n1 : p ≠ b1 := by omega) (n2 : p ≠ b2 := by omega) (n3 : p ≠ b3 := by omega) (n4 : p ≠ b4 := by omega) (n5 : p ≠ b5 := by omega) (n6 : p ≠ b6 := by omega) : KB7 b0 b1 b2 b3 b4 b5 b6 w W (w1.setCell ⟨p, q, none⟩ v) :=
  ⟨h.1.setCell hp _, by rw [size_set]; exact h.2.1, ⟨fun o => (cell_far n0).trans (h.2.2.1 o), fun o => (cell_far n1).trans (h.2.2.2.1 o), fun o => (cell_far n2).trans (h.2.2.2.2.1 o), fun o => (cell_far n3).trans (h.2.2.2.2.2.1 o), fun o => (cell_far n4).trans (h.2.2.2.2.2.2.1 o), fun o => (cell_far n5).trans (h.2.2.2.2.2.2.2.1 o), fun o => (cell_far n6).trans (h.2.2.2.2.2.2.2.2 o)⟩⟩
theorem KB8.set {b0 b1 b2 b3 b4 b5 b6 b7 p q : Nat} {w W w1 : World} {v : Value} (h : KB8 b0 b1 b2 b3 b4 b5 b6 b7 w W w1) (hp : w.heap.size ≤ p := by omega) (n0 : p ≠ b0 := by omega) (n1 : p ≠ b1 := by omega) (n2 : p ≠ b2 := by omega) (n3 : p ≠ b3 := by omega) (n4 : p ≠ b4 := by omega) (n5 : p ≠ b5 := by omega) (n6 : p ≠ b6 := by omega) (n7 : p ≠ b7 := by omega) : KB8 b0 b1 b2 b3 b4 b5 b6 b7 w W (w1.setCell ⟨p, q, none⟩ v) :=
  ⟨h.1.setCell hp _, by rw [size_set]; exact h.2.1, ⟨fun o => (cell_far n0).trans (h.2.2.1 o), fun o => (cell_far n1).trans (h.2.2.2.1 o), fun o => (cell_far n2).trans (h.2.2.2.2.1 o), fun o => (cell_far n3).trans (h.2.2.2.2.2.1 o), fun o => (cell_far n4).trans (h.2.2.2.2.2.2.1 o), fun o => (cell_far n5).trans (h.2.2.2.2.2.2.2.1 o), fun o => (cell_far n6).trans (h.2.2.2.2.2.2.2.2.1 o), fun o => (cell_far n7).trans (h.2.2.2.2.2.2.2.2.2 o)⟩⟩
end Go.Proofs.Ytfcknhpllhkpeaa
