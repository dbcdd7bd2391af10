/- What a call leaves of a function's own variables, as rules. -/
import Derived.Test.YtfcknhpllhkpeaaRows
import Derived.Test.YtfcknhpllhkpeaaZGBaseq3
namespace Go.Proofs.Ytfcknhpllhkpeaa
open Go.RowKit

theorem call1 {W w2 : World} (w : World) (u : Up W w2) (hW : Up w W := by (repeat (first | (with_reducible exact Up.refl _) | (with_reducible assumption) | (with_reducible exact Hid.out (by assumption)) | (with_reducible refine Up.alloc ?_ _ _) | (with_reducible refine Up.setCell ?_ ?_ _) | (with_reducible refine Up.drewN ?_ _) | (with_reducible refine Up.drew ?_))); all_goals (first | (simp; done) | (simp; omega) | omega))
    (hs : w.heap.size + 1 ≤ W.heap.size := by first | (simp [go_sem]; done) | (simp [go_sem]; omega) | omega) :
    Hid (Up w w2) ∧ ((∀ o, w2.cell? ⟨w.heap.size, o, none⟩ = W.cell? ⟨w.heap.size, o, none⟩)) ∧ (w.heap.size < w2.heap.size) ∧ (∀ o, w2.frozen? ⟨w.heap.size, o, none⟩ = false) :=
  have z := u.size
  have U2 := hW.trans u
  ⟨Lib.hid U2, fun o => u.cells.1 _ o (by omega), (by omega), fun o => U2.ownGe (by omega) o⟩
theorem call2 {W w2 : World} (w : World) (u : Up W w2) (hW : Up w W := by (repeat (first | (with_reducible exact Up.refl _) | (with_reducible assumption) | (with_reducible exact Hid.out (by assumption)) | (with_reducible refine Up.alloc ?_ _ _) | (with_reducible refine Up.setCell ?_ ?_ _) | (with_reducible refine Up.drewN ?_ _) | (with_reducible refine Up.drew ?_))); all_goals (first | (simp; done) | (simp; omega) | omega))
    (hs : w.heap.size + 2 ≤ W.heap.size := by first | (simp [go_sem]; done) | (simp [go_sem]; omega) | omega) :
    Hid (Up w w2) ∧ ((∀ o, w2.cell? ⟨w.heap.size, o, none⟩ = W.cell? ⟨w.heap.size, o, none⟩) ∧ (∀ o, w2.cell? ⟨w.heap.size + 1, o, none⟩ = W.cell? ⟨w.heap.size + 1, o, none⟩)) ∧ (w.heap.size < w2.heap.size ∧ w.heap.size + 1 < w2.heap.size) ∧ (∀ o, w2.frozen? ⟨w.heap.size, o, none⟩ = false) ∧ (∀ o, w2.frozen? ⟨w.heap.size + 1, o, none⟩ = false) :=
  have z := u.size
  have U2 := hW.trans u
  ⟨Lib.hid U2, ⟨fun o => u.cells.1 _ o (by omega), fun o => u.cells.1 _ o (by omega)⟩, ⟨by omega, by omega⟩, ⟨fun o => U2.ownGe (by omega) o, fun o => U2.ownGe (by omega) o⟩⟩
abbrev KB1 (b0 : Nat) (w W w' : World) : Prop := Up w w' ∧ (b0 < w'.heap.size) ∧ (∀ o, w'.cell? ⟨b0, o, none⟩ = W.cell? ⟨b0, o, none⟩)
theorem KB1.start {b0 : Nat} {w W : World} (h : Hid (Up w W)) (h0 : b0 < W.heap.size := by first | assumption | omega | (simp [go_sem]; done) | (simp [go_sem]; omega)) : KB1 b0 w W W.drew :=
  ⟨h.out.drew, h0, fun _ => rfl⟩
theorem KB1.up {b0 : Nat} {w W w1 w2 : World} (h : KB1 b0 w W w1) (u : Up w1 w2) : KB1 b0 w W w2 :=
  have z := u.size
  have s := h.2.1
  ⟨h.1.trans u, (by omega), fun o => (u.cells.1 _ o s).trans (h.2.2 o)⟩
theorem KB1.next {b0 : Nat} {w W w1 w2 : World} (u : Up w1 w2) (h : KB1 b0 w W w1) : KB1 b0 w W w2 := h.up u
theorem KB1.to {b0 : Nat} {w W w1 : World} (h : KB1 b0 w W w1) : Up w w1 := h.1
abbrev KB2 (b0 b1 : Nat) (w W w' : World) : Prop := Up w w' ∧ (b0 < w'.heap.size ∧ b1 < w'.heap.size) ∧ (∀ o, w'.cell? ⟨b0, o, none⟩ = W.cell? ⟨b0, o, none⟩) ∧ (∀ o, w'.cell? ⟨b1, o, none⟩ = W.cell? ⟨b1, o, none⟩)
theorem KB2.start {b0 b1 : Nat} {w W : World} (h : Hid (Up w W)) (h0 : b0 < W.heap.size := by first | assumption | omega | (simp [go_sem]; done) | (simp [go_sem]; omega)) (h1 : b1 < W.heap.size := by first | assumption | omega | (simp [go_sem]; done) | (simp [go_sem]; omega)) : KB2 b0 b1 w W W.drew :=
  ⟨h.out.drew, ⟨h0, h1⟩, ⟨fun _ => rfl, fun _ => rfl⟩⟩
theorem KB2.up {b0 b1 : Nat} {w W w1 w2 : World} (h : KB2 b0 b1 w W w1) (u : Up w1 w2) : KB2 b0 b1 w W w2 :=
  have z := u.size
  have s := h.2.1
  ⟨h.1.trans u, ⟨(by omega), (by omega)⟩, ⟨fun o => (u.cells.1 _ o s.1).trans (h.2.2.1 o), fun o => (u.cells.1 _ o s.2).trans (h.2.2.2 o)⟩⟩
theorem KB2.next {b0 b1 : Nat} {w W w1 w2 : World} (u : Up w1 w2) (h : KB2 b0 b1 w W w1) : KB2 b0 b1 w W w2 := h.up u
theorem KB2.to {b0 b1 : Nat} {w W w1 : World} (h : KB2 b0 b1 w W w1) : Up w w1 := h.1
abbrev KB3 (b0 b1 b2 : Nat) (w W w' : World) : Prop := Up w w' ∧ (b0 < w'.heap.size ∧ b1 < w'.heap.size ∧ b2 < w'.heap.size) ∧ (∀ o, w'.cell? ⟨b0, o, none⟩ = W.cell? ⟨b0, o, none⟩) ∧ (∀ o, w'.cell? ⟨b1, o, none⟩ = W.cell? ⟨b1, o, none⟩) ∧ (∀ o, w'.cell? ⟨b2, o, none⟩ = W.cell? ⟨b2, o, none⟩)
theorem KB3.start {b0 b1 b2 : Nat} {w W : World} (h : Hid (Up w W)) (h0 : b0 < W.heap.size := by first | assumption | omega | (simp [go_sem]; done) | (simp [go_sem]; omega)) (h1 : b1 < W.heap.size := by first | assumption | omega | (simp [go_sem]; done) | (simp [go_sem]; omega)) (h2 : b2 < W.heap.size := by first | assumption | omega | (simp [go_sem]; done) | (simp [go_sem]; omega)) : KB3 b0 b1 b2 w W W.drew :=
  ⟨h.out.drew, ⟨h0, h1, h2⟩, ⟨fun _ => rfl, fun _ => rfl, fun _ => rfl⟩⟩
theorem KB3.up {b0 b1 b2 : Nat} {w W w1 w2 : World} (h : KB3 b0 b1 b2 w W w1) (u : Up w1 w2) : KB3 b0 b1 b2 w W w2 :=
  have z := u.size
  have s := h.2.1
  ⟨h.1.trans u, ⟨(by omega), (by omega), (by omega)⟩, ⟨fun o => (u.cells.1 _ o s.1).trans (h.2.2.1 o), fun o => (u.cells.1 _ o s.2.1).trans (h.2.2.2.1 o), fun o => (u.cells.1 _ o s.2.2).trans (h.2.2.2.2 o)⟩⟩
theorem KB3.next {b0 b1 b2 : Nat} {w W w1 w2 : World} (u : Up w1 w2) (h : KB3 b0 b1 b2 w W w1) : KB3 b0 b1 b2 w W w2 := h.up u
theorem KB3.to {b0 b1 b2 : Nat} {w W w1 : World} (h : KB3 b0 b1 b2 w W w1) : Up w w1 := h.1
abbrev KB4 (b0 b1 b2 b3 : Nat) (w W w' : World) : Prop := Up w w' ∧ (b0 < w'.heap.size ∧ b1 < w'.heap.size ∧ b2 < w'.heap.size ∧ b3 < w'.heap.size) ∧ (∀ o, w'.cell? ⟨b0, o, none⟩ = W.cell? ⟨b0, o, none⟩) ∧ (∀ o, w'.cell? ⟨b1, o, none⟩ = W.cell? ⟨b1, o, none⟩) ∧ (∀ o, w'.cell? ⟨b2, o, none⟩ = W.cell? ⟨b2, o, none⟩) ∧ (∀ o, w'.cell? ⟨b3, o, none⟩ = W.cell? ⟨b3, o, none⟩)
theorem KB4.start {b0 b1 b2 b3 : Nat} {w W : World} (h : Hid (Up w W)) (h0 : b0 < W.heap.size := by first | assumption | omega | (simp [go_sem]; done) | (simp [go_sem]; omega)) (h1 : b1 < W.heap.size := by first | assumption | omega | (simp [go_sem]; done) | (simp [go_sem]; omega)) (h2 : b2 < W.heap.size := by first | assumption | omega | (simp [go_sem]; done) | (simp [go_sem]; omega)) (h3 : b3 < W.heap.size := by first | assumption | omega | (simp [go_sem]; done) | (simp [go_sem]; omega)) : KB4 b0 b1 b2 b3 w W W.drew :=
  ⟨h.out.drew, ⟨h0, h1, h2, h3⟩, ⟨fun _ => rfl, fun _ => rfl, fun _ => rfl, fun _ => rfl⟩⟩
theorem KB4.up {b0 b1 b2 b3 : Nat} {w W w1 w2 : World} (h : KB4 b0 b1 b2 b3 w W w1) (u : Up w1 w2) : KB4 b0 b1 b2 b3 w W w2 :=
  have z := u.size
  have s := h.2.1
  ⟨h.1.trans u, ⟨(by omega), (by omega), (by omega), (by omega)⟩, ⟨fun o => (u.cells.1 _ o s.1).trans (h.2.2.1 o), fun o => (u.cells.1 _ o s.2.1).trans (h.2.2.2.1 o), fun o => (u.cells.1 _ o s.2.2.1).trans (h.2.2.2.2.1 o), fun o => (u.cells.1 _ o s.2.2.2).trans (h.2.2.2.2.2 o)⟩⟩
theorem KB4.next {b0 b1 b2 b3 : Nat} {w W w1 w2 : World} (u : Up w1 w2) (h : KB4 b0 b1 b2 b3 w W w1) : KB4 b0 b1 b2 b3 w W w2 := h.up u
theorem KB4.to {b0 b1 b2 b3 : Nat} {w W w1 : World} (h : KB4 b0 b1 b2 b3 w W w1) : Up w w1 := h.1
abbrev KB5 (b0 b1 b2 b3 b4 : Nat) (w W w' : World) : Prop := Up w w' ∧ (b0 < w'.heap.size ∧ b1 < w'.heap.size ∧ b2 < w'.heap.size ∧ b3 < w'.heap.size ∧ b4 < w'.heap.size) ∧ (∀ o, w'.cell? ⟨b0, o, none⟩ = W.cell? ⟨b0, o, none⟩) ∧ (∀ o, w'.cell? ⟨b1, o, none⟩ = W.cell? ⟨b1, o, none⟩) ∧ (∀ o, w'.cell? ⟨b2, o, none⟩ = W.cell? ⟨b2, o, none⟩) ∧ (∀ o, w'.cell? ⟨b3, o, none⟩ = W.cell? ⟨b3, o, none⟩) ∧ (∀ o, w'.cell? ⟨b4, o, none⟩ = W.cell? ⟨b4, o, none⟩)
theorem KB5.start {b0 b1 b2 b3 b4 : Nat} {w W : World} (h : Hid (Up w W)) (h0 : b0 < W.heap.size := by first | assumption | omega | (simp [go_sem]; done) | (simp [go_sem]; omega)) (h1 : b1 < W.heap.size := by first | assumption | omega | (simp [go_sem]; done) | (simp [go_sem]; omega)) (h2 : b2 < W.heap.size := by first | assumption | omega | (simp [go_sem]; done) | (simp [go_sem]; omega)) (h3 : b3 < W.heap.size := by first | assumption | omega | (simp [go_sem]; done) | (simp [go_sem]; omega)) (h4 : b4 < W.heap.size := by first | assumption | omega | (simp [go_sem]; done) | (simp [go_sem]; omega)) : KB5 b0 b1 b2 b3 b4 w W W.drew :=
  ⟨h.out.drew, ⟨h0, h1, h2, h3, h4⟩, ⟨fun _ => rfl, fun _ => rfl, fun _ => rfl, fun _ => rfl, fun _ => rfl⟩⟩
theorem KB5.up {b0 b1 b2 b3 b4 : Nat} {w W w1 w2 : World} (h : KB5 b0 b1 b2 b3 b4 w W w1) (u : Up w1 w2) : KB5 b0 b1 b2 b3 b4 w W w2 :=
  have z := u.size
  have s := h.2.1
  ⟨h.1.trans u, ⟨(by omega), (by omega), (by omega), (by omega), (by omega)⟩, ⟨fun o => (u.cells.1 _ o s.1).trans (h.2.2.1 o), fun o => (u.cells.1 _ o s.2.1).trans (h.2.2.2.1 o), fun o => (u.cells.1 _ o s.2.2.1).trans (h.2.2.2.2.1 o), fun o => (u.cells.1 _ o s.2.2.2.1).trans (h.2.2.2.2.2.1 o), fun o => (u.cells.1 _ o s.2.2.2.2).trans (h.2.2.2.2.2.2 o)⟩⟩
theorem KB5.next {b0 b1 b2 b3 b4 : Nat} {w W w1 w2 : World} (u : Up w1 w2) (h : KB5 b0 b1 b2 b3 b4 w W w1) : KB5 b0 b1 b2 b3 b4 w W w2 := h.up u
theorem KB5.to {b0 b1 b2 b3 b4 : Nat} {w W w1 : World} (h : KB5 b0 b1 b2 b3 b4 w W w1) : Up w w1 := h.1
abbrev KB6 (b0 b1 b2 b3 b4 b5 : Nat) (w W w' : World) : Prop := Up w w' ∧ (b0 < w'.heap.size ∧ b1 < w'.heap.size ∧ b2 < w'.heap.size ∧ b3 < w'.heap.size ∧ b4 < w'.heap.size ∧ b5 < w'.heap.size) ∧ (∀ o, w'.cell? ⟨b0, o, none⟩ = W.cell? ⟨b0, o, none⟩) ∧ (∀ o, w'.cell? ⟨b1, o, none⟩ = W.cell? ⟨b1, o, none⟩) ∧ (∀ o, w'.cell? ⟨b2, o, none⟩ = W.cell? ⟨b2, o, none⟩) ∧ (∀ o, w'.cell? ⟨b3, o, none⟩ = W.cell? ⟨b3, o, none⟩) ∧ (∀ o, w'.cell? ⟨b4, o, none⟩ = W.cell? ⟨b4, o, none⟩) ∧ (∀ o, w'.cell? ⟨b5, o, none⟩ = W.cell? ⟨b5, o, none⟩)
theorem KB6.start {b0 b1 b2 b3 b4 b5 : Nat} {w W : World} (h : Hid (Up w W)) (h0 : b0 < W.heap.size := by first | assumption | omega | (simp [go_sem]; done) | (simp [go_sem]; omega)) (h1 : b1 < W.heap.size := by first | assumption | omega | (simp [go_sem]; done) | (simp [go_sem]; omega)) (h2 : b2 < W.heap.size := by first | assumption | omega | (simp [go_sem]; done) | (simp [go_sem]; omega)) (h3 : b3 < W.heap.size := by first | assumption | omega | (simp [go_sem]; done) | (simp [go_sem]; omega)) (h4 : b4 < W.heap.size := by first | assumption | omega | (simp [go_sem]; done) | (simp [go_sem]; omega)) (h5 : b5 < W.heap.size := by first | assumption | omega | (simp [go_sem]; done) | (simp [go_sem]; omega)) : KB6 b0 b1 b2 b3 b4 b5 w W W.drew :=
  ⟨h.out.drew, ⟨h0, h1, h2, h3, h4, h5⟩, ⟨fun _ => rfl, fun _ => rfl, fun _ => rfl, fun _ => rfl, fun _ => rfl, fun _ => rfl⟩⟩
theorem KB6.up {b0 b1 b2 b3 b4 b5 : Nat} {w W w1 w2 : World} (h : KB6 b0 b1 b2 b3 b4 b5 w W w1) (u : Up w1 w2) : KB6 b0 b1 b2 b3 b4 b5 w W w2 :=
  have z := u.size
  have s := h.2.1
  ⟨h.1.trans u, ⟨(by omega), (by omega), (by omega), (by omega), (by omega), (by omega)⟩, ⟨fun o => (u.cells.1 _ o s.1).trans (h.2.2.1 o), fun o => (u.cells.1 _ o s.2.1).trans (h.2.2.2.1 o), fun o => (u.cells.1 _ o s.2.2.1).trans (h.2.2.2.2.1 o), fun o => (u.cells.1 _ o s.2.2.2.1).trans (h.2.2.2.2.2.1 o), fun o => (u.cells.1 _ o s.2.2.2.2.1).trans (h.2.2.2.2.2.2.1 o), fun o => (u.cells.1 _ o s.2.2.2.2.2).trans (h.2.2.2.2.2.2.2 o)⟩⟩
theorem KB6.next {b0 b1 b2 b3 b4 b5 : Nat} {w W w1 w2 : World} (u : Up w1 w2) (h : KB6 b0 b1 b2 b3 b4 b5 w W w1) : KB6 b0 b1 b2 b3 b4 b5 w W w2 := h.up u
theorem KB6.to {b0 b1 b2 b3 b4 b5 : Nat} {w W w1 : World} (h : KB6 b0 b1 b2 b3 b4 b5 w W w1) : Up w w1 := h.1
abbrev KB7 (b0 b1 b2 b3 b4 b5 b6 : Nat) (w W w' : World) : Prop := Up w w' ∧ (b0 < w'.heap.size ∧ b1 < w'.heap.size ∧ b2 < w'.heap.size ∧ b3 < w'.heap.size ∧ b4 < w'.heap.size ∧ b5 < w'.heap.size ∧ b6 < w'.heap.size) ∧ (∀ o, w'.cell? ⟨b0, o, none⟩ = W.cell? ⟨b0, o, none⟩) ∧ (∀ o, w'.cell? ⟨b1, o, none⟩ = W.cell? ⟨b1, o, none⟩) ∧ (∀ o, w'.cell? ⟨b2, o, none⟩ = W.cell? ⟨b2, o, none⟩) ∧ (∀ o, w'.cell? ⟨b3, o, none⟩ = W.cell? ⟨b3, o, none⟩) ∧ (∀ o, w'.cell? ⟨b4, o, none⟩ = W.cell? ⟨b4, o, none⟩) ∧ (∀ o, w'.cell? ⟨b5, o, none⟩ = W.cell? ⟨b5, o, none⟩) ∧ (∀ o, w'.cell? ⟨b6, o, none⟩ = W.cell? ⟨b6, o, none⟩)
theorem KB7.start {b0 b1 b2 b3 b4 b5 b6 : Nat} {w W : World} (h : Hid (Up w W)) (h0 : b0 < W.heap.size := by first | assumption | omega | (simp [go_sem]; done) | (simp [go_sem]; omega)) (h1 : b1 < W.heap.size := by first | assumption | omega | (simp [go_sem]; done) | (simp [go_sem]; omega)) (h2 : b2 < W.heap.size := by first | assumption | omega | (simp [go_sem]; done) | (simp [go_sem]; omega)) (h3 : b3 < W.heap.size := by first | assumption | omega | (simp [go_sem]; done) | (simp [go_sem]; omega)) (h4 : b4 < W.heap.size := by first | assumption | omega | (simp [go_sem]; done) | (simp [go_sem]; omega)) (h5 : b5 < W.heap.size := by first | assumption | omega | (simp [go_sem]; done) | (simp [go_sem]; omega)) (h6 : b6 < W.heap.size := by first | assumption | omega | (simp [go_sem]; done) | (simp [go_sem]; omega)) : KB7 b0 b1 b2 b3 b4 b5 b6 w W W.drew :=
  ⟨h.out.drew, ⟨h0, h1, h2, h3, h4, h5, h6⟩, ⟨fun _ => rfl, fun _ => rfl, fun _ => rfl, fun _ => rfl, fun _ => rfl, fun _ => rfl, fun _ => rfl⟩⟩
theorem KB7.up {b0 b1 b2 b3 b4 b5 b6 : Nat} {w W w1 w2 : World} (h : KB7 b0 b1 b2 b3 b4 b5 b6 w W w1) (u : Up w1 w2) : KB7 b0 b1 b2 b3 b4 b5 b6 w W w2 :=
  have z := u.size
  have s := h.2.1
  ⟨h.1.trans u, ⟨(by omega), (by omega), (by omega), (by omega), (by omega), (by omega), (by omega)⟩, ⟨fun o => (u.cells.1 _ o s.1).trans (h.2.2.1 o), fun o => (u.cells.1 _ o s.2.1).trans (h.2.2.2.1 o), fun o => (u.cells.1 _ o s.2.2.1).trans (h.2.2.2.2.1 o), fun o => (u.cells.1 _ o s.2.2.2.1).trans (h.2.2.2.2.2.1 o), fun o => (u.cells.1 _ o s.2.2.2.2.1).trans (h.2.2.2.2.2.2.1 o), fun o => (u.cells.1 _ o s.2.2.2.2.2.1).trans (h.2.2.2.2.2.2.2.1 o), fun o => (u.cells.1 _ o s.2.2.2.2.2.2).trans (h.2.2.2.2.2.2.2.2 o)⟩⟩
theorem KB7.next {b0 b1 b2 b3 b4 b5 b6 : Nat} {w W w1 w2 : World} (u : Up w1 w2) (h : KB7 b0 b1 b2 b3 b4 b5 b6 w W w1) : KB7 b0 b1 b2 b3 b4 b5 b6 w W w2 := h.up u
theorem KB7.to {b0 b1 b2 b3 b4 b5 b6 : Nat} {w W w1 : World} (h : KB7 b0 b1 b2 b3 b4 b5 b6 w W w1) : Up w w1 := h.1
abbrev KB8 (b0 b1 b2 b3 b4 b5 b6 b7 : Nat) (w W w' : World) : Prop := Up w w' ∧ (b0 < w'.heap.size ∧ b1 < w'.heap.size ∧ b2 < w'.heap.size ∧ b3 < w'.heap.size ∧ b4 < w'.heap.size ∧ b5 < w'.heap.size ∧ b6 < w'.heap.size ∧ b7 < w'.heap.size) ∧ (∀ o, w'.cell? ⟨b0, o, none⟩ = W.cell? ⟨b0, o, none⟩) ∧ (∀ o, w'.cell? ⟨b1, o, none⟩ = W.cell? ⟨b1, o, none⟩) ∧ (∀ o, w'.cell? ⟨b2, o, none⟩ = W.cell? ⟨b2, o, none⟩) ∧ (∀ o, w'.cell? ⟨b3, o, none⟩ = W.cell? ⟨b3, o, none⟩) ∧ (∀ o, w'.cell? ⟨b4, o, none⟩ = W.cell? ⟨b4, o, none⟩) ∧ (∀ o, w'.cell? ⟨b5, o, none⟩ = W.cell? ⟨b5, o, none⟩) ∧ (∀ o, w'.cell? ⟨b6, o, none⟩ = W.cell? ⟨b6, o, none⟩) ∧ (∀ o, w'.cell? ⟨b7, o, none⟩ = W.cell? ⟨b7, o, none⟩)
theorem KB8.start {b0 b1 b2 b3 b4 b5 b6 b7 : Nat} {w W : World} (h : Hid (Up w W)) (h0 : b0 < W.heap.size := by first | assumption | omega | (simp [go_sem]; done) | (simp [go_sem]; omega)) (h1 : b1 < W.heap.size := by first | assumption | omega | (simp [go_sem]; done) | (simp [go_sem]; omega)) (h2 : b2 < W.heap.size := by first | assumption | omega | (simp [go_sem]; done) | (simp [go_sem]; omega)) (h3 : b3 < W.heap.size := by first | assumption | omega | (simp [go_sem]; done) | (simp [go_sem]; omega)) (h4 : b4 < W.heap.size := by first | assumption | omega | (simp [go_sem]; done) | (simp [go_sem]; omega)) (h5 : b5 < W.heap.size := by first | assumption | omega | (simp [go_sem]; done) | (simp [go_sem]; omega)) (h6 : b6 < W.heap.size := by first | assumption | omega | (simp [go_sem]; done) | (simp [go_sem]; omega)) (h7 : b7 < W.heap.size := by first | assumption | omega | (simp [go_sem]; done) | (simp [go_sem]; omega)) : KB8 b0 b1 b2 b3 b4 b5 b6 b7 w W W.drew :=
  ⟨h.out.drew, ⟨h0, h1, h2, h3, h4, h5, h6, h7⟩, ⟨fun _ => rfl, fun _ => rfl, fun _ => rfl, fun _ => rfl, fun _ => rfl, fun _ => rfl, fun _ => rfl, fun _ => rfl⟩⟩
theorem KB8.up {b0 b1 b2 b3 b4 b5 b6 b7 : Nat} {w W w1 w2 : World} (h : KB8 b0 b1 b2 b3 b4 b5 b6 b7 w W w1) (u : Up w1 w2) : KB8 b0 b1 b2 b3 b4 b5 b6 b7 w W w2 :=
  have z := u.size
  have s := h.2.1
  ⟨h.1.trans u, ⟨(by omega), (by omega), (by omega), (by omega), (by omega), (by omega), (by omega), (by omega)⟩, ⟨fun o => (u.cells.1 _ o s.1).trans (h.2.2.1 o), fun o => (u.cells.1 _ o s.2.1).trans (h.2.2.2.1 o), fun o => (u.cells.1 _ o s.2.2.1).trans (h.2.2.2.2.1 o), fun o => (u.cells.1 _ o s.2.2.2.1).trans (h.2.2.2.2.2.1 o), fun o => (u.cells.1 _ o s.2.2.2.2.1).trans (h.2.2.2.2.2.2.1 o), fun o => (u.cells.1 _ o s.2.2.2.2.2.1).trans (h.2.2.2.2.2.2.2.1 o), fun o => (u.cells.1 _ o s.2.2.2.2.2.2.1).trans (h.2.2.2.2.2.2.2.2.1 o), fun o => (u.cells.1 _ o s.2.2.2.2.2.2.2).trans (h.2.2.2.2.2.2.2.2.2 o)⟩⟩
theorem KB8.next {b0 b1 b2 b3 b4 b5 b6 b7 : Nat} {w W w1 w2 : World} (u : Up w1 w2) (h : KB8 b0 b1 b2 b3 b4 b5 b6 b7 w W w1) : KB8 b0 b1 b2 b3 b4 b5 b6 b7 w W w2 := h.up u
theorem KB8.to {b0 b1 b2 b3 b4 b5 b6 b7 : Nat} {w W w1 : World} (h : KB8 b0 b1 b2 b3 b4 b5 b6 b7 w W w1) : Up w w1 := h.1
theorem hold1 {W w2 : World} (w : World) (b0 : Nat) (u : Up W w2) (hW : Up w W := by (repeat (first | (with_reducible exact Up.refl _) | (with_reducible assumption) | (with_reducible exact Hid.out (by assumption)) | (with_reducible refine Up.alloc ?_ _ _) | (with_reducible refine Up.setCell ?_ ?_ _) | (with_reducible refine Up.drewN ?_ _) | (with_reducible refine Up.drew ?_))); all_goals (first | (simp; done) | (simp; omega) | omega)) (h0 : b0 < W.heap.size := by first | assumption | omega | (simp [go_sem]; done) | (simp [go_sem]; omega)) :
    Hid (Up w w2) ∧ ((∀ o, w2.cell? ⟨b0, o, none⟩ = W.cell? ⟨b0, o, none⟩)) ∧ b0 < w2.heap.size :=
  have z := u.size
  ⟨Lib.hid (hW.trans u), fun o => u.cells.1 _ o h0, (by omega)⟩
theorem hold2 {W w2 : World} (w : World) (b0 b1 : Nat) (u : Up W w2) (hW : Up w W := by (repeat (first | (with_reducible exact Up.refl _) | (with_reducible assumption) | (with_reducible exact Hid.out (by assumption)) | (with_reducible refine Up.alloc ?_ _ _) | (with_reducible refine Up.setCell ?_ ?_ _) | (with_reducible refine Up.drewN ?_ _) | (with_reducible refine Up.drew ?_))); all_goals (first | (simp; done) | (simp; omega) | omega)) (h0 : b0 < W.heap.size := by first | assumption | omega | (simp [go_sem]; done) | (simp [go_sem]; omega)) (h1 : b1 < W.heap.size := by first | assumption | omega | (simp [go_sem]; done) | (simp [go_sem]; omega)) :
    Hid (Up w w2) ∧ ((∀ o, w2.cell? ⟨b0, o, none⟩ = W.cell? ⟨b0, o, none⟩) ∧ (∀ o, w2.cell? ⟨b1, o, none⟩ = W.cell? ⟨b1, o, none⟩)) ∧ b0 < w2.heap.size ∧ b1 < w2.heap.size :=
  have z := u.size
  ⟨Lib.hid (hW.trans u), ⟨fun o => u.cells.1 _ o h0, fun o => u.cells.1 _ o h1⟩, ⟨(by omega), (by omega)⟩⟩
theorem hold3 {W w2 : World} (w : World) (b0 b1 b2 : Nat) (u : Up W w2) (hW : Up w W := by (repeat (first | (with_reducible exact Up.refl _) | (with_reducible assumption) | (with_reducible exact Hid.out (by assumption)) | (with_reducible refine Up.alloc ?_ _ _) | (with_reducible refine Up.setCell ?_ ?_ _) | (with_reducible refine Up.drewN ?_ _) | (with_reducible refine Up.drew ?_))); all_goals (first | (simp; done) | (simp; omega) | omega)) (h0 : b0 < W.heap.size := by first | assumption | omega | (simp [go_sem]; done) | (simp [go_sem]; omega)) (h1 : b1 < W.heap.size := by first | assumption | omega | (simp [go_sem]; done) | (simp [go_sem]; omega)) (h2 : b2 < W.heap.size := by first | assumption | omega | (simp [go_sem]; done) | (simp [go_sem]; omega)) :
    Hid (Up w w2) ∧ ((∀ o, w2.cell? ⟨b0, o, none⟩ = W.cell? ⟨b0, o, none⟩) ∧ (∀ o, w2.cell? ⟨b1, o, none⟩ = W.cell? ⟨b1, o, none⟩) ∧ (∀ o, w2.cell? ⟨b2, o, none⟩ = W.cell? ⟨b2, o, none⟩)) ∧ b0 < w2.heap.size ∧ b1 < w2.heap.size ∧ b2 < w2.heap.size :=
  have z := u.size
  ⟨Lib.hid (hW.trans u), ⟨fun o => u.cells.1 _ o h0, fun o => u.cells.1 _ o h1, fun o => u.cells.1 _ o h2⟩, ⟨(by omega), (by omega), (by omega)⟩⟩
theorem Up.of_eq {a b : World} (h : b = a) : Up a b := by rw [h]; exact Up.refl _
end Go.Proofs.Ytfcknhpllhkpeaa
