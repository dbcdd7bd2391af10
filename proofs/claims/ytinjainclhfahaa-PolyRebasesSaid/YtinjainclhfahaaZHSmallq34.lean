/- Texts of these claims, one after the other. -/
import Derived.Test.YtinjainclhfahaaRows
import Derived.Test.YtinjainclhfahaaZGBaseq12
import Derived.Test.YtinjainclhfahaaZWMulMq47
namespace Go.Proofs.Ytinjainclhfahaa
open Go.RowKit

def kB (k : Int) : Bool := decide (1 ≤ k ∧ k ≤ 128)
def levB (l : Int) : Bool := decide (0 ≤ l ∧ l ≤ 30)
theorem kB_true {k : Int} (h : kB k = true) : 1 ≤ k ∧ k ≤ 128 := of_decide_eq_true h
theorem levB_true {k : Int} (h : levB k = true) : 0 ≤ k ∧ k ≤ 30 := of_decide_eq_true h
end Go.Proofs.Ytinjainclhfahaa

namespace Go.Proofs.Ytinjainclhfahaa
open Go.RowKit

/-- No element lies in the cells from place i on. -/
def zf (c h : Nat) (L : List It) (i : Nat) : Bool := decide (∀ k, k < c → i ≤ k → L.getD ((h + k) % c) (0, 0) = (0, 0))
end Go.Proofs.Ytinjainclhfahaa

namespace Go.Proofs.Ytinjainclhfahaa
open Go.RowKit

/-- A region that writes one item of block g at its end: what holds at every time. -/
structure Ph (w W : World) (p g m : Nat) (L : List It) : Prop where
  wr : Wr w W p g
  bi : ∃ y, Bi W g (L.set m y)
theorem Ph.start {w : World} {p g m : Nat} {L : List It} (hb : Bi w g L) (hm : m < L.length) : Ph w w p g m L :=
  ⟨Wr.refl _ _ _, L.getD m (0, 0), by rw [show L.set m (L.getD m (0, 0)) = L by simp [List.getD, hm]]; exact hb⟩
theorem Ph.keep {w W W' : World} {p g m : Nat} {L : List It} (h : Ph w W p g m L) (hu : Up W W') : Ph w W' p g m L :=
  ⟨h.wr.then hu, h.bi.choose, h.bi.choose_spec.up hu⟩
theorem Ph.at_ {w W : World} {p g m : Nat} {L : List It} (h : Ph w W p g m L) (hm : m < L.length) : ∃ q0 q1, W.cell? ⟨g, m * 2, none⟩ = some (.int .i64 q0) ∧ W.cell? ⟨g, m * 2 + 1, none⟩ = some (.int .i64 q1) := by
  obtain ⟨y, hy⟩ := h.bi
  obtain ⟨h1, h2⟩ := hy.at_ (k := m) (by simpa using hm)
  exact ⟨_, _, h1, h2⟩
theorem Ph.put {w W : World} {p g m : Nat} {L : List It} (h : Ph w W p g m L) (a b : Int) : Bi ((W.setCell ⟨g, m * 2, none⟩ (.int .i64 a)).setCell ⟨g, m * 2 + 1, none⟩ (.int .i64 b)) g (L.set m (a, b)) := by
  obtain ⟨y, hy⟩ := h.bi
  have := hy.set_ m a b
  rwa [List.set_set] at this
theorem Ph.set {w W : World} {p g m : Nat} {L : List It} (h : Ph w W p g m L) (a b : Int) : Ph w ((W.setCell ⟨g, m * 2, none⟩ (.int .i64 a)).setCell ⟨g, m * 2 + 1, none⟩ (.int .i64 b)) p g m L :=
  ⟨(h.wr.setG _ _).setG _ _, (a, b), h.put a b⟩
theorem Bi.drew {w : World} {g : Nat} {L : List It} (h : Bi w g L) : Bi w.drew g L := h
end Go.Proofs.Ytinjainclhfahaa

namespace Go.Proofs.Ytinjainclhfahaa
open Go.RowKit

theorem Own.off {w0 w : World} {A : Option Addr} {n c p : Nat} {L : List It} (h : Own w0 w (.slice A n c) n L) (hp : p < w0.heap.size) : ∀ b o, A = some ⟨b, o, none⟩ → b ≠ p := by
  intro b o e
  rcases h.2 with ⟨h1, _⟩ | ⟨g, cap, cur, h1, h2, _⟩
  · injection h1 with h1; rw [h1] at e; cases e
  · injection h1 with h1
    rw [h1] at e
    injection e with e
    injection e with e1 e2
    omega
end Go.Proofs.Ytinjainclhfahaa

namespace Go.Proofs.Ytinjainclhfahaa

/-- Neighbours ascend, by at most the factor g. -/
def ngB (g : Int) (X : List Int) : Bool := (List.range (X.length - 1)).all (fun j => decide (X.getD j 0 ≤ X.getD (j + 1) 0 ∧ X.getD (j + 1) 0 ≤ X.getD j 0 * g))
theorem ngB_iff {g : Int} {X : List Int} : ngB g X = true ↔ ∀ j, j + 1 < X.length → X.getD j 0 ≤ X.getD (j + 1) 0 ∧ X.getD (j + 1) 0 ≤ X.getD j 0 * g := by
  unfold ngB
  rw [List.all_eq_true]
  constructor
  · intro h j hj
    exact of_decide_eq_true (h j (List.mem_range.2 (by omega)))
  · intro h j hj
    exact decide_eq_true (h j (by have := List.mem_range.1 hj; omega))
/-- A list by its places. -/
def byL (n : Nat) (f : Nat → Int) : List Int := (List.range n).map f
theorem byL_len (n : Nat) (f : Nat → Int) : (byL n f).length = n := by unfold byL; rw [List.length_map, List.length_range]
theorem byL_at {n j : Nat} {f : Nat → Int} (h : j < n) : (byL n f).getD j 0 = f j := by
  unfold byL
  rw [List.getD_eq_getElem?_getD, List.getElem?_map, List.getElem?_range h]; rfl
theorem byL_ext {n : Nat} {f g : Nat → Int} (h : ∀ j, j < n → f j = g j) : byL n f = byL n g := by
  unfold byL
  exact List.map_congr_left (fun j hj => h j (List.mem_range.1 hj))
theorem byL_of {X : List Int} : byL X.length (fun j => X.getD j 0) = X := by
  apply List.ext_getElem
  · rw [byL_len]
  · intro i h1 h2
    have := byL_at (f := fun j => X.getD j 0) h2
    rw [List.getD_eq_getElem?_getD, List.getElem?_eq_getElem h1] at this
    simp only [Option.getD_some] at this
    rw [this, List.getD_eq_getElem?_getD, List.getElem?_eq_getElem h2]; rfl
/-- Parameters and states. -/
def okP (p land now : Int) : Bool := decide ((0 ≤ p ∧ p ≤ 4) ∧ (0 ≤ now ∧ now ≤ 16777216) ∧ (0 ≤ land ∧ land ≤ now))
def stP (p land now : Int) (X : List Int) : Bool := okP p land now && (decide ((X.length : Int) = p + 1) && ngB (now - land + 1) X)
theorem stP_true {p land now : Int} {X : List Int} (h : stP p land now X = true) : ((0 ≤ p ∧ p ≤ 4) ∧ (0 ≤ now ∧ now ≤ 16777216) ∧ (0 ≤ land ∧ land ≤ now)) ∧ (X.length : Int) = p + 1 ∧ ngB (now - land + 1) X = true := by
  unfold stP okP at h
  simp only [Bool.and_eq_true, decide_eq_true_eq] at h
  exact ⟨h.1, h.2.1, h.2.2⟩
/-- What Add makes of the moments. -/
def adP (a v : Int) (X : List Int) : List Int := byL X.length (fun j => X.getD j 0 + v * a ^ j)
/-- Sums of two lists of moments. -/
def plP (X Y : List Int) : List Int := byL X.length (fun j => X.getD j 0 + Y.getD j 0)
end Go.Proofs.Ytinjainclhfahaa

namespace Go.Proofs.Ytinjainclhfahaa

/-- Binomial coefficients. -/
def chZ : Nat → Nat → Int
  | _, 0 => 1
  | 0, _ + 1 => 0
  | n + 1, k + 1 => chZ n k + chZ n (k + 1)
theorem chZ_nn : ∀ n k : Nat, 0 ≤ chZ n k := by
  intro n
  induction n with
  | zero => intro k; cases k <;> simp [chZ]
  | succ n ih =>
    intro k
    cases k with
    | zero => simp [chZ]
    | succ k => show 0 ≤ chZ n k + chZ n (k + 1); have := ih k; have := ih (k + 1); omega
/-- The first n terms of a rebased moment. -/
def reS (d : Int) (X : List Int) (j : Nat) : Nat → Int
  | 0 => 0
  | n + 1 => reS d X j n + d ^ (j - n) * chZ j n * X.getD n 0
def reP (d : Int) (X : List Int) : List Int := byL X.length (fun j => reS d X j (j + 1))
theorem reS_up {d : Int} {X : List Int} (hd : 0 ≤ d) (hX : ∀ x ∈ X, 0 ≤ x) (j n : Nat) : 0 ≤ d ^ (j - n) * chZ j n * X.getD n 0 := by
  have h1 : 0 ≤ d ^ (j - n) := Int.pow_nonneg hd
  have h2 : 0 ≤ X.getD n 0 := by
    by_cases h : n < X.length
    · rw [List.getD_eq_getElem?_getD, List.getElem?_eq_getElem h]; exact hX _ (List.getElem_mem h)
    · rw [List.getD_eq_getElem?_getD, List.getElem?_eq_none (by omega)]; exact Int.le_refl 0
  exact Int.mul_nonneg (Int.mul_nonneg h1 (chZ_nn j n)) h2
theorem reS_mono {d : Int} {X : List Int} (hd : 0 ≤ d) (hX : ∀ x ∈ X, 0 ≤ x) (j : Nat) : ∀ {m n : Nat}, m ≤ n → reS d X j m ≤ reS d X j n := by
  intro m n h
  induction n with
  | zero => rw [show m = 0 by omega]; exact Int.le_refl _
  | succ n ih =>
    by_cases e : m = n + 1
    · subst e; exact Int.le_refl _
    · have h1 := ih (by omega)
      have h2 := reS_up hd hX j n
      show reS d X j m ≤ reS d X j n + d ^ (j - n) * chZ j n * X.getD n 0
      omega
end Go.Proofs.Ytinjainclhfahaa

namespace Go.Proofs.Ytinjainclhfahaa

theorem byL_push (n : Nat) (f : Nat → Int) : byL (n + 1) f = byL n f ++ [f n] := by
  unfold byL; rw [List.range_succ, List.map_append]; rfl
end Go.Proofs.Ytinjainclhfahaa

namespace Go.Proofs.Ytinjainclhfahaa
open Go.RowKit

theorem call2 {W w2 : World} (w : World) (u : Up W w2) (hW : Up w W := by (repeat (first | (with_reducible exact Up.refl _) | (with_reducible assumption) | (with_reducible exact Hid.out (by assumption)) | (with_reducible refine Up.alloc ?_ _ _) | (with_reducible refine Up.setCell ?_ ?_ _) | (with_reducible refine Up.drewN ?_ _) | (with_reducible refine Up.drew ?_))); all_goals (first | (simp; done) | (simp; omega) | omega))
    (hs : w.heap.size + 2 ≤ W.heap.size := by first | (simp [go_sem]; done) | (simp [go_sem]; omega) | omega) :
    Hid (Up w w2) ∧ ((∀ o, w2.cell? ⟨w.heap.size, o, none⟩ = W.cell? ⟨w.heap.size, o, none⟩) ∧ (∀ o, w2.cell? ⟨w.heap.size + 1, o, none⟩ = W.cell? ⟨w.heap.size + 1, o, none⟩)) ∧ (w.heap.size < w2.heap.size ∧ w.heap.size + 1 < w2.heap.size) ∧ (∀ o, w2.frozen? ⟨w.heap.size, o, none⟩ = false) ∧ (∀ o, w2.frozen? ⟨w.heap.size + 1, o, none⟩ = false) :=
  have z := u.size
  have U2 := hW.trans u
  ⟨Lib.hid U2, ⟨fun o => u.cells.1 _ o (by omega), fun o => u.cells.1 _ o (by omega)⟩, ⟨by omega, by omega⟩, ⟨fun o => U2.ownGe (by omega) o, fun o => U2.ownGe (by omega) o⟩⟩
abbrev KB1 (b0 : Nat) (w W w' : World) : Prop := Up w w' ∧ (b0 < w'.heap.size) ∧ (∀ o, w'.cell? ⟨b0, o, none⟩ = W.cell? ⟨b0, o, none⟩)
theorem KB1.start {b0 : Nat} {w W : World} (h : Hid (Up w W)) (h0 : b0 < W.heap.size := by first | assumption | omega | (simp [go_sem]; done) | (simp [go_sem]; omega)) : KB1 b0 w W W.drew :=
  ⟨h.out.drew, h0, fun _ => rfl⟩
theorem KB1.up {b0 : Nat} {w W w1 w2 : World} (h : KB1 b0 w W w1) (u : Up w1 w2) : KB1 b0 w W w2 :=
  have z := u.size
  have s := h.2.1
  ⟨h.1.trans u, (by omega), fun o => (u.cells.1 _ o s).trans (h.2.2 o)⟩
theorem KB1.next {b0 : Nat} {w W w1 w2 : World} (u : Up w1 w2) (h : KB1 b0 w W w1) : KB1 b0 w W w2 := h.up u
theorem KB1.to {b0 : Nat} {w W w1 : World} (h : KB1 b0 w W w1) : Up w w1 := h.1
theorem KB1.set {b0 p q : Nat} {w W w1 : World} {v : Value} (h : KB1 b0 w W w1) (hp : w.heap.size ≤ p := by omega) (n0 : p ≠ b0 := by omega) : KB1 b0 w W (w1.setCell ⟨p, q, none⟩ v) :=
  ⟨h.1.setCell hp _, by rw [size_set]; exact h.2.1, fun o => (cell_far n0).trans (h.2.2 o)⟩
abbrev KB2 (b0 b1 : Nat) (w W w' : World) : Prop := Up w w' ∧ (b0 < w'.heap.size ∧ b1 < w'.heap.size) ∧ (∀ o, w'.cell? ⟨b0, o, none⟩ = W.cell? ⟨b0, o, none⟩) ∧ (∀ o, w'.cell? ⟨b1, o, none⟩ = W.cell? ⟨b1, o, none⟩)
theorem KB2.start {b0 b1 : Nat} {w W : World} (h : Hid (Up w W)) (h0 : b0 < W.heap.size := by first | assumption | omega | (simp [go_sem]; done) | (simp [go_sem]; omega)) (h1 : b1 < W.heap.size := by first | assumption | omega | (simp [go_sem]; done) | (simp [go_sem]; omega)) : KB2 b0 b1 w W W.drew :=
  ⟨h.out.drew, ⟨h0, h1⟩, ⟨fun _ => rfl, fun _ => rfl⟩⟩
theorem KB2.up {b0 b1 : Nat} {w W w1 w2 : World} (h : KB2 b0 b1 w W w1) (u : Up w1 w2) : KB2 b0 b1 w W w2 :=
  have z := u.size
  have s := h.2.1
  ⟨h.1.trans u, ⟨(by omega), (by omega)⟩, ⟨fun o => (u.cells.1 _ o s.1).trans (h.2.2.1 o), fun o => (u.cells.1 _ o s.2).trans (h.2.2.2 o)⟩⟩
theorem KB2.next {b0 b1 : Nat} {w W w1 w2 : World} (u : Up w1 w2) (h : KB2 b0 b1 w W w1) : KB2 b0 b1 w W w2 := h.up u
theorem KB2.to {b0 b1 : Nat} {w W w1 : World} (h : KB2 b0 b1 w W w1) : Up w w1 := h.1
theorem KB2.set {b0 b1 p q : Nat} {w W w1 : World} {v : Value} (h : KB2 b0 b1 w W w1) (hp : w.heap.size ≤ p := by omega) (n0 : p ≠ b0 := by omega) (n1 : p ≠ b1 := by omega) : KB2 b0 b1 w W (w1.setCell ⟨p, q, none⟩ v) :=
  ⟨h.1.setCell hp _, by rw [size_set]; exact h.2.1, ⟨fun o => (cell_far n0).trans (h.2.2.1 o), fun o => (cell_far n1).trans (h.2.2.2 o)⟩⟩
abbrev KB3 (b0 b1 b2 : Nat) (w W w' : World) : Prop := Up w w' ∧ (b0 < w'.heap.size ∧ b1 < w'.heap.size ∧ b2 < w'.heap.size) ∧ (∀ o, w'.cell? ⟨b0, o, none⟩ = W.cell? ⟨b0, o, none⟩) ∧ (∀ o, w'.cell? ⟨b1, o, none⟩ = W.cell? ⟨b1, o, none⟩) ∧ (∀ o, w'.cell? ⟨b2, o, none⟩ = W.cell? ⟨b2, o, none⟩)
theorem KB3.start {b0 b1 b2 : Nat} {w W : World} (h : Hid (Up w W)) (h0 : b0 < W.heap.size := by first | assumption | omega | (simp [go_sem]; done) | (simp [go_sem]; omega)) (h1 : b1 < W.heap.size := by first | assumption | omega | (simp [go_sem]; done) | (simp [go_sem]; omega)) (h2 : b2 < W.heap.size := by first | assumption | omega | (simp [go_sem]; done) | (simp [go_sem]; omega)) : KB3 b0 b1 b2 w W W.drew :=
  ⟨h.out.drew, ⟨h0, h1, h2⟩, ⟨fun _ => rfl, fun _ => rfl, fun _ => rfl⟩⟩
theorem KB3.up {b0 b1 b2 : Nat} {w W w1 w2 : World} (h : KB3 b0 b1 b2 w W w1) (u : Up w1 w2) : KB3 b0 b1 b2 w W w2 :=
  have z := u.size
  have s := h.2.1
  ⟨h.1.trans u, ⟨(by omega), (by omega), (by omega)⟩, ⟨fun o => (u.cells.1 _ o s.1).trans (h.2.2.1 o), fun o => (u.cells.1 _ o s.2.1).trans (h.2.2.2.1 o), fun o => (u.cells.1 _ o s.2.2).trans (h.2.2.2.2 o)⟩⟩
theorem KB3.next {b0 b1 b2 : Nat} {w W w1 w2 : World} (u : Up w1 w2) (h : KB3 b0 b1 b2 w W w1) : KB3 b0 b1 b2 w W w2 := h.up u
theorem KB3.to {b0 b1 b2 : Nat} {w W w1 : World} (h : KB3 b0 b1 b2 w W w1) : Up w w1 := h.1
theorem KB3.set {b0 b1 b2 p q : Nat} {w W w1 : World} {v : Value} (h : KB3 b0 b1 b2 w W w1) (hp : w.heap.size ≤ p := by omega) (n0 : p ≠ b0 := by omega) (n1 : p ≠ b1 := by omega) (n2 : p ≠ b2 := by omega) : KB3 b0 b1 b2 w W (w1.setCell ⟨p, q, none⟩ v) :=
  ⟨h.1.setCell hp _, by rw [size_set]; exact h.2.1, ⟨fun o => (cell_far n0).trans (h.2.2.1 o), fun o => (cell_far n1).trans (h.2.2.2.1 o), fun o => (cell_far n2).trans (h.2.2.2.2 o)⟩⟩
abbrev KB4 (b0 b1 b2 b3 : Nat) (w W w' : World) : Prop := Up w w' ∧ (b0 < w'.heap.size ∧ b1 < w'.heap.size ∧ b2 < w'.heap.size ∧ b3 < w'.heap.size) ∧ (∀ o, w'.cell? ⟨b0, o, none⟩ = W.cell? ⟨b0, o, none⟩) ∧ (∀ o, w'.cell? ⟨b1, o, none⟩ = W.cell? ⟨b1, o, none⟩) ∧ (∀ o, w'.cell? ⟨b2, o, none⟩ = W.cell? ⟨b2, o, none⟩) ∧ (∀ o, w'.cell? ⟨b3, o, none⟩ = W.cell? ⟨b3, o, none⟩)
theorem KB4.start {b0 b1 b2 b3 : Nat} {w W : World} (h : Hid (Up w W)) (h0 : b0 < W.heap.size := by first | assumption | omega | (simp [go_sem]; done) | (simp [go_sem]; omega)) (h1 : b1 < W.heap.size := by first | assumption | omega | (simp [go_sem]; done) | (simp [go_sem]; omega)) (h2 : b2 < W.heap.size := by first | assumption | omega | (simp [go_sem]; done) | (simp [go_sem]; omega)) (h3 : b3 < W.heap.size := by first | assumption | omega | (simp [go_sem]; done) | (simp [go_sem]; omega)) : KB4 b0 b1 b2 b3 w W W.drew :=
  ⟨h.out.drew, ⟨h0, h1, h2, h3⟩, ⟨fun _ => rfl, fun _ => rfl, fun _ => rfl, fun _ => rfl⟩⟩
theorem KB4.up {b0 b1 b2 b3 : Nat} {w W w1 w2 : World} (h : KB4 b0 b1 b2 b3 w W w1) (u : Up w1 w2) : KB4 b0 b1 b2 b3 w W w2 :=
  have z := u.size
  have s := h.2.1
  ⟨h.1.trans u, ⟨(by omega), (by omega), (by omega), (by omega)⟩, ⟨fun o => (u.cells.1 _ o s.1).trans (h.2.2.1 o), fun o => (u.cells.1 _ o s.2.1).trans (h.2.2.2.1 o), fun o => (u.cells.1 _ o s.2.2.1).trans (h.2.2.2.2.1 o), fun o => (u.cells.1 _ o s.2.2.2).trans (h.2.2.2.2.2 o)⟩⟩
theorem KB4.next {b0 b1 b2 b3 : Nat} {w W w1 w2 : World} (u : Up w1 w2) (h : KB4 b0 b1 b2 b3 w W w1) : KB4 b0 b1 b2 b3 w W w2 := h.up u
theorem KB4.to {b0 b1 b2 b3 : Nat} {w W w1 : World} (h : KB4 b0 b1 b2 b3 w W w1) : Up w w1 := h.1
theorem KB4.set {b0 b1 b2 b3 p q : Nat} {w W w1 : World} {v : Value} (h : KB4 b0 b1 b2 b3 w W w1) (hp : w.heap.size ≤ p := by omega) (n0 : p ≠ b0 := by omega) (n1 : p ≠ b1 := by omega) (n2 : p ≠ b2 := by omega) (n3 : p ≠ b3 := by omega) : KB4 b0 b1 b2 b3 w W (w1.setCell ⟨p, q, none⟩ v) :=
  ⟨h.1.setCell hp _, by rw [size_set]; exact h.2.1, ⟨fun o => (cell_far n0).trans (h.2.2.1 o), fun o => (cell_far n1).trans (h.2.2.2.1 o), fun o => (cell_far n2).trans (h.2.2.2.2.1 o), fun o => (cell_far n3).trans (h.2.2.2.2.2 o)⟩⟩
abbrev KB5 (b0 b1 b2 b3 b4 : Nat) (w W w' : World) : Prop := Up w w' ∧ (b0 < w'.heap.size ∧ b1 < w'.heap.size ∧ b2 < w'.heap.size ∧ b3 < w'.heap.size ∧ b4 < w'.heap.size) ∧ (∀ o, w'.cell? ⟨b0, o, none⟩ = W.cell? ⟨b0, o, none⟩) ∧ (∀ o, w'.cell? ⟨b1, o, none⟩ = W.cell? ⟨b1, o, none⟩) ∧ (∀ o, w'.cell? ⟨b2, o, none⟩ = W.cell? ⟨b2, o, none⟩) ∧ (∀ o, w'.cell? ⟨b3, o, none⟩ = W.cell? ⟨b3, o, none⟩) ∧ (∀ o, w'.cell? ⟨b4, o, none⟩ = W.cell? ⟨b4, o, none⟩)
theorem KB5.start {b0 b1 b2 b3 b4 : Nat} {w W : World} (h : Hid (Up w W)) (h0 : b0 < W.heap.size := by first | assumption | omega | (simp [go_sem]; done) | (simp [go_sem]; omega)) (h1 : b1 < W.heap.size := by first | assumption | omega | (simp [go_sem]; done) | (simp [go_sem]; omega)) (h2 : b2 < W.heap.size := by first | assumption | omega | (simp [go_sem]; done) | (simp [go_sem]; omega)) (h3 : b3 < W.heap.size := by first | assumption | omega | (simp [go_sem]; done) | (simp [go_sem]; omega)) (h4 : b4 < W.heap.size := by first | assumption | omega | (simp [go_sem]; done) | (simp [go_sem]; omega)) : KB5 b0 b1 b2 b3 b4 w W W.drew :=
  ⟨h.out.drew, ⟨h0, h1, h2, h3, h4⟩, ⟨fun _ => rfl, fun _ => rfl, fun _ => rfl, fun _ => rfl, fun _ => rfl⟩⟩
theorem KB5.up {b0 b1 b2 b3 b4 : Nat} {w W w1 w2 : World} (h : KB5 b0 b1 b2 b3 b4 w W w1) (u : Up w1 w2) : KB5 b0 b1 b2 b3 b4 w W w2 :=
  have z := u.size
  have s := h.2.1
  ⟨h.1.trans u, ⟨(by omega), (by omega), (by omega), (by omega), (by omega)⟩, ⟨fun o => (u.cells.1 _ o s.1).trans (h.2.2.1 o), fun o => (u.cells.1 _ o s.2.1).trans (h.2.2.2.1 o), fun o => (u.cells.1 _ o s.2.2.1).trans (h.2.2.2.2.1 o), fun o => (u.cells.1 _ o s.2.2.2.1).trans (h.2.2.2.2.2.1 o), fun o => (u.cells.1 _ o s.2.2.2.2).trans (h.2.2.2.2.2.2 o)⟩⟩
theorem KB5.next {b0 b1 b2 b3 b4 : Nat} {w W w1 w2 : World} (u : Up w1 w2) (h : KB5 b0 b1 b2 b3 b4 w W w1) : KB5 b0 b1 b2 b3 b4 w W w2 := h.up u
theorem KB5.to {b0 b1 b2 b3 b4 : Nat} {w W w1 : World} (h : KB5 b0 b1 b2 b3 b4 w W w1) : Up w w1 := h.1
theorem KB5.set {b0 b1 b2 b3 b4 p q : Nat} {w W w1 : World} {v : Value} (h : KB5 b0 b1 b2 b3 b4 w W w1) (hp : w.heap.size ≤ p := by omega) (n0 : p ≠ b0 := by omega) (n1 : p ≠ b1 := by omega) (n2 : p ≠ b2 := by omega) (n3 : p ≠ b3 := by omega) (n4 : p ≠ b4 := by omega) : KB5 b0 b1 b2 b3 b4 w W (w1.setCell ⟨p, q, none⟩ v) :=
  ⟨h.1.setCell hp _, by rw [size_set]; exact h.2.1, ⟨fun o => (cell_far n0).trans (h.2.2.1 o), fun o => (cell_far n1).trans (h.2.2.2.1 o), fun o => (cell_far n2).trans (h.2.2.2.2.1 o), fun o => (cell_far n3).trans (h.2.2.2.2.2.1 o), fun o => (cell_far n4).trans (h.2.2.2.2.2.2 o)⟩⟩
abbrev KB6 (b0 b1 b2 b3 b4 b5 : Nat) (w W w' : World) : Prop := Up w w' ∧ (b0 < w'.heap.size ∧ b1 < w'.heap.size ∧ b2 < w'.heap.size ∧ b3 < w'.heap.size ∧ b4 < w'.heap.size ∧ b5 < w'.heap.size) ∧ (∀ o, w'.cell? ⟨b0, o, none⟩ = W.cell? ⟨b0, o, none⟩) ∧ (∀ o, w'.cell? ⟨b1, o, none⟩ = W.cell? ⟨b1, o, none⟩) ∧ (∀ o, w'.cell? ⟨b2, o, none⟩ = W.cell? ⟨b2, o, none⟩) ∧ (∀ o, w'.cell? ⟨b3, o, none⟩ = W.cell? ⟨b3, o, none⟩) ∧ (∀ o, w'.cell? ⟨b4, o, none⟩ = W.cell? ⟨b4, o, none⟩) ∧ (∀ o, w'.cell? ⟨b5, o, none⟩ = W.cell? ⟨b5, o, none⟩)
theorem KB6.start {b0 b1 b2 b3 b4 b5 : Nat} {w W : World} (h : Hid (Up w W)) (h0 : b0 < W.heap.size := by first | assumption | omega | (simp [go_sem]; done) | (simp [go_sem]; omega)) (h1 : b1 < W.heap.size := by first | assumption | omega | (simp [go_sem]; done) | (simp [go_sem]; omega)) (h2 : b2 < W.heap.size := by first | assumption | omega | (simp [go_sem]; done) | (simp [go_sem]; omega)) (h3 : b3 < W.heap.size := by first | assumption | omega | (simp [go_sem]; done) | (simp [go_sem]; omega)) (h4 : b4 < W.heap.size := by first | assumption | omega | (simp [go_sem]; done) | (simp [go_sem]; omega)) (h5 : b5 < W.heap.size := by first | assumption | omega | (simp [go_sem]; done) | (simp [go_sem]; omega)) : KB6 b0 b1 b2 b3 b4 b5 w W W.drew :=
  ⟨h.out.drew, ⟨h0, h1, h2, h3, h4, h5⟩, ⟨fun _ => rfl, fun _ => rfl, fun _ => rfl, fun _ => rfl, fun _ => rfl, fun _ => rfl⟩⟩
theorem KB6.up {b0 b1 b2 b3 b4 b5 : Nat} {w W w1 w2 : World} (h : KB6 b0 b1 b2 b3 b4 b5 w W w1) (u : Up w1 w2) : KB6 b0 b1 b2 b3 b4 b5 w W w2 :=
  have z := u.size
  have s := h.2.1
  ⟨h.1.trans u, ⟨(by omega), (by omega), (by omega), (by omega), (by omega), (by omega)⟩, ⟨fun o => (u.cells.1 _ o s.1).trans (h.2.2.1 o), fun o => (u.cells.1 _ o s.2.1).trans (h.2.2.2.1 o), fun o => (u.cells.1 _ o s.2.2.1).trans (h.2.2.2.2.1 o), fun o => (u.cells.1 _ o s.2.2.2.1).trans (h.2.2.2.2.2.1 o), fun o => (u.cells.1 _ o s.2.2.2.2.1).trans (h.2.2.2.2.2.2.1 o), fun o => (u.cells.1 _ o s.2.2.2.2.2).trans (h.2.2.2.2.2.2.2 o)⟩⟩
theorem KB6.next {b0 b1 b2 b3 b4 b5 : Nat} {w W w1 w2 : World} (u : Up w1 w2) (h : KB6 b0 b1 b2 b3 b4 b5 w W w1) : KB6 b0 b1 b2 b3 b4 b5 w W w2 := h.up u
theorem KB6.to {b0 b1 b2 b3 b4 b5 : Nat} {w W w1 : World} (h : KB6 b0 b1 b2 b3 b4 b5 w W w1) : Up w w1 := h.1
theorem KB6.set {b0 b1 b2 b3 b4 b5 p q : Nat} {w W w1 : World} {v : Value} (h : KB6 b0 b1 b2 b3 b4 b5 w W w1) (hp : w.heap.size ≤ p := by omega) (n0 : p ≠ b0 := by omega) (n1 : p ≠ b1 := by omega) (n2 : p ≠ b2 := by omega) (n3 : p ≠ b3 := by omega) (n4 : p ≠ b4 := by omega) (n5 : p ≠ b5 := by omega) : KB6 b0 b1 b2 b3 b4 b5 w W (w1.setCell ⟨p, q, none⟩ v) :=
  ⟨h.1.setCell hp _, by rw [size_set]; exact h.2.1, ⟨fun o => (cell_far n0).trans (h.2.2.1 o), fun o => (cell_far n1).trans (h.2.2.2.1 o), fun o => (cell_far n2).trans (h.2.2.2.2.1 o), fun o => (cell_far n3).trans (h.2.2.2.2.2.1 o), fun o => (cell_far n4).trans (h.2.2.2.2.2.2.1 o), fun o => (cell_far n5).trans (h.2.2.2.2.2.2.2 o)⟩⟩
abbrev KB7 (b0 b1 b2 b3 b4 b5 b6 : Nat) (w W w' : World) : Prop := Up w w' ∧ (b0 < w'.heap.size ∧ b1 < w'.heap.size ∧ b2 < w'.heap.size ∧ b3 < w'.heap.size ∧ b4 < w'.heap.size ∧ b5 < w'.heap.size ∧ b6 < w'.heap.size) ∧ (∀ o, w'.cell? ⟨b0, o, none⟩ = W.cell? ⟨b0, o, none⟩) ∧ (∀ o, w'.cell? ⟨b1, o, none⟩ = W.cell? ⟨b1, o, none⟩) ∧ (∀ o, w'.cell? ⟨b2, o, none⟩ = W.cell? ⟨b2, o, none⟩) ∧ (∀ o, w'.cell? ⟨b3, o, none⟩ = W.cell? ⟨b3, o, none⟩) ∧ (∀ o, w'.cell? ⟨b4, o, none⟩ = W.cell? ⟨b4, o, none⟩) ∧ (∀ o, w'.cell? ⟨b5, o, none⟩ = W.cell? ⟨b5, o, none⟩) ∧ (∀ o, w'.cell? ⟨b6, o, none⟩ = W.cell? ⟨b6, o, none⟩)
theorem KB7.start {b0 b1 b2 b3 b4 b5 b6 : Nat} {w W : World} (h : Hid (Up w W)) (h0 : b0 < W.heap.size := by first | assumption | omega | (simp [go_sem]; done) | (simp [go_sem]; omega)) (h1 : b1 < W.heap.size := by first | assumption | omega | (simp [go_sem]; done) | (simp [go_sem]; omega)) (h2 : b2 < W.heap.size := by first | assumption | omega | (simp [go_sem]; done) | (simp [go_sem]; omega)) (h3 : b3 < W.heap.size := by first | assumption | omega | (simp [go_sem]; done) | (simp [go_sem]; omega)) (h4 : b4 < W.heap.size := by first | assumption | omega | (simp [go_sem]; done) | (simp [go_sem]; omega)) (h5 : b5 < W.heap.size := by first | assumption | omega | (simp [go_sem]; done) | (simp [go_sem]; omega)) (h6 : b6 < W.heap.size := by first | assumption | omega | (simp [go_sem]; done) | (simp [go_sem]; omega)) : KB7 b0 b1 b2 b3 b4 b5 b6 w W W.drew :=
  ⟨h.out.drew, ⟨h0, h1, h2, h3, h4, h5, h6⟩, ⟨fun _ => rfl, fun _ => rfl, fun _ => rfl, fun _ => rfl, fun _ => rfl, fun _ => rfl, fun _ => rfl⟩⟩
theorem KB7.up {b0 b1 b2 b3 b4 b5 b6 : Nat} {w W w1 w2 : World} (h : KB7 b0 b1 b2 b3 b4 b5 b6 w W w1) (u : Up w1 w2) : KB7 b0 b1 b2 b3 b4 b5 b6 w W w2 :=
  have z := u.size
  have s := h.2.1
  ⟨h.1.trans u, ⟨(by omega), (by omega), (by omega), (by omega), (by omega), (by omega), (by omega)⟩, ⟨fun o => (u.cells.1 _ o s.1).trans (h.2.2.1 o), fun o => (u.cells.1 _ o s.2.1).trans (h.2.2.2.1 o), fun o => (u.cells.1 _ o s.2.2.1).trans (h.2.2.2.2.1 o), fun o => (u.cells.1 _ o s.2.2.2.1).trans (h.2.2.2.2.2.1 o), fun o => (u.cells.1 _ o s.2.2.2.2.1).trans (h.2.2.2.2.2.2.1 o), fun o => (u.cells.1 _ o s.2.2.2.2.2.1).trans (h.2.2.2.2.2.2.2.1 o), fun o => (u.cells.1 _ o s.2.2.2.2.2.2).trans (h.2.2.2.2.2.2.2.2 o)⟩⟩
theorem KB7.next {b0 b1 b2 b3 b4 b5 b6 : Nat} {w W w1 w2 : World} (u : Up w1 w2) (h : KB7 b0 b1 b2 b3 b4 b5 b6 w W w1) : KB7 b0 b1 b2 b3 b4 b5 b6 w W w2 := h.up u
theorem KB7.to {b0 b1 b2 b3 b4 b5 b6 : Nat} {w W w1 : World} (h : KB7 b0 b1 b2 b3 b4 b5 b6 w W w1) : Up w w1 := h.1
theorem KB7.set {b0 b1 b2 b3 b4 b5 b6 p q : Nat} {w W w1 : World} {v : Value} (h : KB7 b0 b1 b2 b3 b4 b5 b6 w W w1) (hp : w.heap.size ≤ p := by omega) (n0 : p ≠ b0 := by omega) (n1 : p ≠ b1 := by omega) (n2 : p ≠ b2 := by omega) (n3 : p ≠ b3 := by omega) (n4 : p ≠ b4 := by omega) (n5 : p ≠ b5 := by omega) (n6 : p ≠ b6 := by omega) : KB7 b0 b1 b2 b3 b4 b5 b6 w W (w1.setCell ⟨p, q, none⟩ v) :=
  ⟨h.1.setCell hp _, by rw [size_set]; exact h.2.1, ⟨fun o => (cell_far n0).trans (h.2.2.1 o), fun o => (cell_far n1).trans (h.2.2.2.1 o), fun o => (cell_far n2).trans (h.2.2.2.2.1 o), fun o => (cell_far n3).trans (h.2.2.2.2.2.1 o), fun o => (cell_far n4).trans (h.2.2.2.2.2.2.1 o), fun o => (cell_far n5).trans (h.2.2.2.2.2.2.2.1 o), fun o => (cell_far n6).trans (h.2.2.2.2.2.2.2.2 o)⟩⟩
abbrev KB8 (b0 b1 b2 b3 b4 b5 b6 b7 : Nat) (w W w' : World) : Prop := Up w w' ∧ (b0 < w'.heap.size ∧ b1 < w'.heap.size ∧ b2 < w'.heap.size ∧ b3 < w'.heap.size ∧ b4 < w'.heap.size ∧ b5 < w'.heap.size ∧ b6 < w'.heap.size ∧ b7 < w'.heap.size) ∧ (∀ o, w'.cell? ⟨b0, o, none⟩ = W.cell? ⟨b0, o, none⟩) ∧ (∀ o, w'.cell? ⟨b1, o, none⟩ = W.cell? ⟨b1, o, none⟩) ∧ (∀ o, w'.cell? ⟨b2, o, none⟩ = W.cell? ⟨b2, o, none⟩) ∧ (∀ o, w'.cell? ⟨b3, o, none⟩ = W.cell? ⟨b3, o, none⟩) ∧ (∀ o, w'.cell? ⟨b4, o, none⟩ = W.cell? ⟨b4, o, none⟩) ∧ (∀ o, w'.cell? ⟨b5, o, none⟩ = W.cell? ⟨b5, o, none⟩) ∧ (∀ o, w'.cell? ⟨b6, o, none⟩ = W.cell? ⟨b6, o, none⟩) ∧ (∀ o, w'.cell? ⟨b7, o, none⟩ = W.cell? ⟨b7, o, none⟩)
theorem KB8.start {b0 b1 b2 b3 b4 b5 b6 b7 : Nat} {w W : World} (h : Hid (Up w W)) (h0 : b0 < W.heap.size := by first | assumption | omega | (simp [go_sem]; done) | (simp [go_sem]; omega)) (h1 : b1 < W.heap.size := by first | assumption | omega | (simp [go_sem]; done) | (simp [go_sem]; omega)) (h2 : b2 < W.heap.size := by first | assumption | omega | (simp [go_sem]; done) | (simp [go_sem]; omega)) (h3 : b3 < W.heap.size := by first | assumption | omega | (simp [go_sem]; done) | (simp [go_sem]; omega)) (h4 : b4 < W.heap.size := by first | assumption | omega | (simp [go_sem]; done) | (simp [go_sem]; omega)) (h5 : b5 < W.heap.size := by first | assumption | omega | (simp [go_sem]; done) | (simp [go_sem]; omega)) (h6 : b6 < W.heap.size := by first | assumption | omega | (simp [go_sem]; done) | (simp [go_sem]; omega)) (h7 : b7 < W.heap.size := by first | assumption | omega | (simp [go_sem]; done) | (simp [go_sem]; omega)) : KB8 b0 b1 b2 b3 b4 b5 b6 b7 w W W.drew :=
  ⟨h.out.drew, ⟨h0, h1, h2, h3, h4, h5, h6, h7⟩, ⟨fun _ => rfl, fun _ => rfl, fun _ => rfl, fun _ => rfl, fun _ => rfl, fun _ => rfl, fun _ => rfl, fun _ => rfl⟩⟩
theorem KB8.up {b0 b1 b2 b3 b4 b5 b6 b7 : Nat} {w W w1 w2 : World} (h : KB8 b0 b1 b2 b3 b4 b5 b6 b7 w W w1) (u : Up w1 w2) : KB8 b0 b1 b2 b3 b4 b5 b6 b7 w W w2 :=
  have z := u.size
  have s := h.2.1
  ⟨h.1.trans u, ⟨(by omega), (by omega), (by omega), (by omega), (by omega), (by omega), (by omega), (by omega)⟩, ⟨fun o => (u.cells.1 _ o s.1).trans (h.2.2.1 o), fun o => (u.cells.1 _ o s.2.1).trans (h.2.2.2.1 o), fun o => (u.cells.1 _ o s.2.2.1).trans (h.2.2.2.2.1 o), fun o => (u.cells.1 _ o s.2.2.2.1).trans (h.2.2.2.2.2.1 o), fun o => (u.cells.1 _ o s.2.2.2.2.1).trans (h.2.2.2.2.2.2.1 o), fun o => (u.cells.1 _ o s.2.2.2.2.2.1).trans (h.2.2.2.2.2.2.2.1 o), fun o => (u.cells.1 _ o s.2.2.2.2.2.2.1).trans (h.2.2.2.2.2.2.2.2.1 o), fun o => (u.cells.1 _ o s.2.2.2.2.2.2.2).trans (h.2.2.2.2.2.2.2.2.2 o)⟩⟩
theorem KB8.next {b0 b1 b2 b3 b4 b5 b6 b7 : Nat} {w W w1 w2 : World} (u : Up w1 w2) (h : KB8 b0 b1 b2 b3 b4 b5 b6 b7 w W w1) : KB8 b0 b1 b2 b3 b4 b5 b6 b7 w W w2 := h.up u
theorem KB8.to {b0 b1 b2 b3 b4 b5 b6 b7 : Nat} {w W w1 : World} (h : KB8 b0 b1 b2 b3 b4 b5 b6 b7 w W w1) : Up w w1 := h.1
theorem KB8.set {b0 b1 b2 b3 b4 b5 b6 b7 p q : Nat} {w W w1 : World} {v : Value} (h : KB8 b0 b1 b2 b3 b4 b5 b6 b7 w W w1) (hp : w.heap.size ≤ p := by omega) (n0 : p ≠ b0 := by omega) (n1 : p ≠ b1 := by omega) (n2 : p ≠ b2 := by omega) (n3 : p ≠ b3 := by omega) (n4 : p ≠ b4 := by omega) (n5 : p ≠ b5 := by omega) (n6 : p ≠ b6 := by omega) (n7 : p ≠ b7 := by omega) : KB8 b0 b1 b2 b3 b4 b5 b6 b7 w W (w1.setCell ⟨p, q, none⟩ v) :=
  ⟨h.1.setCell hp _, by rw [size_set]; exact h.2.1, ⟨fun o => (cell_far n0).trans (h.2.2.1 o), fun o => (cell_far n1).trans (h.2.2.2.1 o), fun o => (cell_far n2).trans (h.2.2.2.2.1 o), fun o => (cell_far n3).trans (h.2.2.2.2.2.1 o), fun o => (cell_far n4).trans (h.2.2.2.2.2.2.1 o), fun o => (cell_far n5).trans (h.2.2.2.2.2.2.2.1 o), fun o => (cell_far n6).trans (h.2.2.2.2.2.2.2.2.1 o), fun o => (cell_far n7).trans (h.2.2.2.2.2.2.2.2.2 o)⟩⟩
theorem hold1 {W w2 : World} (w : World) (b0 : Nat) (u : Up W w2) (hW : Up w W := by (repeat (first | (with_reducible exact Up.refl _) | (with_reducible assumption) | (with_reducible exact Hid.out (by assumption)) | (with_reducible refine Up.alloc ?_ _ _) | (with_reducible refine Up.setCell ?_ ?_ _) | (with_reducible refine Up.drewN ?_ _) | (with_reducible refine Up.drew ?_))); all_goals (first | (simp; done) | (simp; omega) | omega)) (h0 : b0 < W.heap.size := by first | assumption | omega | (simp [go_sem]; done) | (simp [go_sem]; omega)) :
    Hid (Up w w2) ∧ ((∀ o, w2.cell? ⟨b0, o, none⟩ = W.cell? ⟨b0, o, none⟩)) ∧ b0 < w2.heap.size :=
  have z := u.size
  ⟨Lib.hid (hW.trans u), fun o => u.cells.1 _ o h0, (by omega)⟩
theorem hold2 {W w2 : World} (w : World) (b0 b1 : Nat) (u : Up W w2) (hW : Up w W := by (repeat (first | (with_reducible exact Up.refl _) | (with_reducible assumption) | (with_reducible exact Hid.out (by assumption)) | (with_reducible refine Up.alloc ?_ _ _) | (with_reducible refine Up.setCell ?_ ?_ _) | (with_reducible refine Up.drewN ?_ _) | (with_reducible refine Up.drew ?_))); all_goals (first | (simp; done) | (simp; omega) | omega)) (h0 : b0 < W.heap.size := by first | assumption | omega | (simp [go_sem]; done) | (simp [go_sem]; omega)) (h1 : b1 < W.heap.size := by first | assumption | omega | (simp [go_sem]; done) | (simp [go_sem]; omega)) :
    Hid (Up w w2) ∧ ((∀ o, w2.cell? ⟨b0, o, none⟩ = W.cell? ⟨b0, o, none⟩) ∧ (∀ o, w2.cell? ⟨b1, o, none⟩ = W.cell? ⟨b1, o, none⟩)) ∧ b0 < w2.heap.size ∧ b1 < w2.heap.size :=
  have z := u.size
  ⟨Lib.hid (hW.trans u), ⟨fun o => u.cells.1 _ o h0, fun o => u.cells.1 _ o h1⟩, ⟨(by omega), (by omega)⟩⟩
theorem Up.of_eq {a b : World} (h : b = a) : Up a b := by rw [h]; exact Up.refl _
end Go.Proofs.Ytinjainclhfahaa

namespace Go.Proofs.Ytinjainclhfahaa
open Go.RowKit

theorem hold3 {W w2 : World} (w : World) (b0 b1 b2 : Nat) (u : Up W w2) (hW : Up w W := by (repeat (first | (with_reducible exact Up.refl _) | (with_reducible assumption) | (with_reducible exact Hid.out (by assumption)) | (with_reducible refine Up.alloc ?_ _ _) | (with_reducible refine Up.setCell ?_ ?_ _) | (with_reducible refine Up.drewN ?_ _) | (with_reducible refine Up.drew ?_))); all_goals (first | (simp; done) | (simp; omega) | omega)) (h0 : b0 < W.heap.size := by first | assumption | omega | (simp [go_sem]; done) | (simp [go_sem]; omega)) (h1 : b1 < W.heap.size := by first | assumption | omega | (simp [go_sem]; done) | (simp [go_sem]; omega)) (h2 : b2 < W.heap.size := by first | assumption | omega | (simp [go_sem]; done) | (simp [go_sem]; omega)) :
    Hid (Up w w2) ∧ ((∀ o, w2.cell? ⟨b0, o, none⟩ = W.cell? ⟨b0, o, none⟩) ∧ (∀ o, w2.cell? ⟨b1, o, none⟩ = W.cell? ⟨b1, o, none⟩) ∧ (∀ o, w2.cell? ⟨b2, o, none⟩ = W.cell? ⟨b2, o, none⟩)) ∧ b0 < w2.heap.size ∧ b1 < w2.heap.size ∧ b2 < w2.heap.size :=
  have z := u.size
  ⟨Lib.hid (hW.trans u), ⟨fun o => u.cells.1 _ o h0, fun o => u.cells.1 _ o h1, fun o => u.cells.1 _ o h2⟩, ⟨(by omega), (by omega), (by omega)⟩⟩
end Go.Proofs.Ytinjainclhfahaa

namespace Go.Proofs.Ytinjainclhfahaa
open Go.RowKit

theorem call1 {W w2 : World} (w : World) (u : Up W w2) (hW : Up w W := by (repeat (first | (with_reducible exact Up.refl _) | (with_reducible assumption) | (with_reducible exact Hid.out (by assumption)) | (with_reducible refine Up.alloc ?_ _ _) | (with_reducible refine Up.setCell ?_ ?_ _) | (with_reducible refine Up.drewN ?_ _) | (with_reducible refine Up.drew ?_))); all_goals (first | (simp; done) | (simp; omega) | omega))
    (hs : w.heap.size + 1 ≤ W.heap.size := by first | (simp [go_sem]; done) | (simp [go_sem]; omega) | omega) :
    Hid (Up w w2) ∧ ((∀ o, w2.cell? ⟨w.heap.size, o, none⟩ = W.cell? ⟨w.heap.size, o, none⟩)) ∧ (w.heap.size < w2.heap.size) ∧ (∀ o, w2.frozen? ⟨w.heap.size, o, none⟩ = false) :=
  have z := u.size
  have U2 := hW.trans u
  ⟨Lib.hid U2, fun o => u.cells.1 _ o (by omega), (by omega), fun o => U2.ownGe (by omega) o⟩
theorem hold4 {W w2 : World} (w : World) (b0 b1 b2 b3 : Nat) (u : Up W w2) (hW : Up w W := by (repeat (first | (with_reducible exact Up.refl _) | (with_reducible assumption) | (with_reducible exact Hid.out (by assumption)) | (with_reducible refine Up.alloc ?_ _ _) | (with_reducible refine Up.setCell ?_ ?_ _) | (with_reducible refine Up.drewN ?_ _) | (with_reducible refine Up.drew ?_))); all_goals (first | (simp; done) | (simp; omega) | omega)) (h0 : b0 < W.heap.size := by first | assumption | omega | (simp [go_sem]; done) | (simp [go_sem]; omega)) (h1 : b1 < W.heap.size := by first | assumption | omega | (simp [go_sem]; done) | (simp [go_sem]; omega)) (h2 : b2 < W.heap.size := by first | assumption | omega | (simp [go_sem]; done) | (simp [go_sem]; omega)) (h3 : b3 < W.heap.size := by first | assumption | omega | (simp [go_sem]; done) | (simp [go_sem]; omega)) :
    Hid (Up w w2) ∧ ((∀ o, w2.cell? ⟨b0, o, none⟩ = W.cell? ⟨b0, o, none⟩) ∧ (∀ o, w2.cell? ⟨b1, o, none⟩ = W.cell? ⟨b1, o, none⟩) ∧ (∀ o, w2.cell? ⟨b2, o, none⟩ = W.cell? ⟨b2, o, none⟩) ∧ (∀ o, w2.cell? ⟨b3, o, none⟩ = W.cell? ⟨b3, o, none⟩)) ∧ b0 < w2.heap.size ∧ b1 < w2.heap.size ∧ b2 < w2.heap.size ∧ b3 < w2.heap.size :=
  have z := u.size
  ⟨Lib.hid (hW.trans u), ⟨fun o => u.cells.1 _ o h0, fun o => u.cells.1 _ o h1, fun o => u.cells.1 _ o h2, fun o => u.cells.1 _ o h3⟩, ⟨(by omega), (by omega), (by omega), (by omega)⟩⟩
theorem hold5 {W w2 : World} (w : World) (b0 b1 b2 b3 b4 : Nat) (u : Up W w2) (hW : Up w W := by (repeat (first | (with_reducible exact Up.refl _) | (with_reducible assumption) | (with_reducible exact Hid.out (by assumption)) | (with_reducible refine Up.alloc ?_ _ _) | (with_reducible refine Up.setCell ?_ ?_ _) | (with_reducible refine Up.drewN ?_ _) | (with_reducible refine Up.drew ?_))); all_goals (first | (simp; done) | (simp; omega) | omega)) (h0 : b0 < W.heap.size := by first | assumption | omega | (simp [go_sem]; done) | (simp [go_sem]; omega)) (h1 : b1 < W.heap.size := by first | assumption | omega | (simp [go_sem]; done) | (simp [go_sem]; omega)) (h2 : b2 < W.heap.size := by first | assumption | omega | (simp [go_sem]; done) | (simp [go_sem]; omega)) (h3 : b3 < W.heap.size := by first | assumption | omega | (simp [go_sem]; done) | (simp [go_sem]; omega)) (h4 : b4 < W.heap.size := by first | assumption | omega | (simp [go_sem]; done) | (simp [go_sem]; omega)) :
    Hid (Up w w2) ∧ ((∀ o, w2.cell? ⟨b0, o, none⟩ = W.cell? ⟨b0, o, none⟩) ∧ (∀ o, w2.cell? ⟨b1, o, none⟩ = W.cell? ⟨b1, o, none⟩) ∧ (∀ o, w2.cell? ⟨b2, o, none⟩ = W.cell? ⟨b2, o, none⟩) ∧ (∀ o, w2.cell? ⟨b3, o, none⟩ = W.cell? ⟨b3, o, none⟩) ∧ (∀ o, w2.cell? ⟨b4, o, none⟩ = W.cell? ⟨b4, o, none⟩)) ∧ b0 < w2.heap.size ∧ b1 < w2.heap.size ∧ b2 < w2.heap.size ∧ b3 < w2.heap.size ∧ b4 < w2.heap.size :=
  have z := u.size
  ⟨Lib.hid (hW.trans u), ⟨fun o => u.cells.1 _ o h0, fun o => u.cells.1 _ o h1, fun o => u.cells.1 _ o h2, fun o => u.cells.1 _ o h3, fun o => u.cells.1 _ o h4⟩, ⟨(by omega), (by omega), (by omega), (by omega), (by omega)⟩⟩
end Go.Proofs.Ytinjainclhfahaa
