/- Texts of these claims, one after the other. -/
import Derived.Test.YtafkoddgefcpnabRows
import Derived.Test.YtafkoddgefcpnabZHSameq36
namespace Go.Proofs.Ytafkoddgefcpnab
open Go.RowKit
set_option linter.unusedVariables false

/-- An address that was not there before. -/
def Nw (w : World) (A : Option Addr) : Prop := ∀ b o, A = some ⟨b, o, none⟩ → w.heap.size ≤ b
theorem Nw.up {w w1 : World} {A : Option Addr} (h : Nw w1 A) (hu : Up w w1) : Nw w A := fun b o e => Nat.le_trans hu.size (h b o e)
end Go.Proofs.Ytafkoddgefcpnab

namespace Go.Proofs.Ytafkoddgefcpnab
open Go.RowKit
set_option linter.unusedVariables false

/-- Blocks above p. -/
def Ab (p : Nat) (A : Option Addr) : Prop := ∀ b o, A = some ⟨b, o, none⟩ → p < b
theorem Own.lt {w0 w : World} {A : Option Addr} {n k : Nat} {L : List It} (h : Own w0 w (.slice A n k) n L) : ∀ b o, A = some ⟨b, o, none⟩ → b < w.heap.size := Rw.lt (cs := fl L) h
end Go.Proofs.Ytafkoddgefcpnab

namespace Go.Proofs.Ytafkoddgefcpnab
open Go.RowKit
set_option linter.unusedVariables false

/-- The cells of a list of elements. -/
def flG {α : Type} (f : α → List Value) : List α → List Value
  | [] => []
  | x :: L => f x ++ flG f L
section
variable {α : Type} {f : α → List Value} {s : Nat}
theorem flG_len (hf : ∀ x, (f x).length = s) (L : List α) : (flG f L).length = L.length * s := by
  induction L with
  | nil => simp [flG]
  | cons x L ih => rw [flG, List.length_append, ih, hf, List.length_cons, Nat.add_mul]; omega
theorem flG_drop (hf : ∀ x, (f x).length = s) (L : List α) : ∀ k, (flG f L).drop (k * s) = flG f (L.drop k) := by
  induction L with
  | nil => intro k; simp [flG]
  | cons x L ih =>
    intro k
    cases k with
    | zero => simp
    | succ k =>
      rw [flG, List.drop_append, List.drop_eq_nil_of_le (by rw [hf, Nat.add_mul]; omega), hf, List.nil_append, show (k + 1) * s - s = k * s by rw [Nat.add_mul]; omega, ih]
      rfl
theorem flG_get (hf : ∀ x, (f x).length = s) {L : List α} {k i : Nat} (d : α) (h : k < L.length) (hi : i < s) : (flG f L)[k * s + i]? = (f (L.getD k d))[i]? := by
  have e := flG_drop hf L k
  rw [← List.getElem?_drop, e]
  have : L.drop k = L.getD k d :: L.drop (k + 1) := by
    rw [List.drop_eq_getElem_cons h]; simp [List.getD, h]
  rw [this, flG, List.getElem?_append_left (by rw [hf]; exact hi)]
/-- A slice that reads as the list L. -/
def SG (f : α → List Value) (w : World) (A : Option Addr) (n : Nat) (L : List α) : Prop :=
  L.length = n ∧ (0 < n → ∃ b o, A = some ⟨b, o, none⟩ ∧ ∀ j u, (flG f L)[j]? = some u → w.cell? ⟨b, o + j, none⟩ = some u)
variable {w w' : World} {A : Option Addr} {n : Nat} {L : List α}
theorem SG.at_ (h : SG f w A n L) (hf : ∀ x, (f x).length = s) (d : α) {k : Nat} (hk : k < n) :
    ∃ b o, A = some ⟨b, o, none⟩ ∧ ∀ i u, i < s → (f (L.getD k d))[i]? = some u → w.cell? ⟨b, o + k * s + i, none⟩ = some u := by
  obtain ⟨b, o, e, hc⟩ := h.2 (by omega)
  refine ⟨b, o, e, fun i u hi hu => ?_⟩
  rw [Nat.add_assoc]
  exact hc _ u (by rw [flG_get hf d (by rw [h.1]; exact hk) hi]; exact hu)
theorem SG.up (h : SG f w A n L) (hu : Up w w') : SG f w' A n L :=
  ⟨h.1, fun hn => by
    obtain ⟨b, o, e, hc⟩ := h.2 hn
    exact ⟨b, o, e, fun j u hj => hu.keep _ _ _ (hc j u hj)⟩⟩
theorem SG.out (hs : 0 < s) (hf : ∀ x, (f x).length = s) (h : SG f w A n L) (hn : 0 < n) : ∃ b o, A = some ⟨b, o, none⟩ ∧ b < w.heap.size := by
  obtain ⟨b, o, e, hc⟩ := h.2 hn
  have hl : 0 < (flG f L).length := by rw [flG_len hf, h.1]; exact Nat.mul_pos hn hs
  obtain ⟨u, hu⟩ : ∃ u, (flG f L)[0]? = some u := ⟨_, List.getElem?_eq_getElem hl⟩
  exact ⟨b, o, e, World.block_lt_of_cell? _ _ (hc 0 u hu)⟩
/-- A row of the call's own that holds L. -/
def OG (f : α → List Value) (e : TypeId) (s : Nat) (w0 w : World) (v : Value) (n : Nat) (L : List α) : Prop := L.length = n ∧ Rw w0 w e s v n (flG f L)
theorem OG.nil (e : TypeId) (w0 w : World) : OG f e s w0 w (.slice none 0 0) 0 ([] : List α) := ⟨rfl, Rw.nil _ _ _ _⟩
theorem OG.lt {e : TypeId} {w0 : World} {c : Nat} (h : OG f e s w0 w (.slice A n c) n L) : ∀ b o, A = some ⟨b, o, none⟩ → b < w.heap.size := Rw.lt h.2
end
end Go.Proofs.Ytafkoddgefcpnab

namespace Go.Proofs.Ytafkoddgefcpnab
open Go.RowKit
set_option linter.unusedVariables false

theorem Up.set7 {w0 w : World} {p : Nat} {v0 v1 v2 v3 v4 v5 v6 : Value} (h : Up w0 w) (hp : w0.heap.size ≤ p) : Up w0 (((((((w.setCell ⟨p, 0, none⟩ v0).setCell ⟨p, 1, none⟩ v1).setCell ⟨p, 2, none⟩ v2).setCell ⟨p, 3, none⟩ v3).setCell ⟨p, 4, none⟩ v4).setCell ⟨p, 5, none⟩ v5).setCell ⟨p, 6, none⟩ v6) :=
  ((((((h.setCell hp _).setCell hp _).setCell hp _).setCell hp _).setCell hp _).setCell hp _).setCell hp _
theorem keepK7 {w w1 w2 : World} {b0 o0 b1 o1 b2 o2 b3 o3 b4 o4 b5 o5 b6 o6 : Nat} {x0 x1 x2 x3 x4 x5 x6 : Value} (hu : Hid (Up w1 w2)) (h : Up w w1 ∧ w1.cell? ⟨b0, o0, none⟩ = some x0 ∧ w1.cell? ⟨b1, o1, none⟩ = some x1 ∧ w1.cell? ⟨b2, o2, none⟩ = some x2 ∧ w1.cell? ⟨b3, o3, none⟩ = some x3 ∧ w1.cell? ⟨b4, o4, none⟩ = some x4 ∧ w1.cell? ⟨b5, o5, none⟩ = some x5 ∧ w1.cell? ⟨b6, o6, none⟩ = some x6) : Up w w2 ∧ w2.cell? ⟨b0, o0, none⟩ = some x0 ∧ w2.cell? ⟨b1, o1, none⟩ = some x1 ∧ w2.cell? ⟨b2, o2, none⟩ = some x2 ∧ w2.cell? ⟨b3, o3, none⟩ = some x3 ∧ w2.cell? ⟨b4, o4, none⟩ = some x4 ∧ w2.cell? ⟨b5, o5, none⟩ = some x5 ∧ w2.cell? ⟨b6, o6, none⟩ = some x6 :=
  ⟨h.1.trans hu.out, hu.out.keep _ _ _ h.2.1, hu.out.keep _ _ _ h.2.2.1, hu.out.keep _ _ _ h.2.2.2.1, hu.out.keep _ _ _ h.2.2.2.2.1, hu.out.keep _ _ _ h.2.2.2.2.2.1, hu.out.keep _ _ _ h.2.2.2.2.2.2.1, hu.out.keep _ _ _ h.2.2.2.2.2.2.2⟩
theorem keepK14 {w w1 w2 : World} {b0 o0 b1 o1 b2 o2 b3 o3 b4 o4 b5 o5 b6 o6 b7 o7 b8 o8 b9 o9 b10 o10 b11 o11 b12 o12 b13 o13 : Nat} {x0 x1 x2 x3 x4 x5 x6 x7 x8 x9 x10 x11 x12 x13 : Value} (hu : Hid (Up w1 w2)) (h : Up w w1 ∧ w1.cell? ⟨b0, o0, none⟩ = some x0 ∧ w1.cell? ⟨b1, o1, none⟩ = some x1 ∧ w1.cell? ⟨b2, o2, none⟩ = some x2 ∧ w1.cell? ⟨b3, o3, none⟩ = some x3 ∧ w1.cell? ⟨b4, o4, none⟩ = some x4 ∧ w1.cell? ⟨b5, o5, none⟩ = some x5 ∧ w1.cell? ⟨b6, o6, none⟩ = some x6 ∧ w1.cell? ⟨b7, o7, none⟩ = some x7 ∧ w1.cell? ⟨b8, o8, none⟩ = some x8 ∧ w1.cell? ⟨b9, o9, none⟩ = some x9 ∧ w1.cell? ⟨b10, o10, none⟩ = some x10 ∧ w1.cell? ⟨b11, o11, none⟩ = some x11 ∧ w1.cell? ⟨b12, o12, none⟩ = some x12 ∧ w1.cell? ⟨b13, o13, none⟩ = some x13) : Up w w2 ∧ w2.cell? ⟨b0, o0, none⟩ = some x0 ∧ w2.cell? ⟨b1, o1, none⟩ = some x1 ∧ w2.cell? ⟨b2, o2, none⟩ = some x2 ∧ w2.cell? ⟨b3, o3, none⟩ = some x3 ∧ w2.cell? ⟨b4, o4, none⟩ = some x4 ∧ w2.cell? ⟨b5, o5, none⟩ = some x5 ∧ w2.cell? ⟨b6, o6, none⟩ = some x6 ∧ w2.cell? ⟨b7, o7, none⟩ = some x7 ∧ w2.cell? ⟨b8, o8, none⟩ = some x8 ∧ w2.cell? ⟨b9, o9, none⟩ = some x9 ∧ w2.cell? ⟨b10, o10, none⟩ = some x10 ∧ w2.cell? ⟨b11, o11, none⟩ = some x11 ∧ w2.cell? ⟨b12, o12, none⟩ = some x12 ∧ w2.cell? ⟨b13, o13, none⟩ = some x13 :=
  ⟨h.1.trans hu.out, hu.out.keep _ _ _ h.2.1, hu.out.keep _ _ _ h.2.2.1, hu.out.keep _ _ _ h.2.2.2.1, hu.out.keep _ _ _ h.2.2.2.2.1, hu.out.keep _ _ _ h.2.2.2.2.2.1, hu.out.keep _ _ _ h.2.2.2.2.2.2.1, hu.out.keep _ _ _ h.2.2.2.2.2.2.2.1, hu.out.keep _ _ _ h.2.2.2.2.2.2.2.2.1, hu.out.keep _ _ _ h.2.2.2.2.2.2.2.2.2.1, hu.out.keep _ _ _ h.2.2.2.2.2.2.2.2.2.2.1, hu.out.keep _ _ _ h.2.2.2.2.2.2.2.2.2.2.2.1, hu.out.keep _ _ _ h.2.2.2.2.2.2.2.2.2.2.2.2.1, hu.out.keep _ _ _ h.2.2.2.2.2.2.2.2.2.2.2.2.2.1, hu.out.keep _ _ _ h.2.2.2.2.2.2.2.2.2.2.2.2.2.2⟩
end Go.Proofs.Ytafkoddgefcpnab

namespace Go.Proofs.Ytafkoddgefcpnab
open Go.RowKit
set_option linter.unusedVariables false

def mostZ (g k c : Int) : Int := if agB g = true ∧ (1 ≤ k ∧ k ≤ 64) ∧ (1 ≤ c ∧ c ≤ 65536) then 2 * k * bitsZ (topG g c) + 2 else 0
end Go.Proofs.Ytafkoddgefcpnab
