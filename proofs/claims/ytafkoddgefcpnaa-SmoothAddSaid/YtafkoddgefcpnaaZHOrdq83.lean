/- Texts of these claims, one after the other. -/
import Derived.Test.YtafkoddgefcpnaaRows
import Derived.Test.YtafkoddgefcpnaaZGBaseq31
namespace Go.Proofs.Ytafkoddgefcpnaa
open Go.RowKit

/-- What is asked of the bucket at place j. -/
def okO (L : List It) (j : Nat) : Prop := tickB (L.getD j (0, 0)).1 = true ∧ levB (L.getD j (0, 0)).2 = true ∧ (0 < j → (L.getD (j - 1) (0, 0)).1 ≤ (L.getD j (0, 0)).1 ∧ (L.getD j (0, 0)).2 ≤ (L.getD (j - 1) (0, 0)).2)
instance (L : List It) (j : Nat) : Decidable (okO L j) := by unfold okO; infer_instance
def orB (L : List It) : Bool := decide (∀ j, j < L.length → okO L j)
theorem gD_mem {L : List It} {j : Nat} (h : j < L.length) : L.getD j (0, 0) ∈ L := by simp [List.getD, h]
theorem gD_at {L : List It} {j : Nat} (h : j < L.length) : L.getD j (0, 0) = L[j] := by simp [List.getD, h]
theorem adj_all {f : It → Int} {L : List It} (h : ∀ j, j < L.length → 0 < j → f (L.getD (j - 1) (0, 0)) ≤ f (L.getD j (0, 0))) : ∀ d i, i + d < L.length → f (L.getD i (0, 0)) ≤ f (L.getD (i + d) (0, 0)) := by
  intro d
  induction d with
  | zero => intro i _; exact Int.le_refl _
  | succ d ih =>
    intro i hi
    have h1 := ih i (by omega)
    have h2 := h (i + (d + 1)) hi (by omega)
    rw [show i + (d + 1) - 1 = i + d by omega] at h2
    omega
theorem orB_iff {L : List It} : orB L = true ↔ Rg L ∧ Ds L ∧ As L := by
  unfold orB
  rw [decide_eq_true_eq]
  constructor
  · intro h
    refine ⟨fun x hx => ?_, ?_, ?_⟩
    · obtain ⟨j, hj, rfl⟩ := List.mem_iff_getElem.1 hx
      obtain ⟨g1, g2, _⟩ := h j hj
      rw [gD_at hj] at g1 g2
      have := tickB_true g1; have := levB_true g2
      omega
    · unfold Ds
      rw [List.pairwise_iff_getElem]
      intro i j hi hj hij
      have g := adj_all (f := fun x => -x.2) (L := L) (fun j hj h0 => by have := ((h j hj).2.2 h0).2; omega) (j - i) i (by omega)
      rw [show i + (j - i) = j by omega, gD_at hi, gD_at hj] at g
      omega
    · unfold As
      rw [List.pairwise_iff_getElem]
      intro i j hi hj hij
      have g := adj_all (f := fun x => x.1) (L := L) (fun j hj h0 => ((h j hj).2.2 h0).1) (j - i) i (by omega)
      rw [show i + (j - i) = j by omega, gD_at hi, gD_at hj] at g
      exact g
  · rintro ⟨h1, h2, h3⟩ j hj
    have r := h1 _ (gD_mem hj)
    refine ⟨tickB_yes r.1.1 r.1.2, decide_eq_true r.2, fun h0 => ?_⟩
    rw [gD_at hj, gD_at (show j - 1 < L.length by omega)]
    exact ⟨List.pairwise_iff_getElem.1 h3 (j - 1) j (by omega) hj (by omega), List.pairwise_iff_getElem.1 h2 (j - 1) j (by omega) hj (by omega)⟩
end Go.Proofs.Ytafkoddgefcpnaa

namespace Go.Proofs.Ytafkoddgefcpnaa
open Go.RowKit

/-- The cells of the array. -/
def tyL (f : Nat → Int) : List Value := (List.range 31).map (fun j => .int .i64 (f j))
theorem tyL_at (f : Nat → Int) {j : Nat} (h : j < 31) : (tyL f)[j]? = some (.int .i64 (f j)) := by simp [tyL, h]
end Go.Proofs.Ytafkoddgefcpnaa

namespace Go.Proofs.Ytafkoddgefcpnaa
open Go.RowKit

section
variable {w w' : World} {g k n : Nat} {L : List It}
end
theorem Cp.trans {w w' w2 : World} {g : Nat} (h : Cp w w' g) (h2 : Cp w' w2 g) : Cp w w2 g :=
  ⟨fun w0 h0 hg => h2.up w0 (h.up w0 h0 hg) hg, fun b hb => (h2.far b hb).trans (h.far b hb), h2.size.trans h.size, fun a => (h2.fr a).trans (h.fr a)⟩
end Go.Proofs.Ytafkoddgefcpnaa

namespace Go.Proofs.Ytafkoddgefcpnaa
open Go.RowKit

section
variable {w w' : World} {g k n : Nat} {L : List It}
end
theorem Cp.drewN {w w' : World} {g : Nat} (h : Cp w w' g) (n : Nat) : Cp w (w'.drewN n) g := ⟨fun w0 h0 hg => (h.up w0 h0 hg).drewN n, h.far, h.size, h.fr⟩
end Go.Proofs.Ytafkoddgefcpnaa

namespace Go.Proofs.Ytafkoddgefcpnaa
open Go.RowKit

def ctO (L : List It) (k : Int) (j : Nat) : Prop := ((j : Int) < (L.getD 0 (0, 0)).2 → k ≤ (cn (j : Int) L : Int)) ∧ (cn (j : Int) L : Int) ≤ k + 1
instance (L : List It) (k : Int) (j : Nat) : Decidable (ctO L k j) := by unfold ctO; infer_instance
def ctB (L : List It) (k : Int) : Bool := decide (∀ j ∈ List.range 31, ctO L k j)
def vaB (L : List It) (k : Int) : Bool := kB k && (orB L && ctB L k)
theorem vaB_iff {L : List It} {k : Int} : vaB L k = true ↔ Va L k := by
  unfold vaB
  rw [Bool.and_eq_true, Bool.and_eq_true, orB_iff]
  unfold ctB
  rw [decide_eq_true_eq]
  simp only [List.mem_range]
  constructor
  · rintro ⟨h1, ⟨h2, h3, h4⟩, h5⟩
    have hk := kB_true h1
    have up : ∀ j, (cn j L : Int) ≤ k + 1 := fun j => by
      by_cases hj : 0 ≤ j ∧ j < 31
      · have := (h5 j.toNat (by omega)).2
        rwa [show ((j.toNat : Nat) : Int) = j by omega] at this
      · have : cn j L = 0 := cn_zero (fun x hx => by have := (h2 x hx).2; omega)
        rw [this]; omega
    refine ⟨hk.1, hk.2, h2, h3, h4, up, fun x hx j hj hjx => ?_⟩
    have h0 := h3.top x hx
    have := (h2 x hx).2
    have := (h5 j.toNat (by omega)).1
    rw [show ((j.toNat : Nat) : Int) = j by omega] at this
    exact this (by omega)
  · intro h
    refine ⟨decide_eq_true ⟨h.k1, h.k2⟩, ⟨h.rg, h.ds, h.as_⟩, fun j hj => ⟨fun hlt => ?_, h.up _⟩⟩
    by_cases hX : L = []
    · subst hX; simp at hlt; omega
    · exact h.fl _ (getD0_mem hX) _ (by omega) hlt
end Go.Proofs.Ytafkoddgefcpnaa

namespace Go.Proofs.Ytafkoddgefcpnaa
open Go.RowKit

/-- Rows of numbers. -/
def il (L : List Int) : List Value := L.map (.int .i64)
def OwI (w0 w : World) (v : Value) (n : Nat) (L : List Int) : Prop := Rw w0 w 3 1 v n (il L)
theorem OwI.nil (w0 w : World) : OwI w0 w (.slice none 0 0) 0 [] := Rw.nil _ _ _ _
end Go.Proofs.Ytafkoddgefcpnaa

namespace Go.Proofs.Ytafkoddgefcpnaa
open Go.RowKit

/-- Parameters; all buckets live; valid states. -/
def mayC (v k c now : Int) : Bool := mayB v c now && decide (1 ≤ k ∧ k ≤ 64)
def lvX (now v : Int) (X : List It) : Bool := decide (∀ j, j < X.length → liveB now v (X.getD j (0, 0)).1 = true)
def stC (v k c now : Int) (X : List It) : Bool := mayC v k c now && (vaB X k && (lvX now v X && decide (totB X ≤ c)))
theorem mayC_true {v k c now : Int} (h : mayC v k c now = true) : mayB v c now = true ∧ 1 ≤ k ∧ k ≤ 64 := by
  unfold mayC at h
  rw [Bool.and_eq_true, decide_eq_true_eq] at h
  exact ⟨h.1, h.2⟩
theorem lvX_iff {now v : Int} {X : List It} : lvX now v X = true ↔ ∀ x ∈ X, liveB now v x.1 = true := by
  unfold lvX
  rw [decide_eq_true_eq]
  constructor
  · intro h x hx
    obtain ⟨j, hj, rfl⟩ := List.mem_iff_getElem.1 hx
    have := h j hj
    rw [gD_at hj] at this
    exact this
  · intro h j hj
    exact h _ (gD_mem hj)
theorem stC_true {v k c now : Int} {X : List It} (h : stC v k c now X = true) : mayC v k c now = true ∧ Va X k ∧ lvX now v X = true ∧ totB X ≤ c := by
  unfold stC at h
  simp only [Bool.and_eq_true, decide_eq_true_eq] at h
  exact ⟨h.1, vaB_iff.1 h.2.1, h.2.2.1, h.2.2.2⟩
theorem mayC_facts {v k c now : Int} (h : mayC v k c now = true) : (0 ≤ now ∧ now ≤ 16777216) ∧ (1 ≤ v ∧ v ≤ 1048576) ∧ (1 ≤ c ∧ c ≤ 65536) ∧ (tickB now && winB v) = true := by
  obtain ⟨h1, h2, h3⟩ := mayC_true h
  obtain ⟨a, b, d, e⟩ := mayB_true h1
  exact ⟨tickB_true a, winB_true b, ⟨d, e⟩, by rw [a, b]; rfl⟩
theorem live_iff {now v t : Int} (h : (tickB now && winB v) = true) (h0 : 0 ≤ t) : liveB now v t = true ↔ now - v < t ∧ t ≤ now := by
  rw [liveB_yes h, firZ_yes h]
  simp only [Bool.and_eq_true, decide_eq_true_eq]
  constructor <;> intro g <;> exact ⟨by omega, by omega⟩
/-- The buckets X stand for items with the ticks S: each for so many in turn, the last of them at its tick. -/
def Cv : List It → List Int → Prop
  | [], S => S = []
  | p :: X, S => ∃ G R, S = G ++ p.1 :: R ∧ (G.length : Int) + 1 = szB p.2 ∧ Cv X R
theorem Cv.len : ∀ {X : List It} {S : List Int}, Cv X S → (S.length : Int) = totB X := by
  intro X
  induction X with
  | nil => intro S h; have h : S = [] := h; subst h; rfl
  | cons p X ih =>
    rintro S ⟨G, R, rfl, hg, h⟩
    have := ih h
    simp only [List.length_append, List.length_cons, totB]
    omega
/-- How many ticks are live. -/
def lvN (S : List Int) (now v : Int) : Nat := S.countP (fun t => decide (now - v < t) && decide (t ≤ now))
theorem lvN_app (P S : List Int) (now v : Int) : lvN (P ++ S) now v = lvN P now v + lvN S now v := List.countP_append
theorem lvN_le (S : List Int) (now v : Int) : lvN S now v ≤ S.length := List.countP_le_length
theorem lvN_zero {S : List Int} {now v : Int} (h : ∀ x ∈ S, x ≤ now - v) : lvN S now v = 0 := by
  unfold lvN; rw [List.countP_eq_zero]; intro x hx; have := h x hx; simp; omega
theorem lvN_all {S : List Int} {now v : Int} (h : ∀ x ∈ S, now - v < x ∧ x ≤ now) : lvN S now v = S.length := by
  unfold lvN; rw [List.countP_eq_length]; intro x hx; have := h x hx; simp; omega
/-- The state after items M. -/
structure Hs (v k c now : Int) (X M : List It) : Prop where
  st : stC v k c now X = true
  asc : M.Pairwise (fun x y => x.1 ≤ y.1)
  rg : ∀ x ∈ M, 0 ≤ x.1 ∧ x.1 ≤ now
  cv : ∃ P S, M.map (fun x => x.1) = P ++ S ∧ (∀ x ∈ P, x ≤ now - v) ∧ Cv X S
/-- The lower bound of the answer. -/
def qlo0 (X : List It) : Int := if X = [] then 0 else totB X - szB (X.getD 0 (0, 0)).2 + 1
/-- The number of live items lies between the bounds, which are narrow. -/
theorem Hs.holds {v k c now : Int} {X M : List It} (h : Hs v k c now X M) : qlo0 X ≤ (lvN (M.map (fun x => x.1)) now v : Int) ∧ (lvN (M.map (fun x => x.1)) now v : Int) ≤ totB X ∧ k * (totB X - qlo0 X) ≤ qlo0 X ∧ 0 ≤ qlo0 X ∧ qlo0 X ≤ totB X := by
  obtain ⟨a1, a2, a3, a4⟩ := stC_true h.st
  obtain ⟨g1, g2, g3, g4⟩ := mayC_facts a1
  obtain ⟨P, S, e, hP, hC⟩ := h.cv
  have hl := lvX_iff.1 a3
  have hs : (M.map (fun x => x.1)).Pairwise (fun x y => x ≤ y) := List.pairwise_map.2 h.asc
  have hn : ∀ x ∈ S, x ≤ now := fun x hx => by
    have g6 : x ∈ M.map (fun x => x.1) := by rw [e]; simp [hx]
    obtain ⟨y, hy, rfl⟩ := List.mem_map.1 g6
    exact (h.rg y hy).2
  rw [e] at hs
  rw [e, lvN_app, lvN_zero hP, Nat.zero_add]
  have hlen := hC.len
  have hle := lvN_le S now v
  cases X with
  | nil =>
    have hC : S = [] := hC
    subst hC
    unfold qlo0 lvN
    simp [totB]
  | cons p X =>
    obtain ⟨n1, n2, n3⟩ := a2.narrow (by simp)
    have e0 : ((p :: X).getD 0 (0, 0)) = p := rfl
    rw [e0] at n1 n2 n3
    unfold qlo0
    rw [if_neg (by simp), e0]
    have e4 : k * (totB (p :: X) - (totB (p :: X) - szB p.2 + 1)) = k * (szB p.2 - 1) := by rw [show totB (p :: X) - (totB (p :: X) - szB p.2 + 1) = szB p.2 - 1 by omega]
    refine ⟨?_, by omega, by rw [e4]; omega, by omega, by omega⟩
    obtain ⟨G, R, rfl, hg, hC2⟩ := hC
    obtain ⟨_, hs2, _⟩ := List.pairwise_append.1 hs
    obtain ⟨_, hs3, _⟩ := List.pairwise_append.1 hs2
    have hp := (live_iff g4 (a2.rg p List.mem_cons_self).1.1).1 (hl p List.mem_cons_self)
    have hall : lvN (p.1 :: R) now v = (p.1 :: R).length := lvN_all (fun x hx => by
      refine ⟨?_, hn x (List.mem_append_right _ hx)⟩
      rcases List.mem_cons.1 hx with rfl | hx
      · exact hp.1
      · have := (List.pairwise_cons.1 hs3).1 x hx; omega)
    rw [lvN_app, hall]
    have := hC2.len
    simp only [totB, List.length_cons]
    omega
end Go.Proofs.Ytafkoddgefcpnaa

namespace Go.Proofs.Ytafkoddgefcpnaa
open Go.RowKit
set_option linter.unusedVariables false

theorem rmayK11_any (q : Int) (w : World) :
    Calls Try.prog 57 #[.int .i64 q] w fun e w' => e = .returned (.bool (decide (1 ≤ q ∧ q ≤ 64))) ∧ w = w' := by
  cases h1 : decide (1 ≤ q) with
  | false =>
    rw [decide_eq_false (p := 1 ≤ q ∧ q ≤ 64) (fun h => by rw [decide_eq_true h.1] at h1; cases h1)]
    go_enter Try.func57, Try.ntmps57
    go_wp2
    go_ret
    exact ⟨rfl, rfl⟩
  | true =>
  cases h2 : decide (q ≤ 64) with
  | false =>
    rw [decide_eq_false (p := 1 ≤ q ∧ q ≤ 64) (fun h => by rw [decide_eq_true h.2] at h2; cases h2)]
    go_enter Try.func57, Try.ntmps57
    go_wp2
    go_ret
    exact ⟨rfl, rfl⟩
  | true =>
    rw [decide_eq_true (p := 1 ≤ q ∧ q ≤ 64) ⟨of_decide_eq_true h1, of_decide_eq_true h2⟩]
    go_enter Try.func57, Try.ntmps57
    go_wp2
    go_ret
    exact ⟨rfl, rfl⟩

end Go.Proofs.Ytafkoddgefcpnaa

namespace Go.Proofs.Ytafkoddgefcpnaa
open Go.RowKit
set_option linter.unusedVariables false

theorem Own.lt {w0 w : World} {A : Option Addr} {n k : Nat} {L : List It} (h : Own w0 w (.slice A n k) n L) : ∀ b o, A = some ⟨b, o, none⟩ → b < w.heap.size := Rw.lt (cs := fl L) h
end Go.Proofs.Ytafkoddgefcpnaa

namespace Go.Proofs.Ytafkoddgefcpnaa
open Go.RowKit
set_option linter.unusedVariables false

/-- The cells of a list of elements. -/
def flG {α : Type} (f : α → List Value) : List α → List Value
  | [] => []
  | x :: L => f x ++ flG f L
section
variable {α : Type} {f : α → List Value} {s : Nat}
theorem flG_len (hf : ∀ x, (f x).length = s) (L : List α) : (flG f L).length = L.length * s := by
  induction L with
  | nil => simp [flG]
  | cons x L ih => rw [flG, List.length_append, ih, hf, List.length_cons, Nat.add_mul]; omega
/-- A slice that reads as the list L. -/
def SG (f : α → List Value) (w : World) (A : Option Addr) (n : Nat) (L : List α) : Prop :=
  L.length = n ∧ (0 < n → ∃ b o, A = some ⟨b, o, none⟩ ∧ ∀ j u, (flG f L)[j]? = some u → w.cell? ⟨b, o + j, none⟩ = some u)
variable {w w' : World} {A : Option Addr} {n : Nat} {L : List α}
theorem SG.out (hs : 0 < s) (hf : ∀ x, (f x).length = s) (h : SG f w A n L) (hn : 0 < n) : ∃ b o, A = some ⟨b, o, none⟩ ∧ b < w.heap.size := by
  obtain ⟨b, o, e, hc⟩ := h.2 hn
  have hl : 0 < (flG f L).length := by rw [flG_len hf, h.1]; exact Nat.mul_pos hn hs
  obtain ⟨u, hu⟩ : ∃ u, (flG f L)[0]? = some u := ⟨_, List.getElem?_eq_getElem hl⟩
  exact ⟨b, o, e, World.block_lt_of_cell? _ _ (hc 0 u hu)⟩
/-- A row of the call's own that holds L. -/
def OG (f : α → List Value) (e : TypeId) (s : Nat) (w0 w : World) (v : Value) (n : Nat) (L : List α) : Prop := L.length = n ∧ Rw w0 w e s v n (flG f L)
theorem OG.nil (e : TypeId) (w0 w : World) : OG f e s w0 w (.slice none 0 0) 0 ([] : List α) := ⟨rfl, Rw.nil _ _ _ _⟩
theorem OG.lt {e : TypeId} {w0 : World} {c : Nat} (h : OG f e s w0 w (.slice A n c) n L) : ∀ b o, A = some ⟨b, o, none⟩ → b < w.heap.size := Rw.lt h.2
end
end Go.Proofs.Ytafkoddgefcpnaa

namespace Go.Proofs.Ytafkoddgefcpnaa
open Go.RowKit
set_option linter.unusedVariables false

theorem keepK7 {w w1 w2 : World} {b0 o0 b1 o1 b2 o2 b3 o3 b4 o4 b5 o5 b6 o6 : Nat} {x0 x1 x2 x3 x4 x5 x6 : Value} (hu : Hid (Up w1 w2)) (h : Up w w1 ∧ w1.cell? ⟨b0, o0, none⟩ = some x0 ∧ w1.cell? ⟨b1, o1, none⟩ = some x1 ∧ w1.cell? ⟨b2, o2, none⟩ = some x2 ∧ w1.cell? ⟨b3, o3, none⟩ = some x3 ∧ w1.cell? ⟨b4, o4, none⟩ = some x4 ∧ w1.cell? ⟨b5, o5, none⟩ = some x5 ∧ w1.cell? ⟨b6, o6, none⟩ = some x6) : Up w w2 ∧ w2.cell? ⟨b0, o0, none⟩ = some x0 ∧ w2.cell? ⟨b1, o1, none⟩ = some x1 ∧ w2.cell? ⟨b2, o2, none⟩ = some x2 ∧ w2.cell? ⟨b3, o3, none⟩ = some x3 ∧ w2.cell? ⟨b4, o4, none⟩ = some x4 ∧ w2.cell? ⟨b5, o5, none⟩ = some x5 ∧ w2.cell? ⟨b6, o6, none⟩ = some x6 :=
  ⟨h.1.trans hu.out, hu.out.keep _ _ _ h.2.1, hu.out.keep _ _ _ h.2.2.1, hu.out.keep _ _ _ h.2.2.2.1, hu.out.keep _ _ _ h.2.2.2.2.1, hu.out.keep _ _ _ h.2.2.2.2.2.1, hu.out.keep _ _ _ h.2.2.2.2.2.2.1, hu.out.keep _ _ _ h.2.2.2.2.2.2.2⟩
end Go.Proofs.Ytafkoddgefcpnaa

namespace Go.Proofs.Ytafkoddgefcpnaa
open Go.RowKit
set_option linter.unusedVariables false

theorem keepK14 {w w1 w2 : World} {b0 o0 b1 o1 b2 o2 b3 o3 b4 o4 b5 o5 b6 o6 b7 o7 b8 o8 b9 o9 b10 o10 b11 o11 b12 o12 b13 o13 : Nat} {x0 x1 x2 x3 x4 x5 x6 x7 x8 x9 x10 x11 x12 x13 : Value} (hu : Hid (Up w1 w2)) (h : Up w w1 ∧ w1.cell? ⟨b0, o0, none⟩ = some x0 ∧ w1.cell? ⟨b1, o1, none⟩ = some x1 ∧ w1.cell? ⟨b2, o2, none⟩ = some x2 ∧ w1.cell? ⟨b3, o3, none⟩ = some x3 ∧ w1.cell? ⟨b4, o4, none⟩ = some x4 ∧ w1.cell? ⟨b5, o5, none⟩ = some x5 ∧ w1.cell? ⟨b6, o6, none⟩ = some x6 ∧ w1.cell? ⟨b7, o7, none⟩ = some x7 ∧ w1.cell? ⟨b8, o8, none⟩ = some x8 ∧ w1.cell? ⟨b9, o9, none⟩ = some x9 ∧ w1.cell? ⟨b10, o10, none⟩ = some x10 ∧ w1.cell? ⟨b11, o11, none⟩ = some x11 ∧ w1.cell? ⟨b12, o12, none⟩ = some x12 ∧ w1.cell? ⟨b13, o13, none⟩ = some x13) : Up w w2 ∧ w2.cell? ⟨b0, o0, none⟩ = some x0 ∧ w2.cell? ⟨b1, o1, none⟩ = some x1 ∧ w2.cell? ⟨b2, o2, none⟩ = some x2 ∧ w2.cell? ⟨b3, o3, none⟩ = some x3 ∧ w2.cell? ⟨b4, o4, none⟩ = some x4 ∧ w2.cell? ⟨b5, o5, none⟩ = some x5 ∧ w2.cell? ⟨b6, o6, none⟩ = some x6 ∧ w2.cell? ⟨b7, o7, none⟩ = some x7 ∧ w2.cell? ⟨b8, o8, none⟩ = some x8 ∧ w2.cell? ⟨b9, o9, none⟩ = some x9 ∧ w2.cell? ⟨b10, o10, none⟩ = some x10 ∧ w2.cell? ⟨b11, o11, none⟩ = some x11 ∧ w2.cell? ⟨b12, o12, none⟩ = some x12 ∧ w2.cell? ⟨b13, o13, none⟩ = some x13 :=
  ⟨h.1.trans hu.out, hu.out.keep _ _ _ h.2.1, hu.out.keep _ _ _ h.2.2.1, hu.out.keep _ _ _ h.2.2.2.1, hu.out.keep _ _ _ h.2.2.2.2.1, hu.out.keep _ _ _ h.2.2.2.2.2.1, hu.out.keep _ _ _ h.2.2.2.2.2.2.1, hu.out.keep _ _ _ h.2.2.2.2.2.2.2.1, hu.out.keep _ _ _ h.2.2.2.2.2.2.2.2.1, hu.out.keep _ _ _ h.2.2.2.2.2.2.2.2.2.1, hu.out.keep _ _ _ h.2.2.2.2.2.2.2.2.2.2.1, hu.out.keep _ _ _ h.2.2.2.2.2.2.2.2.2.2.2.1, hu.out.keep _ _ _ h.2.2.2.2.2.2.2.2.2.2.2.2.1, hu.out.keep _ _ _ h.2.2.2.2.2.2.2.2.2.2.2.2.2.1, hu.out.keep _ _ _ h.2.2.2.2.2.2.2.2.2.2.2.2.2.2⟩
end Go.Proofs.Ytafkoddgefcpnaa

namespace Go.Proofs.Ytafkoddgefcpnaa

instance (n s q lo hi : Int) : Decidable (prtP n s q lo hi) := by unfold prtP; infer_instance
instance (g v : Int) : Decidable (valG g v) := by unfold valG; infer_instance
section
variable {g w k c now : Int} {P : List Nat} {I : List It}
end
end Go.Proofs.Ytafkoddgefcpnaa
