/- Texts of these claims, one after the other. -/
import Derived.Test.YtfcknhpllhkpeaaRows
import Derived.Test.YtfcknhpllhkpeaaZGAppendq54
import Derived.Test.YtfcknhpllhkpeaaZHValq106
import Derived.Test.YtfcknhpllhkpeaaZNumq19
import Derived.Test.YtfcknhpllhkpeaaZUStq46
namespace Go.Proofs.Ytfcknhpllhkpeaa
open Go.RowKit
set_option linter.unusedVariables false

theorem stX_of {mx : Bool} {v c now : Int} {K : List It} (h1 : mayB v c now = true) (h2 : (K.length : Int) ≤ c) (h3 : ∀ x ∈ K, liveB now v x.1 = true ∧ valueB x.2 = true) (h4 : K.Pairwise (fun x y => x.1 < y.1 ∧ sgE mx y.2 < sgE mx x.2)) : stX mx v c now K = true := by
  refine stX_iff.2 ⟨h1, h2, fun i hi => okX_iff.2 ⟨(h3 _ (mem_getDT hi)).1, (h3 _ (mem_getDT hi)).2, fun h => ?_⟩⟩
  obtain ⟨j, rfl⟩ : ∃ j, i = j + 1 := ⟨i - 1, by omega⟩
  exact pw_chain h4 hi
end Go.Proofs.Ytfcknhpllhkpeaa

namespace Go.Proofs.Ytfcknhpllhkpeaa
open Go.RowKit

theorem Own.cap {w0 w : World} {A : Option Addr} {n c : Nat} {L : List It} (h : Own w0 w (.slice A n c) n L) : n ≤ c := by
  obtain ⟨A2, c2, e, h1, _⟩ := h.sl
  cases e
  exact h1
end Go.Proofs.Ytfcknhpllhkpeaa

namespace Go.Proofs.Ytfcknhpllhkpeaa
open Go.RowKit

/-- Parameters; all buckets live; valid states. -/
def mayC (v k c now : Int) : Bool := mayB v c now && decide (1 ≤ k ∧ k ≤ 64)
def lvX (now v : Int) (X : List It) : Bool := decide (∀ j, j < X.length → liveB now v (X.getD j (0, 0)).1 = true)
def stC (v k c now : Int) (X : List It) : Bool := mayC v k c now && (vaB X k && (lvX now v X && decide (totB X ≤ c)))
theorem mayC_true {v k c now : Int} (h : mayC v k c now = true) : mayB v c now = true ∧ 1 ≤ k ∧ k ≤ 64 := by
  unfold mayC at h
  rw [Bool.and_eq_true, decide_eq_true_eq] at h
  exact ⟨h.1, h.2⟩
theorem lvX_iff {now v : Int} {X : List It} : lvX now v X = true ↔ ∀ x ∈ X, liveB now v x.1 = true := by
  unfold lvX
  rw [decide_eq_true_eq]
  constructor
  · intro h x hx
    obtain ⟨j, hj, rfl⟩ := List.mem_iff_getElem.1 hx
    have := h j hj
    rw [gD_at hj] at this
    exact this
  · intro h j hj
    exact h _ (gD_mem hj)
theorem stC_true {v k c now : Int} {X : List It} (h : stC v k c now X = true) : mayC v k c now = true ∧ Va X k ∧ lvX now v X = true ∧ totB X ≤ c := by
  unfold stC at h
  simp only [Bool.and_eq_true, decide_eq_true_eq] at h
  exact ⟨h.1, vaB_iff.1 h.2.1, h.2.2.1, h.2.2.2⟩
theorem stC_yes {v k c now : Int} {X : List It} (h1 : mayC v k c now = true) (h2 : Va X k) (h3 : lvX now v X = true) (h4 : totB X ≤ c) : stC v k c now X = true := by
  unfold stC
  rw [h1, vaB_iff.2 h2, h3, decide_eq_true h4]
  rfl
theorem mayC_facts {v k c now : Int} (h : mayC v k c now = true) : (0 ≤ now ∧ now ≤ 16777216) ∧ (1 ≤ v ∧ v ≤ 1048576) ∧ (1 ≤ c ∧ c ≤ 65536) ∧ (tickB now && winB v) = true := by
  obtain ⟨h1, h2, h3⟩ := mayC_true h
  obtain ⟨a, b, d, e⟩ := mayB_true h1
  exact ⟨tickB_true a, winB_true b, ⟨d, e⟩, by rw [a, b]; rfl⟩
theorem live_iff {now v t : Int} (h : (tickB now && winB v) = true) (h0 : 0 ≤ t) : liveB now v t = true ↔ now - v < t ∧ t ≤ now := by
  rw [liveB_yes h, firZ_yes h]
  simp only [Bool.and_eq_true, decide_eq_true_eq]
  constructor <;> intro g <;> exact ⟨by omega, by omega⟩
/-- The buckets X stand for items with the ticks S: each for so many in turn, the last of them at its tick. -/
def Cv : List It → List Int → Prop
  | [], S => S = []
  | p :: X, S => ∃ G R, S = G ++ p.1 :: R ∧ (G.length : Int) + 1 = szB p.2 ∧ Cv X R
theorem Cv.len : ∀ {X : List It} {S : List Int}, Cv X S → (S.length : Int) = totB X := by
  intro X
  induction X with
  | nil => intro S h; have h : S = [] := h; subst h; rfl
  | cons p X ih =>
    rintro S ⟨G, R, rfl, hg, h⟩
    have := ih h
    simp only [List.length_append, List.length_cons, totB]
    omega
/-- How many ticks are live. -/
def lvN (S : List Int) (now v : Int) : Nat := S.countP (fun t => decide (now - v < t) && decide (t ≤ now))
theorem lvN_app (P S : List Int) (now v : Int) : lvN (P ++ S) now v = lvN P now v + lvN S now v := List.countP_append
theorem lvN_le (S : List Int) (now v : Int) : lvN S now v ≤ S.length := List.countP_le_length
theorem lvN_zero {S : List Int} {now v : Int} (h : ∀ x ∈ S, x ≤ now - v) : lvN S now v = 0 := by
  unfold lvN; rw [List.countP_eq_zero]; intro x hx; have := h x hx; simp; omega
theorem lvN_all {S : List Int} {now v : Int} (h : ∀ x ∈ S, now - v < x ∧ x ≤ now) : lvN S now v = S.length := by
  unfold lvN; rw [List.countP_eq_length]; intro x hx; have := h x hx; simp; omega
/-- The state after items M. -/
structure Hs (v k c now : Int) (X M : List It) : Prop where
  st : stC v k c now X = true
  asc : M.Pairwise (fun x y => x.1 ≤ y.1)
  rg : ∀ x ∈ M, 0 ≤ x.1 ∧ x.1 ≤ now
  cv : ∃ P S, M.map (fun x => x.1) = P ++ S ∧ (∀ x ∈ P, x ≤ now - v) ∧ Cv X S
theorem Hs.start {v k c now : Int} (h : mayC v k c now = true) : Hs v k c now [] [] :=
  ⟨stC_yes h (Va.nil (mayC_true h).2.1 (by have := (mayC_true h).2.2; omega)) (lvX_iff.2 (fun x hx => (by cases hx))) (by have := (mayC_facts h).2.2.1.1; simp only [totB]; omega),
   List.Pairwise.nil, (fun x hx => (by cases hx)), [], [], rfl, (fun x hx => (by cases hx)), rfl⟩
/-- The lower bound of the answer. -/
def qlo0 (X : List It) : Int := if X = [] then 0 else totB X - szB (X.getD 0 (0, 0)).2 + 1
/-- The number of live items lies between the bounds, which are narrow. -/
theorem Hs.holds {v k c now : Int} {X M : List It} (h : Hs v k c now X M) : qlo0 X ≤ (lvN (M.map (fun x => x.1)) now v : Int) ∧ (lvN (M.map (fun x => x.1)) now v : Int) ≤ totB X ∧ k * (totB X - qlo0 X) ≤ qlo0 X ∧ 0 ≤ qlo0 X ∧ qlo0 X ≤ totB X := by
  obtain ⟨a1, a2, a3, a4⟩ := stC_true h.st
  obtain ⟨g1, g2, g3, g4⟩ := mayC_facts a1
  obtain ⟨P, S, e, hP, hC⟩ := h.cv
  have hl := lvX_iff.1 a3
  have hs : (M.map (fun x => x.1)).Pairwise (fun x y => x ≤ y) := List.pairwise_map.2 h.asc
  have hn : ∀ x ∈ S, x ≤ now := fun x hx => by
    have g6 : x ∈ M.map (fun x => x.1) := by rw [e]; simp [hx]
    obtain ⟨y, hy, rfl⟩ := List.mem_map.1 g6
    exact (h.rg y hy).2
  rw [e] at hs
  rw [e, lvN_app, lvN_zero hP, Nat.zero_add]
  have hlen := hC.len
  have hle := lvN_le S now v
  cases X with
  | nil =>
    have hC : S = [] := hC
    subst hC
    unfold qlo0 lvN
    simp [totB]
  | cons p X =>
    obtain ⟨n1, n2, n3⟩ := a2.narrow (by simp)
    have e0 : ((p :: X).getD 0 (0, 0)) = p := rfl
    rw [e0] at n1 n2 n3
    unfold qlo0
    rw [if_neg (by simp), e0]
    have e4 : k * (totB (p :: X) - (totB (p :: X) - szB p.2 + 1)) = k * (szB p.2 - 1) := by rw [show totB (p :: X) - (totB (p :: X) - szB p.2 + 1) = szB p.2 - 1 by omega]
    refine ⟨?_, by omega, by rw [e4]; omega, by omega, by omega⟩
    obtain ⟨G, R, rfl, hg, hC2⟩ := hC
    obtain ⟨_, hs2, _⟩ := List.pairwise_append.1 hs
    obtain ⟨_, hs3, _⟩ := List.pairwise_append.1 hs2
    have hp := (live_iff g4 (a2.rg p List.mem_cons_self).1.1).1 (hl p List.mem_cons_self)
    have hall : lvN (p.1 :: R) now v = (p.1 :: R).length := lvN_all (fun x hx => by
      refine ⟨?_, hn x (List.mem_append_right _ hx)⟩
      rcases List.mem_cons.1 hx with rfl | hx
      · exact hp.1
      · have := (List.pairwise_cons.1 hs3).1 x hx; omega)
    rw [lvN_app, hall]
    have := hC2.len
    simp only [totB, List.length_cons]
    omega
end Go.Proofs.Ytfcknhpllhkpeaa
