/- Texts of these claims, one after the other. -/
import Derived.Test.YtjbgogajnjefmaaGreatZCClock
import Derived.Test.YtjbgogajnjefmaaGreatZGFramem4
import Derived.Test.YtjbgogajnjefmaaGreatZGLawm3
import Derived.Test.YtjbgogajnjefmaaGreatZHGrowm2
import Derived.Test.YtjbgogajnjefmaaGreatZHOrdm2
import Derived.Test.YtjbgogajnjefmaaGreatZHRVal
import Derived.Test.YtjbgogajnjefmaaGreatZHRowm2
import Derived.Test.YtjbgogajnjefmaaGreatZHSmallm2
import Derived.Test.YtjbgogajnjefmaaGreatZHTot
import Derived.Test.YtjbgogajnjefmaaGreatZHVal
import Derived.Test.YtjbgogajnjefmaaGreatZNumDiv
import Derived.Test.YtjbgogajnjefmaaGreatZWKeepm7
import Derived.Test.YtjbgogajnjefmaaGreatZWShortm3
namespace Go.Proofs.YtjbgogajnjefmaaGreat
open Go.RowKit

/-- Rows of numbers. -/
def il (L : List Int) : List Value := L.map (.int .i64)
theorem il_len (L : List Int) : (il L).length = L.length := by simp [il]
theorem il_at {L : List Int} {j : Nat} (h : j < L.length) : (il L)[j]? = some (.int .i64 (L.getD j 0)) := by simp [il, List.getD, h]
def OwI (w0 w : World) (v : Value) (n : Nat) (L : List Int) : Prop := Rw w0 w 3 1 v n (il L)
theorem OwI.nil (w0 w : World) : OwI w0 w (.slice none 0 0) 0 [] := Rw.nil _ _ _ _
theorem OwI.sl {w0 w : World} {v : Value} {n : Nat} {L : List Int} (h : OwI w0 w v n L) : ∃ A c, v = .slice A n c ∧ n ≤ c ∧ Sn w A n L := by
  have hn : L.length = n := by have := h.1; rw [il_len] at this; omega
  rcases h.2 with ⟨rfl, rfl⟩ | ⟨g, cap, cur, rfl, _, hh, hc, _, hs, ht⟩
  · exact ⟨none, 0, rfl, Nat.le_refl _, hn, fun hx => absurd hx (by omega)⟩
  · refine ⟨some ⟨g, 0, none⟩, cap, rfl, hc, hn, fun _ => ⟨g, 0, rfl, fun j hj => ?_⟩⟩
    rw [Nat.zero_add, cell_of_row w g j cur _ (0, 0) hh]
    have e := il_at (L := L) (j := j) (by omega)
    rw [← ht, List.getElem?_take] at e
    split at e
    · simpa using e
    · cases e
end Go.Proofs.YtjbgogajnjefmaaGreat

namespace Go.Proofs.YtjbgogajnjefmaaGreat
open Go.RowKit

theorem szB_in {l : Int} (h : 0 ≤ l ∧ l ≤ 30) : 1 ≤ szB l ∧ szB l = 2 ^ l.toNat := by
  unfold szB; rw [if_pos h]; exact ⟨pwB1 _, rfl⟩
theorem tot_first {L : List It} (h : L ≠ []) : szB (L.getD 0 (0, 0)).2 ≤ totB L := by
  cases L with
  | nil => exact absurd rfl h
  | cons x L => have := totB_low L; simp only [totB, List.getD_cons_zero]; omega
theorem lv_all {L : List It} (h : lvB L = true) {j : Nat} (hj : j < L.length) : 0 ≤ (L.getD j (0, 0)).2 ∧ (L.getD j (0, 0)).2 ≤ 30 := levB_true (of_decide_eq_true h j hj)

end Go.Proofs.YtjbgogajnjefmaaGreat

namespace Go.Proofs.YtjbgogajnjefmaaGreat
open Go.RowKit

theorem imL_one {X : List It} {q t : Int} (h : Va X q) (h0 : 0 ≤ t) (h1 : t ≤ 16777216) (hl : ∀ x ∈ X, x.1 ≤ t) (hT : totB X + 1 ≤ 1073741824) : imL X q t 1 = puB q t X := by
  rw [imL_yes]
  · rfl
  · unfold inB rooB
    rw [vaB_iff.2 h, fol_of h0 h1 hl, decide_eq_true (p := totB X + 1 ≤ 1073741824) hT]
    simp
theorem Va.lv {X : List It} {k : Int} (h : Va X k) : lvB X = true := lvB_of (orB_iff.2 ⟨h.rg, h.ds, h.as_⟩)
end Go.Proofs.YtjbgogajnjefmaaGreat

namespace Go.Proofs.YtjbgogajnjefmaaGreat
open Go.RowKit

/-- Parameters; all buckets live; valid states. -/
def mayC (v k c now : Int) : Bool := mayB v c now && decide (1 ≤ k ∧ k ≤ 64)
def lvX (now v : Int) (X : List It) : Bool := decide (∀ j, j < X.length → liveB now v (X.getD j (0, 0)).1 = true)
def stC (v k c now : Int) (X : List It) : Bool := mayC v k c now && (vaB X k && (lvX now v X && decide (totB X ≤ c)))
def stCE (v k c now : Int) (X : List It) : Int := if stC v k c now X = true then 0 else 2
theorem mayC_true {v k c now : Int} (h : mayC v k c now = true) : mayB v c now = true ∧ 1 ≤ k ∧ k ≤ 64 := by
  unfold mayC at h
  rw [Bool.and_eq_true, decide_eq_true_eq] at h
  exact ⟨h.1, h.2⟩
theorem lvX_iff {now v : Int} {X : List It} : lvX now v X = true ↔ ∀ x ∈ X, liveB now v x.1 = true := by
  unfold lvX
  rw [decide_eq_true_eq]
  constructor
  · intro h x hx
    obtain ⟨j, hj, rfl⟩ := List.mem_iff_getElem.1 hx
    have := h j hj
    rw [gD_at hj] at this
    exact this
  · intro h j hj
    exact h _ (gD_mem hj)
theorem lvX_bad {now v : Int} {X : List It} {j : Nat} (hj : j < X.length) (h : liveB now v (X.getD j (0, 0)).1 = false) : lvX now v X = false :=
  decide_eq_false (fun hp => by have := hp j hj; rw [h] at this; cases this)
theorem stC_true {v k c now : Int} {X : List It} (h : stC v k c now X = true) : mayC v k c now = true ∧ Va X k ∧ lvX now v X = true ∧ totB X ≤ c := by
  unfold stC at h
  simp only [Bool.and_eq_true, decide_eq_true_eq] at h
  exact ⟨h.1, vaB_iff.1 h.2.1, h.2.2.1, h.2.2.2⟩
theorem stC_yes {v k c now : Int} {X : List It} (h1 : mayC v k c now = true) (h2 : Va X k) (h3 : lvX now v X = true) (h4 : totB X ≤ c) : stC v k c now X = true := by
  unfold stC
  rw [h1, vaB_iff.2 h2, h3, decide_eq_true h4]
  rfl
theorem stCE_yes {v k c now : Int} {X : List It} (h : stC v k c now X = true) : stCE v k c now X = 0 := if_pos h
theorem stCE_no {v k c now : Int} {X : List It} (h : stC v k c now X = false) : stCE v k c now X = 2 := if_neg (by rw [h]; exact Bool.false_ne_true)
theorem mayC_facts {v k c now : Int} (h : mayC v k c now = true) : (0 ≤ now ∧ now ≤ 16777216) ∧ (1 ≤ v ∧ v ≤ 1048576) ∧ (1 ≤ c ∧ c ≤ 65536) ∧ (tickB now && winB v) = true := by
  obtain ⟨h1, h2, h3⟩ := mayC_true h
  obtain ⟨a, b, d, e⟩ := mayB_true h1
  exact ⟨tickB_true a, winB_true b, ⟨d, e⟩, by rw [a, b]; rfl⟩
theorem live_iff {now v t : Int} (h : (tickB now && winB v) = true) (h0 : 0 ≤ t) : liveB now v t = true ↔ now - v < t ∧ t ≤ now := by
  rw [liveB_yes h, firZ_yes h]
  simp only [Bool.and_eq_true, decide_eq_true_eq]
  constructor <;> intro g <;> exact ⟨by omega, by omega⟩
/-- The buckets X stand for items with the ticks S: each for so many in turn, the last of them at its tick. -/
def Cv : List It → List Int → Prop
  | [], S => S = []
  | p :: X, S => ∃ G R, S = G ++ p.1 :: R ∧ (G.length : Int) + 1 = szB p.2 ∧ Cv X R
theorem Cv.len : ∀ {X : List It} {S : List Int}, Cv X S → (S.length : Int) = totB X := by
  intro X
  induction X with
  | nil => intro S h; have h : S = [] := h; subst h; rfl
  | cons p X ih =>
    rintro S ⟨G, R, rfl, hg, h⟩
    have := ih h
    simp only [List.length_append, List.length_cons, totB]
    omega
/-- The ticks of a list after an insertion are those that were there, and the new one. -/
theorem puS_tick {k T t : Int} (hT : T ≤ 1073741824) : ∀ {n : Nat} {l : Int} {X : List It}, Iv X k l T t → l + n = 31 → ∀ x ∈ puS k n l X, ∃ y ∈ X, y.1 = x.1 := by
  intro n
  induction n with
  | zero => intro l X _ _ x hx; exact ⟨x, hx, rfl⟩
  | succ n ih =>
    intro l X h hn x hx
    by_cases hc : (cn l X : Int) ≤ k + 1
    · rw [puS_at hc] at hx; exact ⟨x, hx, rfl⟩
    · rw [puS_step hc] at hx
      obtain ⟨h1, h2, h3, h4⟩ := h.next hT (by omega) hc
      obtain ⟨y, hy, e⟩ := ih h4 (by omega) x hx
      rcases mg_mem h.ds h3 hy with g | g
      · exact ⟨y, g, e⟩
      · exact ⟨_, g.2, e⟩
theorem puB_tick {X : List It} {k t : Int} (h : Va X k) (h0 : 0 ≤ t) (h1 : t ≤ 16777216) (hl : ∀ x ∈ X, x.1 ≤ t) (hT : totB X < 1073741824) : ∀ x ∈ puB k t X, x.1 = t ∨ ∃ y ∈ X, y.1 = x.1 := by
  intro x hx
  obtain ⟨y, hy, e⟩ := puS_tick (by omega) (h.start h0 h1 hl) rfl x hx
  rcases List.mem_append.1 hy with g | g
  · exact Or.inr ⟨y, g, e⟩
  · simp only [List.mem_singleton] at g; subst g; exact Or.inl e.symm
/-- How many ticks are live. -/
def lvN (S : List Int) (now v : Int) : Nat := S.countP (fun t => decide (now - v < t) && decide (t ≤ now))
theorem lvN_app (P S : List Int) (now v : Int) : lvN (P ++ S) now v = lvN P now v + lvN S now v := List.countP_append
theorem lvN_le (S : List Int) (now v : Int) : lvN S now v ≤ S.length := List.countP_le_length
theorem lvN_zero {S : List Int} {now v : Int} (h : ∀ x ∈ S, x ≤ now - v) : lvN S now v = 0 := by
  unfold lvN; rw [List.countP_eq_zero]; intro x hx; have := h x hx; simp; omega
theorem lvN_all {S : List Int} {now v : Int} (h : ∀ x ∈ S, now - v < x ∧ x ≤ now) : lvN S now v = S.length := by
  unfold lvN; rw [List.countP_eq_length]; intro x hx; have := h x hx; simp; omega
/-- The state after items M. -/
structure Hs (v k c now : Int) (X M : List It) : Prop where
  st : stC v k c now X = true
  asc : M.Pairwise (fun x y => x.1 ≤ y.1)
  rg : ∀ x ∈ M, 0 ≤ x.1 ∧ x.1 ≤ now
  cv : ∃ P S, M.map (fun x => x.1) = P ++ S ∧ (∀ x ∈ P, x ≤ now - v) ∧ Cv X S
theorem Hs.start {v k c now : Int} (h : mayC v k c now = true) : Hs v k c now [] [] :=
  ⟨stC_yes h (Va.nil (mayC_true h).2.1 (by have := (mayC_true h).2.2; omega)) (lvX_iff.2 (fun x hx => (by cases hx))) (by have := (mayC_facts h).2.2.1.1; simp only [totB]; omega),
   List.Pairwise.nil, (fun x hx => (by cases hx)), [], [], rfl, (fun x hx => (by cases hx)), rfl⟩
theorem stC_add {v k c now : Int} {X : List It} (h : stC v k c now X = true) (hc : totB X ≠ c) : stC v k c now (puB k now X) = true ∧ (0 ≤ now ∧ now ≤ 16777216) ∧ (∀ x ∈ X, x.1 ≤ now) ∧ totB X + 1 ≤ 1073741824 := by
  obtain ⟨a1, a2, a3, a4⟩ := stC_true h
  obtain ⟨g1, g2, g3, g4⟩ := mayC_facts a1
  have hl := lvX_iff.1 a3
  have hx : ∀ x ∈ X, x.1 ≤ now := fun x hx => ((live_iff g4 (a2.rg x hx).1.1).1 (hl x hx)).2
  obtain ⟨b1, b2, b3⟩ := puB_va a2 g1.1 g1.2 hx (by omega)
  refine ⟨stC_yes a1 b1 (lvX_iff.2 (fun x hx2 => ?_)) (by omega), g1, hx, by omega⟩
  rcases puB_tick a2 g1.1 g1.2 hx (by omega) x hx2 with e | ⟨y, hy, e⟩
  · rw [e]; exact (live_iff g4 g1.1).2 ⟨by omega, by omega⟩
  · rw [← e]; exact hl y hy
/-- The lower bound of the answer. -/
def qlo0 (X : List It) : Int := if X = [] then 0 else totB X - szB (X.getD 0 (0, 0)).2 + 1
/-- The number of live items lies between the bounds, which are narrow. -/
theorem Hs.holds {v k c now : Int} {X M : List It} (h : Hs v k c now X M) : qlo0 X ≤ (lvN (M.map (fun x => x.1)) now v : Int) ∧ (lvN (M.map (fun x => x.1)) now v : Int) ≤ totB X ∧ k * (totB X - qlo0 X) ≤ qlo0 X ∧ 0 ≤ qlo0 X ∧ qlo0 X ≤ totB X := by
  obtain ⟨a1, a2, a3, a4⟩ := stC_true h.st
  obtain ⟨g1, g2, g3, g4⟩ := mayC_facts a1
  obtain ⟨P, S, e, hP, hC⟩ := h.cv
  have hl := lvX_iff.1 a3
  have hs : (M.map (fun x => x.1)).Pairwise (fun x y => x ≤ y) := List.pairwise_map.2 h.asc
  have hn : ∀ x ∈ S, x ≤ now := fun x hx => by
    have g6 : x ∈ M.map (fun x => x.1) := by rw [e]; simp [hx]
    obtain ⟨y, hy, rfl⟩ := List.mem_map.1 g6
    exact (h.rg y hy).2
  rw [e] at hs
  rw [e, lvN_app, lvN_zero hP, Nat.zero_add]
  have hlen := hC.len
  have hle := lvN_le S now v
  cases X with
  | nil =>
    have hC : S = [] := hC
    subst hC
    unfold qlo0 lvN
    simp [totB]
  | cons p X =>
    obtain ⟨n1, n2, n3⟩ := a2.narrow (by simp)
    have e0 : ((p :: X).getD 0 (0, 0)) = p := rfl
    rw [e0] at n1 n2 n3
    unfold qlo0
    rw [if_neg (by simp), e0]
    have e4 : k * (totB (p :: X) - (totB (p :: X) - szB p.2 + 1)) = k * (szB p.2 - 1) := by rw [show totB (p :: X) - (totB (p :: X) - szB p.2 + 1) = szB p.2 - 1 by omega]
    refine ⟨?_, by omega, by rw [e4]; omega, by omega, by omega⟩
    obtain ⟨G, R, rfl, hg, hC2⟩ := hC
    obtain ⟨_, hs2, _⟩ := List.pairwise_append.1 hs
    obtain ⟨_, hs3, _⟩ := List.pairwise_append.1 hs2
    have hp := (live_iff g4 (a2.rg p List.mem_cons_self).1.1).1 (hl p List.mem_cons_self)
    have hall : lvN (p.1 :: R) now v = (p.1 :: R).length := lvN_all (fun x hx => by
      refine ⟨?_, hn x (List.mem_append_right _ hx)⟩
      rcases List.mem_cons.1 hx with rfl | hx
      · exact hp.1
      · have := (List.pairwise_cons.1 hs3).1 x hx; omega)
    rw [lvN_app, hall]
    have := hC2.len
    simp only [totB, List.length_cons]
    omega
end Go.Proofs.YtjbgogajnjefmaaGreat
