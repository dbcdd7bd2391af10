/- Texts of these claims, one after the other. -/
import Derived.Test.YtegaeaonoggmkaaRows
import Derived.Test.YtegaeaonoggmkaaZETotalq39
import Derived.Test.YtegaeaonoggmkaaZHTallyq56
namespace Go.Proofs.Ytegaeaonoggmkaa
open Go.RowKit

/-- Parameters; all buckets live; valid states. -/
def mayC (v k c now : Int) : Bool := mayB v c now && decide (1 ≤ k ∧ k ≤ 64)
def lvX (now v : Int) (X : List It) : Bool := decide (∀ j, j < X.length → liveB now v (X.getD j (0, 0)).1 = true)
def stC (v k c now : Int) (X : List It) : Bool := mayC v k c now && (vaB X k && (lvX now v X && decide (totB X ≤ c)))
theorem mayC_true {v k c now : Int} (h : mayC v k c now = true) : mayB v c now = true ∧ 1 ≤ k ∧ k ≤ 64 := by
  unfold mayC at h
  rw [Bool.and_eq_true, decide_eq_true_eq] at h
  exact ⟨h.1, h.2⟩
theorem lvX_iff {now v : Int} {X : List It} : lvX now v X = true ↔ ∀ x ∈ X, liveB now v x.1 = true := by
  unfold lvX
  rw [decide_eq_true_eq]
  constructor
  · intro h x hx
    obtain ⟨j, hj, rfl⟩ := List.mem_iff_getElem.1 hx
    have := h j hj
    rw [gD_at hj] at this
    exact this
  · intro h j hj
    exact h _ (gD_mem hj)
theorem stC_true {v k c now : Int} {X : List It} (h : stC v k c now X = true) : mayC v k c now = true ∧ Va X k ∧ lvX now v X = true ∧ totB X ≤ c := by
  unfold stC at h
  simp only [Bool.and_eq_true, decide_eq_true_eq] at h
  exact ⟨h.1, vaB_iff.1 h.2.1, h.2.2.1, h.2.2.2⟩
theorem stC_yes {v k c now : Int} {X : List It} (h1 : mayC v k c now = true) (h2 : Va X k) (h3 : lvX now v X = true) (h4 : totB X ≤ c) : stC v k c now X = true := by
  unfold stC
  rw [h1, vaB_iff.2 h2, h3, decide_eq_true h4]
  rfl
theorem mayC_facts {v k c now : Int} (h : mayC v k c now = true) : (0 ≤ now ∧ now ≤ 16777216) ∧ (1 ≤ v ∧ v ≤ 1048576) ∧ (1 ≤ c ∧ c ≤ 65536) ∧ (tickB now && winB v) = true := by
  obtain ⟨h1, h2, h3⟩ := mayC_true h
  obtain ⟨a, b, d, e⟩ := mayB_true h1
  exact ⟨tickB_true a, winB_true b, ⟨d, e⟩, by rw [a, b]; rfl⟩
theorem live_iff {now v t : Int} (h : (tickB now && winB v) = true) (h0 : 0 ≤ t) : liveB now v t = true ↔ now - v < t ∧ t ≤ now := by
  rw [liveB_yes h, firZ_yes h]
  simp only [Bool.and_eq_true, decide_eq_true_eq]
  constructor <;> intro g <;> exact ⟨by omega, by omega⟩
/-- The buckets X stand for items with the ticks S: each for so many in turn, the last of them at its tick. -/
def Cv : List It → List Int → Prop
  | [], S => S = []
  | p :: X, S => ∃ G R, S = G ++ p.1 :: R ∧ (G.length : Int) + 1 = szB p.2 ∧ Cv X R
theorem Cv.app : ∀ {P X : List It} {S : List Int}, Cv (P ++ X) S ↔ ∃ S1 S2, S = S1 ++ S2 ∧ Cv P S1 ∧ Cv X S2 := by
  intro P
  induction P with
  | nil =>
    intro X S
    constructor
    · intro h; exact ⟨[], S, rfl, rfl, h⟩
    · rintro ⟨S1, S2, rfl, h1, h2⟩
      have h1 : S1 = [] := h1
      subst h1
      exact h2
  | cons p P ih =>
    intro X S
    constructor
    · rintro ⟨G, R, rfl, hg, h⟩
      obtain ⟨S1, S2, rfl, h1, h2⟩ := ih.1 h
      exact ⟨G ++ p.1 :: S1, S2, by simp, ⟨G, S1, rfl, hg, h1⟩, h2⟩
    · rintro ⟨S1, S2, rfl, ⟨G, R, rfl, hg, h1⟩, h2⟩
      exact ⟨G, R ++ S2, by simp, hg, ih.2 ⟨R, S2, rfl, h1, h2⟩⟩
theorem Cv.len : ∀ {X : List It} {S : List Int}, Cv X S → (S.length : Int) = totB X := by
  intro X
  induction X with
  | nil => intro S h; have h : S = [] := h; subst h; rfl
  | cons p X ih =>
    rintro S ⟨G, R, rfl, hg, h⟩
    have := ih h
    simp only [List.length_append, List.length_cons, totB]
    omega
theorem Cv.mg {X : List It} {S : List Int} {l : Int} (h0 : 0 ≤ l) (h1 : l < 30) (hd : Ds X) (hc : 2 ≤ cn l X) (h : Cv X S) : Cv (mgB X l) S := by
  obtain ⟨P, a, b, Q, rfl, e2, e3, e4⟩ := split2 hd hc
  rw [mgB_split e2]
  obtain ⟨S1, S2, rfl, k1, G, R, rfl, hg, G2, R2, rfl, hg2, k2⟩ := Cv.app.1 h
  simp only at hg hg2
  refine Cv.app.2 ⟨S1, _, rfl, k1, G ++ a :: G2, R2, by simp, ?_, k2⟩
  simp only [List.length_append, List.length_cons]
  rw [szB_two h0 h1]
  omega
theorem puS_cv {k T t : Int} (hT : T ≤ 1073741824) : ∀ {n : Nat} {l : Int} {X : List It} {S : List Int}, Iv X k l T t → l + n = 31 → Cv X S → Cv (puS k n l X) S := by
  intro n
  induction n with
  | zero => intro l X S _ _ h; exact h
  | succ n ih =>
    intro l X S h hn hC
    by_cases hc : (cn l X : Int) ≤ k + 1
    · rw [puS_at hc]; exact hC
    · rw [puS_step hc]
      obtain ⟨h1, h2, h3, h4⟩ := h.next hT (by omega) hc
      exact ih h4 (by omega) (Cv.mg h.l0 h1 h.ds h3 hC)
theorem puB_cv {X : List It} {S : List Int} {k t : Int} (h : Va X k) (h0 : 0 ≤ t) (h1 : t ≤ 16777216) (hl : ∀ x ∈ X, x.1 ≤ t) (hT : totB X < 1073741824) (hC : Cv X S) : Cv (puB k t X) (S ++ [t]) :=
  puS_cv (by omega) (h.start h0 h1 hl) rfl (Cv.app.2 ⟨S, [t], rfl, hC, [], [], rfl, rfl, rfl⟩)
/-- The ticks of a list after an insertion are those that were there, and the new one. -/
theorem puS_tick {k T t : Int} (hT : T ≤ 1073741824) : ∀ {n : Nat} {l : Int} {X : List It}, Iv X k l T t → l + n = 31 → ∀ x ∈ puS k n l X, ∃ y ∈ X, y.1 = x.1 := by
  intro n
  induction n with
  | zero => intro l X _ _ x hx; exact ⟨x, hx, rfl⟩
  | succ n ih =>
    intro l X h hn x hx
    by_cases hc : (cn l X : Int) ≤ k + 1
    · rw [puS_at hc] at hx; exact ⟨x, hx, rfl⟩
    · rw [puS_step hc] at hx
      obtain ⟨h1, h2, h3, h4⟩ := h.next hT (by omega) hc
      obtain ⟨y, hy, e⟩ := ih h4 (by omega) x hx
      rcases mg_mem h.ds h3 hy with g | g
      · exact ⟨y, g, e⟩
      · exact ⟨_, g.2, e⟩
theorem puB_tick {X : List It} {k t : Int} (h : Va X k) (h0 : 0 ≤ t) (h1 : t ≤ 16777216) (hl : ∀ x ∈ X, x.1 ≤ t) (hT : totB X < 1073741824) : ∀ x ∈ puB k t X, x.1 = t ∨ ∃ y ∈ X, y.1 = x.1 := by
  intro x hx
  obtain ⟨y, hy, e⟩ := puS_tick (by omega) (h.start h0 h1 hl) rfl x hx
  rcases List.mem_append.1 hy with g | g
  · exact Or.inr ⟨y, g, e⟩
  · simp only [List.mem_singleton] at g; subst g; exact Or.inl e.symm
/-- How many ticks are live. -/
def lvN (S : List Int) (now v : Int) : Nat := S.countP (fun t => decide (now - v < t) && decide (t ≤ now))
theorem lvN_app (P S : List Int) (now v : Int) : lvN (P ++ S) now v = lvN P now v + lvN S now v := List.countP_append
theorem lvN_le (S : List Int) (now v : Int) : lvN S now v ≤ S.length := List.countP_le_length
theorem lvN_zero {S : List Int} {now v : Int} (h : ∀ x ∈ S, x ≤ now - v) : lvN S now v = 0 := by
  unfold lvN; rw [List.countP_eq_zero]; intro x hx; have := h x hx; simp; omega
theorem lvN_all {S : List Int} {now v : Int} (h : ∀ x ∈ S, now - v < x ∧ x ≤ now) : lvN S now v = S.length := by
  unfold lvN; rw [List.countP_eq_length]; intro x hx; have := h x hx; simp; omega
/-- The state after items M. -/
structure Hs (v k c now : Int) (X M : List It) : Prop where
  st : stC v k c now X = true
  asc : M.Pairwise (fun x y => x.1 ≤ y.1)
  rg : ∀ x ∈ M, 0 ≤ x.1 ∧ x.1 ≤ now
  cv : ∃ P S, M.map (fun x => x.1) = P ++ S ∧ (∀ x ∈ P, x ≤ now - v) ∧ Cv X S
theorem Hs.start {v k c now : Int} (h : mayC v k c now = true) : Hs v k c now [] [] :=
  ⟨stC_yes h (Va.nil (mayC_true h).2.1 (by have := (mayC_true h).2.2; omega)) (lvX_iff.2 (fun x hx => (by cases hx))) (by have := (mayC_facts h).2.2.1.1; simp only [totB]; omega),
   List.Pairwise.nil, (fun x hx => (by cases hx)), [], [], rfl, (fun x hx => (by cases hx)), rfl⟩
theorem stC_add {v k c now : Int} {X : List It} (h : stC v k c now X = true) (hc : totB X ≠ c) : stC v k c now (puB k now X) = true ∧ (0 ≤ now ∧ now ≤ 16777216) ∧ (∀ x ∈ X, x.1 ≤ now) ∧ totB X + 1 ≤ 1073741824 := by
  obtain ⟨a1, a2, a3, a4⟩ := stC_true h
  obtain ⟨g1, g2, g3, g4⟩ := mayC_facts a1
  have hl := lvX_iff.1 a3
  have hx : ∀ x ∈ X, x.1 ≤ now := fun x hx => ((live_iff g4 (a2.rg x hx).1.1).1 (hl x hx)).2
  obtain ⟨b1, b2, b3⟩ := puB_va a2 g1.1 g1.2 hx (by omega)
  refine ⟨stC_yes a1 b1 (lvX_iff.2 (fun x hx2 => ?_)) (by omega), g1, hx, by omega⟩
  rcases puB_tick a2 g1.1 g1.2 hx (by omega) x hx2 with e | ⟨y, hy, e⟩
  · rw [e]; exact (live_iff g4 g1.1).2 ⟨by omega, by omega⟩
  · rw [← e]; exact hl y hy
theorem Hs.add {v k c now y : Int} {X M : List It} (h : Hs v k c now X M) (hc : totB X ≠ c) : Hs v k c now (puB k now X) (M ++ [(now, y)]) := by
  obtain ⟨b1, b2, b3, b4⟩ := stC_add h.st hc
  obtain ⟨a1, a2, a3, a4⟩ := stC_true h.st
  refine ⟨b1, ?_, ?_, ?_⟩
  · rw [List.pairwise_append]
    refine ⟨h.asc, List.pairwise_singleton _ _, fun x hx z hz => ?_⟩
    simp only [List.mem_singleton] at hz
    subst hz
    exact (h.rg x hx).2
  · intro x hx
    rcases List.mem_append.1 hx with g | g
    · exact h.rg x g
    · simp only [List.mem_singleton] at g; subst g; exact ⟨b2.1, Int.le_refl _⟩
  · obtain ⟨P, S, e, hP, hC⟩ := h.cv
    exact ⟨P, S ++ [now], by rw [List.map_append, e, List.append_assoc]; rfl, hP, puB_cv a2 b2.1 b2.2 b3 (by omega) hC⟩
/-- The lower bound of the answer. -/
def qlo0 (X : List It) : Int := if X = [] then 0 else totB X - szB (X.getD 0 (0, 0)).2 + 1
/-- The number of live items lies between the bounds, which are narrow. -/
theorem Hs.holds {v k c now : Int} {X M : List It} (h : Hs v k c now X M) : qlo0 X ≤ (lvN (M.map (fun x => x.1)) now v : Int) ∧ (lvN (M.map (fun x => x.1)) now v : Int) ≤ totB X ∧ k * (totB X - qlo0 X) ≤ qlo0 X ∧ 0 ≤ qlo0 X ∧ qlo0 X ≤ totB X := by
  obtain ⟨a1, a2, a3, a4⟩ := stC_true h.st
  obtain ⟨g1, g2, g3, g4⟩ := mayC_facts a1
  obtain ⟨P, S, e, hP, hC⟩ := h.cv
  have hl := lvX_iff.1 a3
  have hs : (M.map (fun x => x.1)).Pairwise (fun x y => x ≤ y) := List.pairwise_map.2 h.asc
  have hn : ∀ x ∈ S, x ≤ now := fun x hx => by
    have g6 : x ∈ M.map (fun x => x.1) := by rw [e]; simp [hx]
    obtain ⟨y, hy, rfl⟩ := List.mem_map.1 g6
    exact (h.rg y hy).2
  rw [e] at hs
  rw [e, lvN_app, lvN_zero hP, Nat.zero_add]
  have hlen := hC.len
  have hle := lvN_le S now v
  cases X with
  | nil =>
    have hC : S = [] := hC
    subst hC
    unfold qlo0 lvN
    simp [totB]
  | cons p X =>
    obtain ⟨n1, n2, n3⟩ := a2.narrow (by simp)
    have e0 : ((p :: X).getD 0 (0, 0)) = p := rfl
    rw [e0] at n1 n2 n3
    unfold qlo0
    rw [if_neg (by simp), e0]
    have e4 : k * (totB (p :: X) - (totB (p :: X) - szB p.2 + 1)) = k * (szB p.2 - 1) := by rw [show totB (p :: X) - (totB (p :: X) - szB p.2 + 1) = szB p.2 - 1 by omega]
    refine ⟨?_, by omega, by rw [e4]; omega, by omega, by omega⟩
    obtain ⟨G, R, rfl, hg, hC2⟩ := hC
    obtain ⟨_, hs2, _⟩ := List.pairwise_append.1 hs
    obtain ⟨_, hs3, _⟩ := List.pairwise_append.1 hs2
    have hp := (live_iff g4 (a2.rg p List.mem_cons_self).1.1).1 (hl p List.mem_cons_self)
    have hall : lvN (p.1 :: R) now v = (p.1 :: R).length := lvN_all (fun x hx => by
      refine ⟨?_, hn x (List.mem_append_right _ hx)⟩
      rcases List.mem_cons.1 hx with rfl | hx
      · exact hp.1
      · have := (List.pairwise_cons.1 hs3).1 x hx; omega)
    rw [lvN_app, hall]
    have := hC2.len
    simp only [totB, List.length_cons]
    omega
end Go.Proofs.Ytegaeaonoggmkaa

namespace Go.Proofs.Ytegaeaonoggmkaa
open Go.RowKit
set_option linter.unusedVariables false

/-- An address that was not there before. -/
def Nw (w : World) (A : Option Addr) : Prop := ∀ b o, A = some ⟨b, o, none⟩ → w.heap.size ≤ b
theorem Nw.up {w w1 : World} {A : Option Addr} (h : Nw w1 A) (hu : Up w w1) : Nw w A := fun b o e => Nat.le_trans hu.size (h b o e)
end Go.Proofs.Ytegaeaonoggmkaa

namespace Go.Proofs.Ytegaeaonoggmkaa
open Go.RowKit
set_option linter.unusedVariables false

theorem Sn.one {w : World} {A : Option Addr} {n : Nat} {L : List Int} (h : Sn w A n L) {k : Nat} (hk : k < n) : ∃ b o, A = some ⟨b, o, none⟩ ∧ w.cell? ⟨b, o + k, none⟩ = some (.int .i64 (L.getD k 0)) := by
  obtain ⟨b, o, e, hc⟩ := h.2 (by omega)
  exact ⟨b, o, e, hc k hk⟩
theorem Sn.far {w : World} {A : Option Addr} {n p o : Nat} {M : List Int} (h : Sn w A n M) (hn : ∀ b o, A = some ⟨b, o, none⟩ → b ≠ p) (x : Value) : Sn (w.setCell ⟨p, o, none⟩ x) A n M := by
  refine ⟨h.1, fun h0 => ?_⟩
  obtain ⟨b, q, e, hc⟩ := h.2 h0
  exact ⟨b, q, e, fun j hj => (cell_far (show p ≠ b from fun z => hn b q e z.symm)).trans (hc j hj)⟩
/-- A store into a row. -/
theorem Sn.put {w : World} {b o n i : Nat} {L : List Int} {x : Int} (h : Sn w (some ⟨b, o, none⟩) n L) (hi : i < n) : Sn (w.setCell ⟨b, o + i, none⟩ (.int .i64 x)) (some ⟨b, o, none⟩) n (L.set i x) := by
  refine ⟨by rw [List.length_set]; exact h.1, fun h0 => ?_⟩
  obtain ⟨b', o', e, hc⟩ := h.2 h0
  injection e with e
  injection e with e1 e2
  subst e1 e2
  refine ⟨b, o, rfl, fun j hj => ?_⟩
  by_cases e : i = j
  · subst e
    rw [World.cell?_setCell_same _ _ _ (hc i hj)]
    simp [List.getD, h.1, hj]
  · rw [World.cell?_setCell_other _ _ _ _ (by intro e3; injection e3 with e4 e5; omega), hc j hj]
    simp [List.getD, e]
/-- Results with a row in a new block and its room; and without. -/
def RsH (q : QH) (w : World) (e : Ending) (w' : World) : Prop := ∃ (A : Option Addr) (k : Nat), e = .returned (.tuple #[.agg #[.int .i64 q.1, .slice A q.2.1.length k], .int .i64 q.2.2]) ∧ (q.2.1.length ≤ k ∧ Nw w A) ∧ Sn w' A q.2.1.length q.2.1 ∧ Up w w'
def RsHO (q : QH) (w : World) (e : Ending) (w' : World) : Prop := ∃ (A : Option Addr) (k : Nat), e = .returned (.tuple #[.agg #[.int .i64 q.1, .slice A q.2.1.length k], .int .i64 q.2.2]) ∧ Sn w' A q.2.1.length q.2.1 ∧ Up w w'
theorem RsH.no {e : Int} {w w' : World} {v : Ending} (h : v = .returned (.tuple #[.agg #[.int .i64 0, .slice none 0 0], .int .i64 e])) (hu : Up w w') : RsH (noH e) w v w' := ⟨none, 0, h, ⟨Nat.le_refl _, fun _ _ q => (by cases q)⟩, Sn.none_, hu⟩
theorem RsH.yes {c e : Int} {X : List Int} {A : Option Addr} {n k : Nat} {w w' : World} {v : Ending} (h : v = .returned (.tuple #[.agg #[.int .i64 c, .slice A n k], .int .i64 e])) (hN : n ≤ k ∧ Nw w A) (hS : Sn w' A n X) (hu : Up w w') : RsH (c, X, e) w v w' := by
  obtain rfl : X.length = n := hS.1
  exact ⟨A, k, h, hN, hS, hu⟩
theorem RsH.of {c e : Int} {X : List Int} {w w' : World} {v : Ending} (h : RsH (c, X, e) w v w') : ∃ (A : Option Addr) (k : Nat), v = .returned (.tuple #[.agg #[.int .i64 c, .slice A X.length k], .int .i64 e]) ∧ (X.length ≤ k ∧ Nw w A) ∧ Sn w' A X.length X ∧ Up w w' := h
theorem RsHO.of {c e : Int} {X : List Int} {w w' : World} {v : Ending} (h : RsHO (c, X, e) w v w') : ∃ (A : Option Addr) (k : Nat), v = .returned (.tuple #[.agg #[.int .i64 c, .slice A X.length k], .int .i64 e]) ∧ Sn w' A X.length X ∧ Up w w' := h
/-- A list that is filled place by place. -/
theorem filled {n : Nat} {f : Nat → Int} {M : List Int} (hl : M.length = n) (h : ∀ j, j < n → M.getD j 0 = f j) : M = byL n f := by
  subst hl
  rw [← byL_of (X := M), byL_len]
  exact byL_ext h
theorem getD_put (M : List Int) (i j : Nat) (x : Int) (hi : i < M.length) : (M.set i x).getD j 0 = if i = j then x else M.getD j 0 := by
  simp only [List.getD, List.getElem?_set]
  by_cases e : i = j
  · subst e; simp [hi]
  · simp [e]
end Go.Proofs.Ytegaeaonoggmkaa

namespace Go.Proofs.Ytegaeaonoggmkaa
open Go.RowKit
set_option linter.unusedVariables false

theorem Up.setCells {w0 : World} {b : Nat} (hb : w0.heap.size ≤ b) : ∀ (vs : List Value) (o : Nat) (w : World), Up w0 w → Up w0 (w.setCells b o vs)
  | [], _, _, h => h
  | v :: r, o, w, h => Up.setCells hb r (o + 1) _ (h.setCell hb v)
theorem Sn.setCells {w : World} {b o n d : Nat} {M X : List Int} (h : Sn w (some ⟨b, o, none⟩) n M) (hd : d + X.length ≤ n) :
    Sn (w.setCells b (o + d) (nl X)) (some ⟨b, o, none⟩) n (byL n (fun j => if d ≤ j ∧ j < d + X.length then X.getD (j - d) 0 else M.getD j 0)) := by
  refine ⟨byL_len _ _, fun h0 => ?_⟩
  obtain ⟨b', o', e, hc⟩ := h.2 h0
  injection e with e
  injection e with e1 e2
  subst e1 e2
  refine ⟨b, o, rfl, fun j hj => ?_⟩
  rw [byL_at hj]
  by_cases c : d ≤ j ∧ j < d + X.length
  · rw [if_pos c]
    have := World.cell?_setCells_in b (nl X) (o + d) w (fun i hi => by
      rw [nl_length] at hi
      rw [Nat.add_assoc, hc (d + i) (by omega)]; rfl) (j - d) (by rw [nl_length]; omega)
    rw [show o + d + (j - d) = o + j by omega] at this
    rw [this]
    simp only [nl, List.getElem_map, List.getD]
    rw [List.getElem?_eq_getElem (by omega)]
    rfl
  · rw [if_neg c, World.cell?_setCells_out b (nl X) (o + d) w _ (fun _ _ => by rw [nl_length]; show o + j < o + d ∨ o + d + X.length ≤ o + j; omega)]
    exact hc j hj
theorem copyD_run (ty : TypeId) (w : World) (b o n k d kd : Nat) (dp : Option Addr) (M : List Int) (hS : Sn w (some ⟨b, o, none⟩) n M) (hd : d ≤ n) (hdp : d < n → dp = some ⟨b, o + d, none⟩) (hf : ∀ j, w.frozen? ⟨b, j, none⟩ = false) :
    (Builtin.copy_ #[22, 22] ty #[.slice dp (n - d) kd, .slice (some ⟨b, o, none⟩) n k]).run Try.prog w = .ok (.int .i64 ((n - d : Nat) : Int)) (w.setCells b (o + d) (nl (M.take (n - d)))) := by
  obtain ⟨i, hi, hz, hs, hb⟩ := info_parts int64_info
  have hmin : Nat.min n (n - d) = n - d := Nat.min_eq_right (Nat.sub_le _ _)
  by_cases h0 : d = n
  · subst h0
    have hl : ∀ (x : Addr), (loadCells x 0).run Try.prog w = .ok #[] w := fun x => by simpa using run_loadCells_list (P := Try.prog) w x [] (by simp)
    rw [Nat.sub_self] at hmin ⊢
    cases dp <;> simp [Builtin.copy_, run_underlying Try.underlying22, Builtin.lenOf, Builtin.firstCells, sizeOf, typeInfo, hi, storeCells, hl, goInt, nl, World.setCells]
  · obtain rfl := hdp (by omega)
    obtain ⟨b', o', e, hc⟩ := hS.2 (by omega)
    injection e with e
    injection e with e1 e2
    subst e1 e2
    have hm : M.length = n := hS.1
    have hlen : (nl (M.take (n - d))).length = n - d := by rw [nl_length, List.length_take, hm]; omega
    have hsrc : ∀ j v, (nl (M.take (n - d)))[j]? = some v → w.cell? ((⟨b, o, none⟩ : Addr).add j) = some v := fun j v hv => by
      rw [add_at]
      obtain ⟨h1, rfl⟩ := nl_get hv
      rw [List.length_take, hm] at h1
      rw [hc j (by omega)]
      simp [List.getD, show j < n - d by omega]
    have hl := run_loadCells_list (P := Try.prog) w ⟨b, o, none⟩ (nl (M.take (n - d))) hsrc
    have hst := run_storeCells_cells (P := Try.prog) b (o + d) (nl (M.take (n - d))) 0 w (fun j hj => by rw [hlen] at hj; rw [Nat.add_zero, Nat.add_assoc, hc (d + j) (by omega)]; rfl) (fun j _ => hf _) (nl_one _)
    rw [Nat.add_zero] at hst
    rw [hlen] at hl
    simp [Builtin.copy_, run_underlying Try.underlying22, Builtin.lenOf, Builtin.firstCells, sizeOf, typeInfo, hi, hmin, hs, hl, hst, goInt]
theorem zero64 (w : World) : (zeroValue 2).run Try.prog w = .ok (.int .i64 0) w := by
  obtain ⟨i, hi, hz, hs, hb⟩ := info_parts int64_info
  simp [zeroValue, typeInfo, hi, hz]
theorem clearD_run (ty : TypeId) (w : World) (b o n k d : Nat) (M : List Int) (hS : Sn w (some ⟨b, o, none⟩) n M) (hd : d ≤ n) (hf : ∀ j, w.frozen? ⟨b, j, none⟩ = false) :
    (Builtin.clear_ #[22] ty #[.slice (some ⟨b, o, none⟩) d k]).run Try.prog w = .ok (.tuple #[]) (w.setCells b o (nl (List.replicate d 0))) := by
  by_cases h0 : d = 0
  · subst h0
    simp [Builtin.clear_, run_underlying Try.underlying22, nl, World.setCells]
  · obtain ⟨b', o', e, hc⟩ := hS.2 (by omega)
    injection e with e
    injection e with e1 e2
    subst e1 e2
    have := Lib.run_clear_slice w 22 2 ty (.int .i64 0) Try.underlying22 zero64 rfl rfl b o d k (by omega) (fun j hj => by rw [hc j (by omega)]; rfl) (fun j _ => hf _)
    rw [this]
    simp [nl]
/-- Both: the row moved by d places. -/
theorem moveD (w : World) (b o n k d kc : Nat) (M : List Int) (hS : Sn w (some ⟨b, o, none⟩) n M) (hd : d ≤ n) (hf : ∀ j, w.frozen? ⟨b, j, none⟩ = false) :
    ∃ w1 w2, (∀ ty dp kd, (d < n → dp = some ⟨b, o + d, none⟩) → (Builtin.copy_ #[22, 22] ty #[.slice dp (n - d) kd, .slice (some ⟨b, o, none⟩) n k]).run Try.prog w = .ok (.int .i64 ((n - d : Nat) : Int)) w1) ∧ (∀ ty, (Builtin.clear_ #[22] ty #[.slice (some ⟨b, o, none⟩) d kc]).run Try.prog w1 = .ok (.tuple #[]) w2) ∧ Sn w2 (some ⟨b, o, none⟩) n (avH d M) ∧ (∀ w0, Up w0 w → w0.heap.size ≤ b → Up w0 w2) := by
  have hm : M.length = n := hS.1
  have hl : (M.take (n - d)).length = n - d := by rw [List.length_take, hm]; omega
  have h1 := Sn.setCells (d := d) (X := M.take (n - d)) hS (by rw [hl]; omega)
  have h2 := Sn.setCells (d := 0) (X := List.replicate d 0) h1 (by simp; omega)
  refine ⟨_, _, fun ty dp kd hdp => copyD_run ty w b o n k d kd dp M hS hd hdp hf, fun ty => clearD_run ty _ b o n kc d _ h1 hd (fun j => by rw [World.frozen?_setCells]; exact hf j), ?_, fun w0 hu hb => Up.setCells hb _ _ _ (Up.setCells hb _ _ _ hu)⟩
  rw [Nat.add_zero] at h2
  refine (?_ : _ = avH d M) ▸ h2
  unfold avH
  rw [hm]
  refine byL_ext (fun j hj => ?_)
  simp only [List.length_replicate, Nat.zero_add, Nat.zero_le, true_and, Nat.sub_zero]
  by_cases c : j < d
  · rw [if_pos c, if_neg (by omega)]
    simp [List.getD, c]
  · rw [if_neg c, if_pos (by omega), byL_at hj, if_pos ⟨by omega, by rw [hl]; omega⟩]
    simp only [List.getD, List.getElem?_take]
    rw [if_pos (by omega)]
/-- An age beyond the row. -/
theorem avH_min (d : Nat) (S : List Int) : avH (min d S.length) S = avH d S := by
  unfold avH
  refine byL_ext (fun e he => ?_)
  by_cases h : d ≤ S.length
  · rw [Nat.min_eq_left h]
  · rw [Nat.min_eq_right (by omega), if_neg (by omega), if_neg (by omega)]

/-- The weighted sum from the other end: twice the sum so far and the next one. -/
def hoF (f : Nat → Int) : Nat → Int
  | 0 => 0
  | n + 1 => 2 * hoF f n + f n
theorem hoF_as {a : Nat} {f : Nat → Int} : ∀ {n : Nat}, n ≤ a → asF a f n = hoF f n * 2 ^ (a - n)
  | 0, _ => by simp [asF, hoF]
  | n + 1, h => by
    have ih := hoF_as (f := f) (show n ≤ a by omega)
    show asF a f n + f n * 2 ^ (a - 1 - n) = (2 * hoF f n + f n) * 2 ^ (a - (n + 1))
    rw [ih, show a - n = (a - (n + 1)) + 1 by omega, Int.pow_succ, show a - 1 - n = a - (n + 1) by omega, Int.add_mul]
    generalize (2 : Int) ^ (a - (n + 1)) = p
    rw [Int.mul_comm 2 (hoF f n), Int.mul_assoc, Int.mul_comm 2 p]
theorem hoF_all (a : Nat) (f : Nat → Int) : hoF f a = asF a f a := by rw [hoF_as (Nat.le_refl _), Nat.sub_self, Int.pow_zero, Int.mul_one]
theorem hoF_bd {f : Nat → Int} {n : Nat} (h : ∀ e, e < n → 0 ≤ f e ∧ f e ≤ 1099511627776) : 0 ≤ hoF f n ∧ hoF f n ≤ 1099511627776 * (2 ^ n - 1) := by
  induction n with
  | zero => simp [hoF]
  | succ n ih =>
    have := ih (fun e he => h e (by omega))
    have q := h n (by omega)
    show 0 ≤ 2 * hoF f n + f n ∧ 2 * hoF f n + f n ≤ _
    rw [Int.pow_succ]
    omega
theorem hoF_in {f : Nat → Int} {n : Nat} (hn : n ≤ 64) (h : ∀ e, e < n → 0 ≤ f e ∧ f e ≤ 1099511627776) : 0 ≤ hoF f n ∧ hoF f n ≤ 20282409603651670423947251286016 := by
  have q := hoF_bd h
  have p : (2 : Int) ^ n ≤ 2 ^ 64 := two_pow_le hn
  rw [show (2 : Int) ^ 64 = 18446744073709551616 by decide] at p
  omega
end Go.Proofs.Ytegaeaonoggmkaa
