/- Texts of these claims, one after the other. -/
import Derived.Test.YtchikndofpkjmaaRows
import Derived.Test.YtchikndofpkjmaaZGLawq39
namespace Go.Proofs.Ytchikndofpkjmaa
open Go.RowKit

def kB (k : Int) : Bool := decide (1 ≤ k ∧ k ≤ 128)
def levB (l : Int) : Bool := decide (0 ≤ l ∧ l ≤ 30)
theorem kB_true {k : Int} (h : kB k = true) : 1 ≤ k ∧ k ≤ 128 := of_decide_eq_true h
theorem levB_true {k : Int} (h : levB k = true) : 0 ≤ k ∧ k ≤ 30 := of_decide_eq_true h
end Go.Proofs.Ytchikndofpkjmaa

namespace Go.Proofs.Ytchikndofpkjmaa
open Go.RowKit

/-- What is asked of the bucket at place j. -/
def okO (L : List It) (j : Nat) : Prop := tickB (L.getD j (0, 0)).1 = true ∧ levB (L.getD j (0, 0)).2 = true ∧ (0 < j → (L.getD (j - 1) (0, 0)).1 ≤ (L.getD j (0, 0)).1 ∧ (L.getD j (0, 0)).2 ≤ (L.getD (j - 1) (0, 0)).2)
instance (L : List It) (j : Nat) : Decidable (okO L j) := by unfold okO; infer_instance
def orB (L : List It) : Bool := decide (∀ j, j < L.length → okO L j)
theorem gD_mem {L : List It} {j : Nat} (h : j < L.length) : L.getD j (0, 0) ∈ L := by simp [List.getD, h]
theorem gD_at {L : List It} {j : Nat} (h : j < L.length) : L.getD j (0, 0) = L[j] := by simp [List.getD, h]
theorem adj_all {f : It → Int} {L : List It} (h : ∀ j, j < L.length → 0 < j → f (L.getD (j - 1) (0, 0)) ≤ f (L.getD j (0, 0))) : ∀ d i, i + d < L.length → f (L.getD i (0, 0)) ≤ f (L.getD (i + d) (0, 0)) := by
  intro d
  induction d with
  | zero => intro i _; exact Int.le_refl _
  | succ d ih =>
    intro i hi
    have h1 := ih i (by omega)
    have h2 := h (i + (d + 1)) hi (by omega)
    rw [show i + (d + 1) - 1 = i + d by omega] at h2
    omega
theorem orB_iff {L : List It} : orB L = true ↔ Rg L ∧ Ds L ∧ As L := by
  unfold orB
  rw [decide_eq_true_eq]
  constructor
  · intro h
    refine ⟨fun x hx => ?_, ?_, ?_⟩
    · obtain ⟨j, hj, rfl⟩ := List.mem_iff_getElem.1 hx
      obtain ⟨g1, g2, _⟩ := h j hj
      rw [gD_at hj] at g1 g2
      have := tickB_true g1; have := levB_true g2
      omega
    · unfold Ds
      rw [List.pairwise_iff_getElem]
      intro i j hi hj hij
      have g := adj_all (f := fun x => -x.2) (L := L) (fun j hj h0 => by have := ((h j hj).2.2 h0).2; omega) (j - i) i (by omega)
      rw [show i + (j - i) = j by omega, gD_at hi, gD_at hj] at g
      omega
    · unfold As
      rw [List.pairwise_iff_getElem]
      intro i j hi hj hij
      have g := adj_all (f := fun x => x.1) (L := L) (fun j hj h0 => ((h j hj).2.2 h0).1) (j - i) i (by omega)
      rw [show i + (j - i) = j by omega, gD_at hi, gD_at hj] at g
      exact g
  · rintro ⟨h1, h2, h3⟩ j hj
    have r := h1 _ (gD_mem hj)
    refine ⟨tickB_yes r.1.1 r.1.2, decide_eq_true r.2, fun h0 => ?_⟩
    rw [gD_at hj, gD_at (show j - 1 < L.length by omega)]
    exact ⟨List.pairwise_iff_getElem.1 h3 (j - 1) j (by omega) hj (by omega), List.pairwise_iff_getElem.1 h2 (j - 1) j (by omega) hj (by omega)⟩
end Go.Proofs.Ytchikndofpkjmaa

namespace Go.Proofs.Ytchikndofpkjmaa
open Go.RowKit

/-- The cells of the array. -/
def tyL (f : Nat → Int) : List Value := (List.range 31).map (fun j => .int .i64 (f j))
theorem tyL_at (f : Nat → Int) {j : Nat} (h : j < 31) : (tyL f)[j]? = some (.int .i64 (f j)) := by simp [tyL, h]
end Go.Proofs.Ytchikndofpkjmaa

namespace Go.Proofs.Ytchikndofpkjmaa
open Go.RowKit

section
variable {w w' : World} {g k n : Nat} {L : List It}
end
theorem Cp.drewN {w w' : World} {g : Nat} (h : Cp w w' g) (n : Nat) : Cp w (w'.drewN n) g := ⟨fun w0 h0 hg => (h.up w0 h0 hg).drewN n, h.far, h.size, h.fr⟩
theorem Cp.trans {w w' w2 : World} {g : Nat} (h : Cp w w' g) (h2 : Cp w' w2 g) : Cp w w2 g :=
  ⟨fun w0 h0 hg => h2.up w0 (h.up w0 h0 hg) hg, fun b hb => (h2.far b hb).trans (h.far b hb), h2.size.trans h.size, fun a => (h2.fr a).trans (h.fr a)⟩
end Go.Proofs.Ytchikndofpkjmaa

namespace Go.Proofs.Ytchikndofpkjmaa
open Go.RowKit

def ctO (L : List It) (k : Int) (j : Nat) : Prop := ((j : Int) < (L.getD 0 (0, 0)).2 → k ≤ (cn (j : Int) L : Int)) ∧ (cn (j : Int) L : Int) ≤ k + 1
instance (L : List It) (k : Int) (j : Nat) : Decidable (ctO L k j) := by unfold ctO; infer_instance
def ctB (L : List It) (k : Int) : Bool := decide (∀ j ∈ List.range 31, ctO L k j)
def vaB (L : List It) (k : Int) : Bool := kB k && (orB L && ctB L k)
theorem vaB_iff {L : List It} {k : Int} : vaB L k = true ↔ Va L k := by
  unfold vaB
  rw [Bool.and_eq_true, Bool.and_eq_true, orB_iff]
  unfold ctB
  rw [decide_eq_true_eq]
  simp only [List.mem_range]
  constructor
  · rintro ⟨h1, ⟨h2, h3, h4⟩, h5⟩
    have hk := kB_true h1
    have up : ∀ j, (cn j L : Int) ≤ k + 1 := fun j => by
      by_cases hj : 0 ≤ j ∧ j < 31
      · have := (h5 j.toNat (by omega)).2
        rwa [show ((j.toNat : Nat) : Int) = j by omega] at this
      · have : cn j L = 0 := cn_zero (fun x hx => by have := (h2 x hx).2; omega)
        rw [this]; omega
    refine ⟨hk.1, hk.2, h2, h3, h4, up, fun x hx j hj hjx => ?_⟩
    have h0 := h3.top x hx
    have := (h2 x hx).2
    have := (h5 j.toNat (by omega)).1
    rw [show ((j.toNat : Nat) : Int) = j by omega] at this
    exact this (by omega)
  · intro h
    refine ⟨decide_eq_true ⟨h.k1, h.k2⟩, ⟨h.rg, h.ds, h.as_⟩, fun j hj => ⟨fun hlt => ?_, h.up _⟩⟩
    by_cases hX : L = []
    · subst hX; simp at hlt; omega
    · exact h.fl _ (getD0_mem hX) _ (by omega) hlt
end Go.Proofs.Ytchikndofpkjmaa

namespace Go.Proofs.Ytchikndofpkjmaa
open Go.RowKit

/-- A block of 31 numbers, made by the reference. -/
def Mk (w : World) (g : Nat) (f : Nat → Int) : Prop := Blk w g 3 (tyL f).toArray
theorem Mk.at_ {w : World} {g : Nat} {f : Nat → Int} (h : Mk w g f) {j : Nat} (hj : j < 31) : w.cell? ⟨g, j, none⟩ = some (.int .i64 (f j)) := by
  rw [Blk.cell h]; simp [tyL_at f hj]
theorem Mk.up {w w' : World} {g : Nat} {f : Nat → Int} (h : Mk w g f) (hu : Up w w') : Mk w' g f := Blk.up h hu
end Go.Proofs.Ytchikndofpkjmaa

namespace Go.Proofs.Ytchikndofpkjmaa
open Go.RowKit

/-- Rows of numbers. -/
def il (L : List Int) : List Value := L.map (.int .i64)
def OwI (w0 w : World) (v : Value) (n : Nat) (L : List Int) : Prop := Rw w0 w 3 1 v n (il L)
theorem OwI.nil (w0 w : World) : OwI w0 w (.slice none 0 0) 0 [] := Rw.nil _ _ _ _
theorem OwI.of_up {w0 w w' : World} {v : Value} {n : Nat} {L : List Int} (h : OwI w0 w v n L) (hu : Up w w') : OwI w0 w' v n L := Rw.of_up h hu
end Go.Proofs.Ytchikndofpkjmaa

namespace Go.Proofs.Ytchikndofpkjmaa
open Go.RowKit

def mayB (v c now : Int) : Bool := (tickB now && winB v) && decide (1 ≤ c ∧ c ≤ 65536)
theorem mayB_true {v c now : Int} (h : mayB v c now = true) : tickB now = true ∧ winB v = true ∧ 1 ≤ c ∧ c ≤ 65536 := by
  unfold mayB at h
  simp only [Bool.and_eq_true, decide_eq_true_eq] at h
  exact ⟨h.1.1, h.1.2, h.2⟩
end Go.Proofs.Ytchikndofpkjmaa

namespace Go.Proofs.Ytchikndofpkjmaa
open Go.RowKit

theorem rmay_any (v c now : Int) (w : World) :
    Calls Try.prog 39 #[.int .i64 v, .int .i64 c, .int .i64 now] w fun e w' => e = .returned (.bool (mayB v c now)) ∧ w = w' := by
  have KT := Lib.hid (rtick_any now)
  have KW := Lib.hid (rwin_any v)
  cases hv : winB v with
  | false =>
    have e0 : mayB v c now = false := by unfold mayB; rw [hv, Bool.and_false]; rfl
    rw [e0]
    rw [hv] at KW
    clear hv e0
    go_enter Try.func39, Try.ntmps39
    go_wp2_with (go_at_call 78; (with_reducible refine (KW.out _).mono ?_); rintro e w' ⟨rfl, rfl⟩)
    go_ret
    exact ⟨rfl, rfl⟩
  | true =>
    rw [hv] at KW
    have e0 : mayB v c now = (tickB now && decide (1 ≤ c ∧ c ≤ 65536)) := by unfold mayB; rw [hv, Bool.and_true]
    rw [e0]
    clear hv e0
    generalize tickB now = t at *
    by_cases h1 : 1 ≤ c
    · by_cases h2 : c ≤ 65536
      · rw [decide_eq_true (p := 1 ≤ c ∧ c ≤ 65536) ⟨h1, h2⟩]
        go_enter Try.func39, Try.ntmps39
        go_wp2_with (first | (go_at_call 79; (with_reducible refine (KT.out _).mono ?_); rintro e w' ⟨rfl, rfl⟩) | (go_at_call 78; (with_reducible refine (KW.out _).mono ?_); rintro e w' ⟨rfl, rfl⟩))
        go_ret
        exact ⟨by cases t <;> rfl, rfl⟩
      · rw [decide_eq_false (p := 1 ≤ c ∧ c ≤ 65536) (fun h => h2 h.2), Bool.and_false]
        have t2 : decide (c ≤ 65536) = false := decide_eq_false h2
        go_enter Try.func39, Try.ntmps39
        go_wp2_with (first | (go_at_call 79; (with_reducible refine (KT.out _).mono ?_); rintro e w' ⟨rfl, rfl⟩) | (go_at_call 78; (with_reducible refine (KW.out _).mono ?_); rintro e w' ⟨rfl, rfl⟩))
        go_ret
        exact ⟨rfl, rfl⟩
    · rw [decide_eq_false (p := 1 ≤ c ∧ c ≤ 65536) (fun h => h1 h.1), Bool.and_false]
      go_enter Try.func39, Try.ntmps39
      go_wp2_with (first | (go_at_call 79; (with_reducible refine (KT.out _).mono ?_); rintro e w' ⟨rfl, rfl⟩) | (go_at_call 78; (with_reducible refine (KW.out _).mono ?_); rintro e w' ⟨rfl, rfl⟩))
      go_ret
      exact ⟨rfl, rfl⟩

end Go.Proofs.Ytchikndofpkjmaa

namespace Go.Proofs.Ytchikndofpkjmaa
open Go.RowKit

def valueB (v : Int) : Bool := decide (-4096 ≤ v ∧ v ≤ 4096)
end Go.Proofs.Ytchikndofpkjmaa

namespace Go.Proofs.Ytchikndofpkjmaa
open Go.RowKit

/-- Parameters; all buckets live; valid states. -/
def mayC (v k c now : Int) : Bool := mayB v c now && decide (1 ≤ k ∧ k ≤ 64)
def lvX (now v : Int) (X : List It) : Bool := decide (∀ j, j < X.length → liveB now v (X.getD j (0, 0)).1 = true)
def stC (v k c now : Int) (X : List It) : Bool := mayC v k c now && (vaB X k && (lvX now v X && decide (totB X ≤ c)))
theorem mayC_true {v k c now : Int} (h : mayC v k c now = true) : mayB v c now = true ∧ 1 ≤ k ∧ k ≤ 64 := by
  unfold mayC at h
  rw [Bool.and_eq_true, decide_eq_true_eq] at h
  exact ⟨h.1, h.2⟩
theorem lvX_iff {now v : Int} {X : List It} : lvX now v X = true ↔ ∀ x ∈ X, liveB now v x.1 = true := by
  unfold lvX
  rw [decide_eq_true_eq]
  constructor
  · intro h x hx
    obtain ⟨j, hj, rfl⟩ := List.mem_iff_getElem.1 hx
    have := h j hj
    rw [gD_at hj] at this
    exact this
  · intro h j hj
    exact h _ (gD_mem hj)
theorem stC_true {v k c now : Int} {X : List It} (h : stC v k c now X = true) : mayC v k c now = true ∧ Va X k ∧ lvX now v X = true ∧ totB X ≤ c := by
  unfold stC at h
  simp only [Bool.and_eq_true, decide_eq_true_eq] at h
  exact ⟨h.1, vaB_iff.1 h.2.1, h.2.2.1, h.2.2.2⟩
theorem stC_yes {v k c now : Int} {X : List It} (h1 : mayC v k c now = true) (h2 : Va X k) (h3 : lvX now v X = true) (h4 : totB X ≤ c) : stC v k c now X = true := by
  unfold stC
  rw [h1, vaB_iff.2 h2, h3, decide_eq_true h4]
  rfl
theorem mayC_facts {v k c now : Int} (h : mayC v k c now = true) : (0 ≤ now ∧ now ≤ 16777216) ∧ (1 ≤ v ∧ v ≤ 1048576) ∧ (1 ≤ c ∧ c ≤ 65536) ∧ (tickB now && winB v) = true := by
  obtain ⟨h1, h2, h3⟩ := mayC_true h
  obtain ⟨a, b, d, e⟩ := mayB_true h1
  exact ⟨tickB_true a, winB_true b, ⟨d, e⟩, by rw [a, b]; rfl⟩
theorem live_iff {now v t : Int} (h : (tickB now && winB v) = true) (h0 : 0 ≤ t) : liveB now v t = true ↔ now - v < t ∧ t ≤ now := by
  rw [liveB_yes h, firZ_yes h]
  simp only [Bool.and_eq_true, decide_eq_true_eq]
  constructor <;> intro g <;> exact ⟨by omega, by omega⟩
/-- The buckets X stand for items with the ticks S: each for so many in turn, the last of them at its tick. -/
def Cv : List It → List Int → Prop
  | [], S => S = []
  | p :: X, S => ∃ G R, S = G ++ p.1 :: R ∧ (G.length : Int) + 1 = szB p.2 ∧ Cv X R
theorem Cv.app : ∀ {P X : List It} {S : List Int}, Cv (P ++ X) S ↔ ∃ S1 S2, S = S1 ++ S2 ∧ Cv P S1 ∧ Cv X S2 := by
  intro P
  induction P with
  | nil =>
    intro X S
    constructor
    · intro h; exact ⟨[], S, rfl, rfl, h⟩
    · rintro ⟨S1, S2, rfl, h1, h2⟩
      have h1 : S1 = [] := h1
      subst h1
      exact h2
  | cons p P ih =>
    intro X S
    constructor
    · rintro ⟨G, R, rfl, hg, h⟩
      obtain ⟨S1, S2, rfl, h1, h2⟩ := ih.1 h
      exact ⟨G ++ p.1 :: S1, S2, by simp, ⟨G, S1, rfl, hg, h1⟩, h2⟩
    · rintro ⟨S1, S2, rfl, ⟨G, R, rfl, hg, h1⟩, h2⟩
      exact ⟨G, R ++ S2, by simp, hg, ih.2 ⟨R, S2, rfl, h1, h2⟩⟩
theorem Cv.len : ∀ {X : List It} {S : List Int}, Cv X S → (S.length : Int) = totB X := by
  intro X
  induction X with
  | nil => intro S h; have h : S = [] := h; subst h; rfl
  | cons p X ih =>
    rintro S ⟨G, R, rfl, hg, h⟩
    have := ih h
    simp only [List.length_append, List.length_cons, totB]
    omega
theorem Cv.mg {X : List It} {S : List Int} {l : Int} (h0 : 0 ≤ l) (h1 : l < 30) (hd : Ds X) (hc : 2 ≤ cn l X) (h : Cv X S) : Cv (mgB X l) S := by
  obtain ⟨P, a, b, Q, rfl, e2, e3, e4⟩ := split2 hd hc
  rw [mgB_split e2]
  obtain ⟨S1, S2, rfl, k1, G, R, rfl, hg, G2, R2, rfl, hg2, k2⟩ := Cv.app.1 h
  simp only at hg hg2
  refine Cv.app.2 ⟨S1, _, rfl, k1, G ++ a :: G2, R2, by simp, ?_, k2⟩
  simp only [List.length_append, List.length_cons]
  rw [szB_two h0 h1]
  omega
theorem puS_cv {k T t : Int} (hT : T ≤ 1073741824) : ∀ {n : Nat} {l : Int} {X : List It} {S : List Int}, Iv X k l T t → l + n = 31 → Cv X S → Cv (puS k n l X) S := by
  intro n
  induction n with
  | zero => intro l X S _ _ h; exact h
  | succ n ih =>
    intro l X S h hn hC
    by_cases hc : (cn l X : Int) ≤ k + 1
    · rw [puS_at hc]; exact hC
    · rw [puS_step hc]
      obtain ⟨h1, h2, h3, h4⟩ := h.next hT (by omega) hc
      exact ih h4 (by omega) (Cv.mg h.l0 h1 h.ds h3 hC)
theorem puB_cv {X : List It} {S : List Int} {k t : Int} (h : Va X k) (h0 : 0 ≤ t) (h1 : t ≤ 16777216) (hl : ∀ x ∈ X, x.1 ≤ t) (hT : totB X < 1073741824) (hC : Cv X S) : Cv (puB k t X) (S ++ [t]) :=
  puS_cv (by omega) (h.start h0 h1 hl) rfl (Cv.app.2 ⟨S, [t], rfl, hC, [], [], rfl, rfl, rfl⟩)
/-- The ticks of a list after an insertion are those that were there, and the new one. -/
theorem puS_tick {k T t : Int} (hT : T ≤ 1073741824) : ∀ {n : Nat} {l : Int} {X : List It}, Iv X k l T t → l + n = 31 → ∀ x ∈ puS k n l X, ∃ y ∈ X, y.1 = x.1 := by
  intro n
  induction n with
  | zero => intro l X _ _ x hx; exact ⟨x, hx, rfl⟩
  | succ n ih =>
    intro l X h hn x hx
    by_cases hc : (cn l X : Int) ≤ k + 1
    · rw [puS_at hc] at hx; exact ⟨x, hx, rfl⟩
    · rw [puS_step hc] at hx
      obtain ⟨h1, h2, h3, h4⟩ := h.next hT (by omega) hc
      obtain ⟨y, hy, e⟩ := ih h4 (by omega) x hx
      rcases mg_mem h.ds h3 hy with g | g
      · exact ⟨y, g, e⟩
      · exact ⟨_, g.2, e⟩
theorem puB_tick {X : List It} {k t : Int} (h : Va X k) (h0 : 0 ≤ t) (h1 : t ≤ 16777216) (hl : ∀ x ∈ X, x.1 ≤ t) (hT : totB X < 1073741824) : ∀ x ∈ puB k t X, x.1 = t ∨ ∃ y ∈ X, y.1 = x.1 := by
  intro x hx
  obtain ⟨y, hy, e⟩ := puS_tick (by omega) (h.start h0 h1 hl) rfl x hx
  rcases List.mem_append.1 hy with g | g
  · exact Or.inr ⟨y, g, e⟩
  · simp only [List.mem_singleton] at g; subst g; exact Or.inl e.symm
/-- How many ticks are live. -/
def lvN (S : List Int) (now v : Int) : Nat := S.countP (fun t => decide (now - v < t) && decide (t ≤ now))
theorem lvN_app (P S : List Int) (now v : Int) : lvN (P ++ S) now v = lvN P now v + lvN S now v := List.countP_append
theorem lvN_le (S : List Int) (now v : Int) : lvN S now v ≤ S.length := List.countP_le_length
theorem lvN_zero {S : List Int} {now v : Int} (h : ∀ x ∈ S, x ≤ now - v) : lvN S now v = 0 := by
  unfold lvN; rw [List.countP_eq_zero]; intro x hx; have := h x hx; simp; omega
theorem lvN_all {S : List Int} {now v : Int} (h : ∀ x ∈ S, now - v < x ∧ x ≤ now) : lvN S now v = S.length := by
  unfold lvN; rw [List.countP_eq_length]; intro x hx; have := h x hx; simp; omega
/-- The state after items M. -/
structure Hs (v k c now : Int) (X M : List It) : Prop where
  st : stC v k c now X = true
  asc : M.Pairwise (fun x y => x.1 ≤ y.1)
  rg : ∀ x ∈ M, 0 ≤ x.1 ∧ x.1 ≤ now
  cv : ∃ P S, M.map (fun x => x.1) = P ++ S ∧ (∀ x ∈ P, x ≤ now - v) ∧ Cv X S
theorem Hs.start {v k c now : Int} (h : mayC v k c now = true) : Hs v k c now [] [] :=
  ⟨stC_yes h (Va.nil (mayC_true h).2.1 (by have := (mayC_true h).2.2; omega)) (lvX_iff.2 (fun x hx => (by cases hx))) (by have := (mayC_facts h).2.2.1.1; simp only [totB]; omega),
   List.Pairwise.nil, (fun x hx => (by cases hx)), [], [], rfl, (fun x hx => (by cases hx)), rfl⟩
theorem stC_add {v k c now : Int} {X : List It} (h : stC v k c now X = true) (hc : totB X ≠ c) : stC v k c now (puB k now X) = true ∧ (0 ≤ now ∧ now ≤ 16777216) ∧ (∀ x ∈ X, x.1 ≤ now) ∧ totB X + 1 ≤ 1073741824 := by
  obtain ⟨a1, a2, a3, a4⟩ := stC_true h
  obtain ⟨g1, g2, g3, g4⟩ := mayC_facts a1
  have hl := lvX_iff.1 a3
  have hx : ∀ x ∈ X, x.1 ≤ now := fun x hx => ((live_iff g4 (a2.rg x hx).1.1).1 (hl x hx)).2
  obtain ⟨b1, b2, b3⟩ := puB_va a2 g1.1 g1.2 hx (by omega)
  refine ⟨stC_yes a1 b1 (lvX_iff.2 (fun x hx2 => ?_)) (by omega), g1, hx, by omega⟩
  rcases puB_tick a2 g1.1 g1.2 hx (by omega) x hx2 with e | ⟨y, hy, e⟩
  · rw [e]; exact (live_iff g4 g1.1).2 ⟨by omega, by omega⟩
  · rw [← e]; exact hl y hy
theorem Hs.add {v k c now y : Int} {X M : List It} (h : Hs v k c now X M) (hc : totB X ≠ c) : Hs v k c now (puB k now X) (M ++ [(now, y)]) := by
  obtain ⟨b1, b2, b3, b4⟩ := stC_add h.st hc
  obtain ⟨a1, a2, a3, a4⟩ := stC_true h.st
  refine ⟨b1, ?_, ?_, ?_⟩
  · rw [List.pairwise_append]
    refine ⟨h.asc, List.pairwise_singleton _ _, fun x hx z hz => ?_⟩
    simp only [List.mem_singleton] at hz
    subst hz
    exact (h.rg x hx).2
  · intro x hx
    rcases List.mem_append.1 hx with g | g
    · exact h.rg x g
    · simp only [List.mem_singleton] at g; subst g; exact ⟨b2.1, Int.le_refl _⟩
  · obtain ⟨P, S, e, hP, hC⟩ := h.cv
    exact ⟨P, S ++ [now], by rw [List.map_append, e, List.append_assoc]; rfl, hP, puB_cv a2 b2.1 b2.2 b3 (by omega) hC⟩
/-- The lower bound of the answer. -/
def qlo0 (X : List It) : Int := if X = [] then 0 else totB X - szB (X.getD 0 (0, 0)).2 + 1
/-- The number of live items lies between the bounds, which are narrow. -/
theorem Hs.holds {v k c now : Int} {X M : List It} (h : Hs v k c now X M) : qlo0 X ≤ (lvN (M.map (fun x => x.1)) now v : Int) ∧ (lvN (M.map (fun x => x.1)) now v : Int) ≤ totB X ∧ k * (totB X - qlo0 X) ≤ qlo0 X ∧ 0 ≤ qlo0 X ∧ qlo0 X ≤ totB X := by
  obtain ⟨a1, a2, a3, a4⟩ := stC_true h.st
  obtain ⟨g1, g2, g3, g4⟩ := mayC_facts a1
  obtain ⟨P, S, e, hP, hC⟩ := h.cv
  have hl := lvX_iff.1 a3
  have hs : (M.map (fun x => x.1)).Pairwise (fun x y => x ≤ y) := List.pairwise_map.2 h.asc
  have hn : ∀ x ∈ S, x ≤ now := fun x hx => by
    have g6 : x ∈ M.map (fun x => x.1) := by rw [e]; simp [hx]
    obtain ⟨y, hy, rfl⟩ := List.mem_map.1 g6
    exact (h.rg y hy).2
  rw [e] at hs
  rw [e, lvN_app, lvN_zero hP, Nat.zero_add]
  have hlen := hC.len
  have hle := lvN_le S now v
  cases X with
  | nil =>
    have hC : S = [] := hC
    subst hC
    unfold qlo0 lvN
    simp [totB]
  | cons p X =>
    obtain ⟨n1, n2, n3⟩ := a2.narrow (by simp)
    have e0 : ((p :: X).getD 0 (0, 0)) = p := rfl
    rw [e0] at n1 n2 n3
    unfold qlo0
    rw [if_neg (by simp), e0]
    have e4 : k * (totB (p :: X) - (totB (p :: X) - szB p.2 + 1)) = k * (szB p.2 - 1) := by rw [show totB (p :: X) - (totB (p :: X) - szB p.2 + 1) = szB p.2 - 1 by omega]
    refine ⟨?_, by omega, by rw [e4]; omega, by omega, by omega⟩
    obtain ⟨G, R, rfl, hg, hC2⟩ := hC
    obtain ⟨_, hs2, _⟩ := List.pairwise_append.1 hs
    obtain ⟨_, hs3, _⟩ := List.pairwise_append.1 hs2
    have hp := (live_iff g4 (a2.rg p List.mem_cons_self).1.1).1 (hl p List.mem_cons_self)
    have hall : lvN (p.1 :: R) now v = (p.1 :: R).length := lvN_all (fun x hx => by
      refine ⟨?_, hn x (List.mem_append_right _ hx)⟩
      rcases List.mem_cons.1 hx with rfl | hx
      · exact hp.1
      · have := (List.pairwise_cons.1 hs3).1 x hx; omega)
    rw [lvN_app, hall]
    have := hC2.len
    simp only [totB, List.length_cons]
    omega
end Go.Proofs.Ytchikndofpkjmaa

namespace Go.Proofs.Ytchikndofpkjmaa
open Go.RowKit

theorem Own.off {w0 w : World} {A : Option Addr} {n c p : Nat} {L : List It} (h : Own w0 w (.slice A n c) n L) (hp : p < w0.heap.size) : ∀ b o, A = some ⟨b, o, none⟩ → b ≠ p := by
  intro b o e
  rcases h.2 with ⟨h1, _⟩ | ⟨g, cap, cur, h1, h2, _⟩
  · injection h1 with h1; rw [h1] at e; cases e
  · injection h1 with h1
    rw [h1] at e
    injection e with e
    injection e with e1 e2
    omega
end Go.Proofs.Ytchikndofpkjmaa
