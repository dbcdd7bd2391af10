/- Texts of these claims, one after the other. -/
import Derived.Test.YtafkoddgefcpnaaRows
import Derived.Test.YtafkoddgefcpnaaZGBaseq33
import Derived.Test.YtafkoddgefcpnaaZHOrdq83
namespace Go.Proofs.Ytafkoddgefcpnaa
open Go.RowKit

theorem Sq.set {w w1 : World} {v u : Int} (h : Sq w w1 v) : Sq w (((w1.setCell ⟨w.heap.size + 1, 0, none⟩ (.int .u64 (dg3 u 0))).setCell ⟨w.heap.size + 1, 1, none⟩ (.int .u64 (dg3 u 1))).setCell ⟨w.heap.size + 1, 2, none⟩ (.int .u64 (dg3 u 2))) u := by
  have far : ∀ (W : World) (i : Nat) (x : Value) (q : Nat) (y : Value), W.cell? ⟨w.heap.size, q, none⟩ = some y → (W.setCell ⟨w.heap.size + 1, i, none⟩ x).cell? ⟨w.heap.size, q, none⟩ = some y := fun W i x q y hy => (cell_far (by show w.heap.size + 1 ≠ w.heap.size; omega)).trans hy
  refine ⟨((h.up.setCell (by show w.heap.size ≤ w.heap.size + 1; omega) _).setCell (by show w.heap.size ≤ w.heap.size + 1; omega) _).setCell (by show w.heap.size ≤ w.heap.size + 1; omega) _, far _ _ _ _ _ (far _ _ _ _ _ (far _ _ _ _ _ h.r0)), far _ _ _ _ _ (far _ _ _ _ _ (far _ _ _ _ _ h.r1)), far _ _ _ _ _ (far _ _ _ _ _ (far _ _ _ _ _ h.r2)), ?_, ?_, ?_⟩
  · rw [cell_set (cell_set (cell_set h.s0))]; rfl
  · rw [cell_set (cell_set (cell_set h.s1))]; rfl
  · rw [cell_set (cell_set (cell_set h.s2))]; rfl

end Go.Proofs.Ytafkoddgefcpnaa

namespace Go.Proofs.Ytafkoddgefcpnaa
open Go.RowKit

/-- A block of 31 numbers, made by the reference. -/
def Mk (w : World) (g : Nat) (f : Nat → Int) : Prop := Blk w g 3 (tyL f).toArray
theorem Mk.at_ {w : World} {g : Nat} {f : Nat → Int} (h : Mk w g f) {j : Nat} (hj : j < 31) : w.cell? ⟨g, j, none⟩ = some (.int .i64 (f j)) := by
  rw [Blk.cell h]; simp [tyL_at f hj]
theorem Mk.up {w w' : World} {g : Nat} {f : Nat → Int} (h : Mk w g f) (hu : Up w w') : Mk w' g f := Blk.up h hu
end Go.Proofs.Ytafkoddgefcpnaa

namespace Go.Proofs.Ytafkoddgefcpnaa
open Go.RowKit

theorem OwI.of_up {w0 w w' : World} {v : Value} {n : Nat} {L : List Int} (h : OwI w0 w v n L) (hu : Up w w') : OwI w0 w' v n L := Rw.of_up h hu
end Go.Proofs.Ytafkoddgefcpnaa

namespace Go.Proofs.Ytafkoddgefcpnaa
open Go.RowKit

def valueB (v : Int) : Bool := decide (-4096 ≤ v ∧ v ≤ 4096)
end Go.Proofs.Ytafkoddgefcpnaa

namespace Go.Proofs.Ytafkoddgefcpnaa
open Go.RowKit

theorem rvalue_any (v : Int) (w : World) : Calls Try.prog 115 #[.int .i64 v] w fun e w' => e = .returned (.bool (valueB v)) ∧ w = w' := by
  by_cases h1 : -4096 ≤ v
  · by_cases h2 : v ≤ 4096
    · rw [show valueB v = true from decide_eq_true ⟨h1, h2⟩]
      go_enter Try.func115, Try.ntmps115
      go_wp2
      go_ret
      exact ⟨rfl, rfl⟩
    · rw [show valueB v = false from decide_eq_false (fun h => h2 h.2)]
      go_enter Try.func115, Try.ntmps115
      go_wp2
      go_ret
      exact ⟨rfl, rfl⟩
  · rw [show valueB v = false from decide_eq_false (fun h => h1 h.1)]
    go_enter Try.func115, Try.ntmps115
    go_wp2
    go_ret
    exact ⟨rfl, rfl⟩

end Go.Proofs.Ytafkoddgefcpnaa

namespace Go.Proofs.Ytafkoddgefcpnaa
open Go.RowKit

theorem stC_yes {v k c now : Int} {X : List It} (h1 : mayC v k c now = true) (h2 : Va X k) (h3 : lvX now v X = true) (h4 : totB X ≤ c) : stC v k c now X = true := by
  unfold stC
  rw [h1, vaB_iff.2 h2, h3, decide_eq_true h4]
  rfl
theorem Cv.app : ∀ {P X : List It} {S : List Int}, Cv (P ++ X) S ↔ ∃ S1 S2, S = S1 ++ S2 ∧ Cv P S1 ∧ Cv X S2 := by
  intro P
  induction P with
  | nil =>
    intro X S
    constructor
    · intro h; exact ⟨[], S, rfl, rfl, h⟩
    · rintro ⟨S1, S2, rfl, h1, h2⟩
      have h1 : S1 = [] := h1
      subst h1
      exact h2
  | cons p P ih =>
    intro X S
    constructor
    · rintro ⟨G, R, rfl, hg, h⟩
      obtain ⟨S1, S2, rfl, h1, h2⟩ := ih.1 h
      exact ⟨G ++ p.1 :: S1, S2, by simp, ⟨G, S1, rfl, hg, h1⟩, h2⟩
    · rintro ⟨S1, S2, rfl, ⟨G, R, rfl, hg, h1⟩, h2⟩
      exact ⟨G, R ++ S2, by simp, hg, ih.2 ⟨R, S2, rfl, h1, h2⟩⟩
theorem Cv.mg {X : List It} {S : List Int} {l : Int} (h0 : 0 ≤ l) (h1 : l < 30) (hd : Ds X) (hc : 2 ≤ cn l X) (h : Cv X S) : Cv (mgB X l) S := by
  obtain ⟨P, a, b, Q, rfl, e2, e3, e4⟩ := split2 hd hc
  rw [mgB_split e2]
  obtain ⟨S1, S2, rfl, k1, G, R, rfl, hg, G2, R2, rfl, hg2, k2⟩ := Cv.app.1 h
  simp only at hg hg2
  refine Cv.app.2 ⟨S1, _, rfl, k1, G ++ a :: G2, R2, by simp, ?_, k2⟩
  simp only [List.length_append, List.length_cons]
  rw [szB_two h0 h1]
  omega
theorem puS_cv {k T t : Int} (hT : T ≤ 1073741824) : ∀ {n : Nat} {l : Int} {X : List It} {S : List Int}, Iv X k l T t → l + n = 31 → Cv X S → Cv (puS k n l X) S := by
  intro n
  induction n with
  | zero => intro l X S _ _ h; exact h
  | succ n ih =>
    intro l X S h hn hC
    by_cases hc : (cn l X : Int) ≤ k + 1
    · rw [puS_at hc]; exact hC
    · rw [puS_step hc]
      obtain ⟨h1, h2, h3, h4⟩ := h.next hT (by omega) hc
      exact ih h4 (by omega) (Cv.mg h.l0 h1 h.ds h3 hC)
theorem puB_cv {X : List It} {S : List Int} {k t : Int} (h : Va X k) (h0 : 0 ≤ t) (h1 : t ≤ 16777216) (hl : ∀ x ∈ X, x.1 ≤ t) (hT : totB X < 1073741824) (hC : Cv X S) : Cv (puB k t X) (S ++ [t]) :=
  puS_cv (by omega) (h.start h0 h1 hl) rfl (Cv.app.2 ⟨S, [t], rfl, hC, [], [], rfl, rfl, rfl⟩)
/-- The ticks of a list after an insertion are those that were there, and the new one. -/
theorem puS_tick {k T t : Int} (hT : T ≤ 1073741824) : ∀ {n : Nat} {l : Int} {X : List It}, Iv X k l T t → l + n = 31 → ∀ x ∈ puS k n l X, ∃ y ∈ X, y.1 = x.1 := by
  intro n
  induction n with
  | zero => intro l X _ _ x hx; exact ⟨x, hx, rfl⟩
  | succ n ih =>
    intro l X h hn x hx
    by_cases hc : (cn l X : Int) ≤ k + 1
    · rw [puS_at hc] at hx; exact ⟨x, hx, rfl⟩
    · rw [puS_step hc] at hx
      obtain ⟨h1, h2, h3, h4⟩ := h.next hT (by omega) hc
      obtain ⟨y, hy, e⟩ := ih h4 (by omega) x hx
      rcases mg_mem h.ds h3 hy with g | g
      · exact ⟨y, g, e⟩
      · exact ⟨_, g.2, e⟩
theorem puB_tick {X : List It} {k t : Int} (h : Va X k) (h0 : 0 ≤ t) (h1 : t ≤ 16777216) (hl : ∀ x ∈ X, x.1 ≤ t) (hT : totB X < 1073741824) : ∀ x ∈ puB k t X, x.1 = t ∨ ∃ y ∈ X, y.1 = x.1 := by
  intro x hx
  obtain ⟨y, hy, e⟩ := puS_tick (by omega) (h.start h0 h1 hl) rfl x hx
  rcases List.mem_append.1 hy with g | g
  · exact Or.inr ⟨y, g, e⟩
  · simp only [List.mem_singleton] at g; subst g; exact Or.inl e.symm
theorem Hs.start {v k c now : Int} (h : mayC v k c now = true) : Hs v k c now [] [] :=
  ⟨stC_yes h (Va.nil (mayC_true h).2.1 (by have := (mayC_true h).2.2; omega)) (lvX_iff.2 (fun x hx => (by cases hx))) (by have := (mayC_facts h).2.2.1.1; simp only [totB]; omega),
   List.Pairwise.nil, (fun x hx => (by cases hx)), [], [], rfl, (fun x hx => (by cases hx)), rfl⟩
theorem stC_add {v k c now : Int} {X : List It} (h : stC v k c now X = true) (hc : totB X ≠ c) : stC v k c now (puB k now X) = true ∧ (0 ≤ now ∧ now ≤ 16777216) ∧ (∀ x ∈ X, x.1 ≤ now) ∧ totB X + 1 ≤ 1073741824 := by
  obtain ⟨a1, a2, a3, a4⟩ := stC_true h
  obtain ⟨g1, g2, g3, g4⟩ := mayC_facts a1
  have hl := lvX_iff.1 a3
  have hx : ∀ x ∈ X, x.1 ≤ now := fun x hx => ((live_iff g4 (a2.rg x hx).1.1).1 (hl x hx)).2
  obtain ⟨b1, b2, b3⟩ := puB_va a2 g1.1 g1.2 hx (by omega)
  refine ⟨stC_yes a1 b1 (lvX_iff.2 (fun x hx2 => ?_)) (by omega), g1, hx, by omega⟩
  rcases puB_tick a2 g1.1 g1.2 hx (by omega) x hx2 with e | ⟨y, hy, e⟩
  · rw [e]; exact (live_iff g4 g1.1).2 ⟨by omega, by omega⟩
  · rw [← e]; exact hl y hy
theorem Hs.add {v k c now y : Int} {X M : List It} (h : Hs v k c now X M) (hc : totB X ≠ c) : Hs v k c now (puB k now X) (M ++ [(now, y)]) := by
  obtain ⟨b1, b2, b3, b4⟩ := stC_add h.st hc
  obtain ⟨a1, a2, a3, a4⟩ := stC_true h.st
  refine ⟨b1, ?_, ?_, ?_⟩
  · rw [List.pairwise_append]
    refine ⟨h.asc, List.pairwise_singleton _ _, fun x hx z hz => ?_⟩
    simp only [List.mem_singleton] at hz
    subst hz
    exact (h.rg x hx).2
  · intro x hx
    rcases List.mem_append.1 hx with g | g
    · exact h.rg x g
    · simp only [List.mem_singleton] at g; subst g; exact ⟨b2.1, Int.le_refl _⟩
  · obtain ⟨P, S, e, hP, hC⟩ := h.cv
    exact ⟨P, S ++ [now], by rw [List.map_append, e, List.append_assoc]; rfl, hP, puB_cv a2 b2.1 b2.2 b3 (by omega) hC⟩
end Go.Proofs.Ytafkoddgefcpnaa
