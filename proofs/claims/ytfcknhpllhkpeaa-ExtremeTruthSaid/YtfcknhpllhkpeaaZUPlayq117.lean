/- Package extreme: deques of items, and variables with such a state. -/
import Derived.Test.YtfcknhpllhkpeaaRows
import Derived.Test.YtfcknhpllhkpeaaZERankq113
import Derived.Test.YtfcknhpllhkpeaaZUMathq16
import Derived.Test.YtfcknhpllhkpeaaZUPlayq115
namespace Go.Proofs.Ytfcknhpllhkpeaa
open Go.RowKit
set_option linter.unusedVariables false

/-- The greatest or the least value, and whether there is one. -/
def exA (mx : Bool) (L : List It) : Int × Bool := if L = [] then (0, false) else (if mx = true then grZ (L.getD 0 (0, 0)).2 L else leZ (L.getD 0 (0, 0)).2 L, true)
theorem grZ_eq {m : Int} : ∀ {L : List It} {a : Int}, (∀ y ∈ L, y.2 ≤ m) → a ≤ m → (a = m ∨ ∃ y ∈ L, y.2 = m) → grZ a L = m := by
  intro L
  induction L with
  | nil => intro a _ _ h; rcases h with h | ⟨y, hy, _⟩; exact h; cases hy
  | cons x L ih =>
    intro a h1 h2 h3
    show grZ (max a x.2) L = m
    have hx := h1 x List.mem_cons_self
    refine ih (fun y hy => h1 y (List.mem_cons_of_mem _ hy)) (by omega) ?_
    rcases h3 with h | ⟨y, hy, e⟩
    · exact Or.inl (by omega)
    · rcases List.mem_cons.1 hy with rfl | hy
      · exact Or.inl (by omega)
      · exact Or.inr ⟨y, hy, e⟩
theorem leZ_eq {m : Int} : ∀ {L : List It} {a : Int}, (∀ y ∈ L, m ≤ y.2) → m ≤ a → (a = m ∨ ∃ y ∈ L, y.2 = m) → leZ a L = m := by
  intro L
  induction L with
  | nil => intro a _ _ h; rcases h with h | ⟨y, hy, _⟩; exact h; cases hy
  | cons x L ih =>
    intro a h1 h2 h3
    show leZ (min a x.2) L = m
    have hx := h1 x List.mem_cons_self
    refine ih (fun y hy => h1 y (List.mem_cons_of_mem _ hy)) (by omega) ?_
    rcases h3 with h | ⟨y, hy, e⟩
    · exact Or.inl (by omega)
    · rcases List.mem_cons.1 hy with rfl | hy
      · exact Or.inl (by omega)
      · exact Or.inr ⟨y, hy, e⟩
/-- The first item of a deque has the greatest or the least value. -/
theorem dq_ask {mx : Bool} {v now : Int} {M : List It} (hv : 1 ≤ v ∧ v ≤ 25) (hn : 0 ≤ now ∧ now ≤ 16777216) (ho : okQ now M) : akX mx v 200 now (dqX mx v now M) = ((exA mx (livL M now v)).1, if (exA mx (livL M now v)).2 = true then 0 else 7) := by
  unfold akX
  rw [if_pos (dq_st17 hv hn ho)]
  obtain ⟨K, hK⟩ : ∃ K, K = dqX mx v now M := ⟨_, rfl⟩
  have hd : KdE mx K (livL M now v) := by rw [hK]; exact kpX_kd mx _
  rw [← hK]
  generalize livL M now v = Lv at *
  clear hK ho
  cases K with
  | nil =>
    rw [hd.nil]
    rfl
  | cons x K =>
    obtain ⟨h1, h2⟩ := hd.head
    have hne : Lv ≠ [] := fun e => by rw [e] at h1; cases h1
    have h0 : Lv.getD 0 (0, 0) ∈ Lv := by
      cases Lv with
      | nil => exact absurd rfl hne
      | cons y L => exact List.mem_cons_self
    rw [if_neg (by simp)]
    unfold exA
    rw [if_neg hne]
    simp only [List.getD_cons_zero, if_true]
    refine Prod.ext ?_ rfl
    cases mx
    · have h3 : ∀ y ∈ Lv, x.2 ≤ y.2 := fun y hy => by have := h2 y hy; simp only [sgE, Bool.false_eq_true, if_false] at this; omega
      exact (leZ_eq h3 (h3 _ h0) (Or.inr ⟨x, h1, rfl⟩)).symm
    · have h3 : ∀ y ∈ Lv, y.2 ≤ x.2 := fun y hy => by have := h2 y hy; simpa only [sgE, if_true] using this
      exact (grZ_eq h3 (h3 _ h0) (Or.inr ⟨x, h1, rfl⟩)).symm
theorem rext17_up (mx : Bool) (n k : Nat) (A : Option Addr) (L : List It) (hn : n ≤ 1000000) (w : World) (hS : Sl w A n L) :
    Calls Try.prog 29 #[.slice A n k, .bool mx] w fun e w' => e = .returned (.tuple #[.int .i64 (exA mx L).1, .bool (exA mx L).2]) ∧ Up w w' := by
  cases mx
  · refine (rleast_up n k A L hn w hS).mono (fun e w' h => ⟨h.1.trans ?_, h.2⟩)
    unfold leE exA
    by_cases h : L = []
    · rw [if_pos h, if_pos h]
    · rw [if_neg h, if_neg h]; rfl
  · refine (rgreatest_up n k A L hn w hS).mono (fun e w' h => ⟨h.1.trans ?_, h.2⟩)
    unfold grE exA
    by_cases h : L = []
    · rw [if_pos h, if_pos h]
    · rw [if_neg h, if_neg h]; rfl
section
variable {w W W' : World} {p q : Nat} {mx mx' : Bool} {v c now v' c' now' : Int} {X Y : List It} {A B : Option Addr} {k j n m : Nat}
end
end Go.Proofs.Ytfcknhpllhkpeaa
