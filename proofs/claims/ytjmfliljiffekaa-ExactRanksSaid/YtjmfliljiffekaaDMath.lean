/- Weights, digits and numbers of sequences of draws, as plain functions of lists. -/
import Derived.Test.YtjmfliljiffekaaGBase
namespace Go.Proofs.Ytjmfliljiffekaa

/-- The product of p and the ranges, if each is positive and no product passes 2^62. -/
def wtF (p : Int) : List Int → Option Int
  | [] => some p
  | m :: L => if 1 ≤ m ∧ p * m ≤ 4611686018427387904 then wtF (p * m) L else none
def wtO (L : List Int) : Option Int := wtF 1 L
def prodL : List Int → Int
  | [] => 1
  | m :: L => m * prodL L
theorem drop_cons {L : List Int} {i : Nat} (h : i < L.length) : L.drop i = L.getD i 0 :: L.drop (i + 1) := by
  rw [List.drop_eq_getElem_cons h]
  simp [List.getD, h]
theorem wtF_yes {p : Int} {L : List Int} {i : Nat} (h : i < L.length) (h1 : 1 ≤ L.getD i 0) (h2 : p * L.getD i 0 ≤ 4611686018427387904) :
    wtF p (L.drop i) = wtF (p * L.getD i 0) (L.drop (i + 1)) := by
  rw [drop_cons h, wtF, if_pos ⟨h1, h2⟩]
theorem wtF_no {p : Int} {L : List Int} {i : Nat} (h : i < L.length) (h1 : ¬ (1 ≤ L.getD i 0 ∧ p * L.getD i 0 ≤ 4611686018427387904)) :
    wtF p (L.drop i) = none := by
  rw [drop_cons h, wtF, if_neg h1]
theorem wtF_end {p : Int} {L : List Int} {i : Nat} (h : L.length ≤ i) : wtF p (L.drop i) = some p := by
  rw [List.drop_of_length_le h, wtF]
theorem wtF_some {p W : Int} {L : List Int} (h : wtF p L = some W) : (∀ m ∈ L, 1 ≤ m) ∧ W = p * prodL L := by
  induction L generalizing p with
  | nil => simp only [wtF, Option.some.injEq] at h; exact ⟨fun m hm => (by cases hm), by rw [prodL, Int.mul_one]; exact h.symm⟩
  | cons x M ih =>
    rw [wtF] at h
    split at h
    · rename_i hx
      obtain ⟨h1, h2⟩ := ih h
      refine ⟨fun m hm => ?_, by rw [h2, prodL, Int.mul_assoc]⟩
      rcases List.mem_cons.1 hm with rfl | hm
      · exact hx.1
      · exact h1 m hm
    · cases h
theorem prodL_pos {L : List Int} (h : ∀ m ∈ L, 1 ≤ m) : 1 ≤ prodL L := by
  induction L with
  | nil => exact Int.le_refl _
  | cons x M ih =>
    have h1 := ih (fun m hm => h m (List.mem_cons_of_mem _ hm))
    have h2 := h x List.mem_cons_self
    rw [prodL]
    have : 1 * 1 ≤ x * prodL M := Int.mul_le_mul h2 h1 (by omega) (by omega)
    omega
theorem wtF_le {p W : Int} {L : List Int} (hp : p ≤ 4611686018427387904) (h : wtF p L = some W) : W ≤ 4611686018427387904 := by
  induction L generalizing p with
  | nil => simp only [wtF, Option.some.injEq] at h; omega
  | cons x M ih =>
    rw [wtF] at h
    split at h
    · rename_i hx; exact ih hx.2 h
    · cases h
theorem wtO_some {W : Int} {L : List Int} (h : wtO L = some W) : (∀ m ∈ L, 1 ≤ m) ∧ W = prodL L ∧ 1 ≤ W ∧ W ≤ 4611686018427387904 := by
  obtain ⟨h1, h2⟩ := wtF_some h
  rw [Int.one_mul] at h2
  exact ⟨h1, h2, by rw [h2]; exact prodL_pos h1, wtF_le (by omega) h⟩
/-- A product of positive ranges that does not pass 2^62 is a weight. -/
theorem wtF_of {L : List Int} {p : Int} (hp : 1 ≤ p) (h : ∀ m ∈ L, 1 ≤ m) (hl : p * prodL L ≤ 4611686018427387904) : wtF p L = some (p * prodL L) := by
  induction L generalizing p with
  | nil => rw [wtF, prodL, Int.mul_one]
  | cons x M ih =>
    have h1 : 1 ≤ prodL M := prodL_pos (fun m hm => h m (List.mem_cons_of_mem _ hm))
    have h2 := h x List.mem_cons_self
    rw [prodL, ← Int.mul_assoc] at hl ⊢
    have h3 : 1 * 1 ≤ p * x := Int.mul_le_mul hp h2 (by omega) (by omega)
    have h4 : p * x * 1 ≤ p * x * prodL M := Int.mul_le_mul_of_nonneg_left h1 (by omega)
    rw [wtF, if_pos ⟨h2, by omega⟩]
    exact ih (by omega) (fun m hm => h m (List.mem_cons_of_mem _ hm)) hl
theorem prodL_append (L : List Int) (m : Int) : prodL (L ++ [m]) = prodL L * m := by
  induction L with
  | nil => simp [prodL]
  | cons x M ih => rw [List.cons_append, prodL, prodL, ih, Int.mul_assoc]

/-- What is left of n behind all ranges, and its digits, the most significant one first. -/
def dq : List Int → Int → Int
  | [], n => n
  | m :: M, n => dq M n / m
def dg : List Int → Int → List Int
  | [], _ => []
  | m :: M, n => dq M n % m :: dg M n
theorem dg_length (L : List Int) (n : Int) : (dg L n).length = L.length := by
  induction L with
  | nil => rfl
  | cons x M ih => simp [dg, ih]
theorem dq_drop {L : List Int} {i : Nat} (h : i < L.length) (n : Int) : dq (L.drop i) n = dq (L.drop (i + 1)) n / L.getD i 0 := by
  rw [drop_cons h, dq]
theorem dg_getD {L : List Int} {i : Nat} (h : i < L.length) (n : Int) : (dg L n).getD i 0 = dq (L.drop (i + 1)) n % L.getD i 0 := by
  induction L generalizing i with
  | nil => simp at h
  | cons x M ih =>
    cases i with
    | zero => simp [dg]
    | succ j => simpa [dg] using ih (i := j) (by simpa using h)
theorem dq_nonneg {L : List Int} {n : Int} (h : ∀ m ∈ L, 1 ≤ m) (hn : 0 ≤ n) : 0 ≤ dq L n ∧ dq L n ≤ n := by
  induction L with
  | nil => exact ⟨hn, Int.le_refl _⟩
  | cons x M ih =>
    obtain ⟨h1, h2⟩ := ih (fun m hm => h m (List.mem_cons_of_mem _ hm))
    have h3 := h x List.mem_cons_self
    rw [dq]
    exact ⟨Int.ediv_nonneg h1 (by omega), Int.le_trans (Int.ediv_le_self _ h1) h2⟩
theorem dq_lt {L : List Int} {n c : Int} (h : ∀ m ∈ L, 1 ≤ m) (hn : n < c * prodL L) : dq L n < c := by
  induction L generalizing c with
  | nil => rw [prodL, Int.mul_one] at hn; exact hn
  | cons x M ih =>
    have h3 := h x List.mem_cons_self
    rw [prodL, ← Int.mul_assoc] at hn
    have := ih (fun m hm => h m (List.mem_cons_of_mem _ hm)) hn
    rw [dq]
    exact Int.ediv_lt_of_lt_mul (by omega) this
theorem dq_zero {L : List Int} {n : Int} (h : ∀ m ∈ L, 1 ≤ m) (h0 : 0 ≤ n) (hn : n < prodL L) : dq L n = 0 := by
  have h1 := (dq_nonneg h h0).1
  have h2 := dq_lt (c := 1) h (by rw [Int.one_mul]; exact hn)
  omega

/-- The number of a sequence, from a on, if its draws are in their ranges. -/
def nmF (a : Int) : List Int → List Int → Option Int
  | m :: L, d :: D => if 0 ≤ d ∧ d < m then nmF (a * m + d) L D else none
  | _, _ => some a
def nmO (L D : List Int) : Option Int := if (wtO L).isSome = true ∧ D.length = L.length then nmF 0 L D else none
theorem nmF_yes {a : Int} {L D : List Int} {i : Nat} (h : i < L.length) (h' : i < D.length) (h1 : 0 ≤ D.getD i 0) (h2 : D.getD i 0 < L.getD i 0) :
    nmF a (L.drop i) (D.drop i) = nmF (a * L.getD i 0 + D.getD i 0) (L.drop (i + 1)) (D.drop (i + 1)) := by
  rw [drop_cons h, drop_cons h', nmF, if_pos ⟨h1, h2⟩]
theorem nmF_no {a : Int} {L D : List Int} {i : Nat} (h : i < L.length) (h' : i < D.length) (h1 : ¬ (0 ≤ D.getD i 0 ∧ D.getD i 0 < L.getD i 0)) :
    nmF a (L.drop i) (D.drop i) = none := by
  rw [drop_cons h, drop_cons h', nmF, if_neg h1]
theorem nmF_end {a : Int} {L D : List Int} {i : Nat} (h : L.length ≤ i) : nmF a (L.drop i) (D.drop i) = some a := by
  rw [List.drop_of_length_le h]; rfl
theorem nm_of_dg {L : List Int} (n : Int) (h : ∀ m ∈ L, 1 ≤ m) : nmF (dq L n) L (dg L n) = some n := by
  induction L with
  | nil => rfl
  | cons x M ih =>
    have h3 := h x List.mem_cons_self
    rw [dq, dg, nmF, if_pos ⟨Int.emod_nonneg _ (by omega), Int.emod_lt_of_pos _ (by omega)⟩, Int.mul_comm, Int.mul_ediv_add_emod]
    exact ih (fun m hm => h m (List.mem_cons_of_mem _ hm))
theorem nm_inv {L D : List Int} {a n : Int} (h : ∀ m ∈ L, 1 ≤ m) (hl : D.length = L.length) (hn : nmF a L D = some n) : dq L n = a ∧ dg L n = D ∧ a * prodL L ≤ n ∧ n < (a + 1) * prodL L := by
  induction L generalizing D a with
  | nil =>
    cases D with
    | nil => simp only [nmF, Option.some.injEq] at hn; subst hn; exact ⟨rfl, rfl, by rw [prodL]; omega, by rw [prodL]; omega⟩
    | cons d D => simp at hl
  | cons x M ih =>
    cases D with
    | nil => simp at hl
    | cons d D =>
      have h3 := h x List.mem_cons_self
      have hM : ∀ m ∈ M, 1 ≤ m := fun m hm => h m (List.mem_cons_of_mem _ hm)
      rw [nmF] at hn
      split at hn
      · rename_i hd
        obtain ⟨e1, e2, e3, e4⟩ := ih hM (by simpa using hl) hn
        have hp := prodL_pos hM
        refine ⟨?_, ?_, ?_, ?_⟩
        · rw [dq, e1, Int.add_comm, Int.add_mul_ediv_right _ _ (by omega), Int.ediv_eq_zero_of_lt hd.1 hd.2]; omega
        · rw [dg, e1, e2, Int.add_comm, Int.add_mul_emod_self_right, Int.emod_eq_of_lt hd.1 hd.2]
        · rw [prodL, ← Int.mul_assoc]
          exact Int.le_trans (Int.mul_le_mul_of_nonneg_right (by omega) (by omega)) e3
        · rw [prodL, ← Int.mul_assoc]
          refine Int.lt_of_lt_of_le e4 (Int.mul_le_mul_of_nonneg_right ?_ (by omega))
          rw [Int.add_mul, Int.one_mul]
          omega
      · cases hn
/-- Number and Sequence undo each other. -/
theorem nmO_some {L D : List Int} {n : Int} (h : nmO L D = some n) : ∃ W, wtO L = some W ∧ D.length = L.length ∧ 0 ≤ n ∧ n < W ∧ dg L n = D := by
  unfold nmO at h
  split at h
  · rename_i hc
    obtain ⟨W, hW⟩ := Option.isSome_iff_exists.1 hc.1
    obtain ⟨h1, h2, h3, h4⟩ := wtO_some hW
    obtain ⟨e1, e2, e3, e4⟩ := nm_inv h1 hc.2 h
    exact ⟨W, hW, hc.2, by omega, by rw [h2]; omega, e2⟩
  · cases h
theorem nmO_dg {L : List Int} {n W : Int} (hW : wtO L = some W) (h0 : 0 ≤ n) (hn : n < W) : nmO L (dg L n) = some n := by
  obtain ⟨h1, h2, h3, h4⟩ := wtO_some hW
  unfold nmO
  rw [if_pos ⟨by rw [hW]; rfl, dg_length L n⟩]
  have := nm_of_dg n h1
  rwa [dq_zero h1 h0 (by rw [← h2]; exact hn)] at this
end Go.Proofs.Ytjmfliljiffekaa
