/- Texts of these claims, one after the other. -/
import Derived.Test.YtafkoddgefcpnabRows
import Derived.Test.YtafkoddgefcpnabZWKeepq8
namespace Go.Proofs.Ytafkoddgefcpnab

/-- The least and the greatest value. -/
def mnL : List Int → Int
  | [] => 0
  | [x] => x
  | x :: y :: R => min x (mnL (y :: R))
def mxL : List Int → Int
  | [] => 0
  | [x] => x
  | x :: y :: R => max x (mxL (y :: R))
def suL : List Int → Int
  | [] => 0
  | x :: R => x + suL R
def sqL : List Int → Int
  | [] => 0
  | x :: R => x * x + sqL R
theorem mnL_cons (x : Int) {R : List Int} (h : R ≠ []) : mnL (x :: R) = min x (mnL R) := by
  cases R with
  | nil => exact absurd rfl h
  | cons y R => rfl
theorem mxL_cons (x : Int) {R : List Int} (h : R ≠ []) : mxL (x :: R) = max x (mxL R) := by
  cases R with
  | nil => exact absurd rfl h
  | cons y R => rfl
theorem mnL_app : ∀ {A B : List Int}, B ≠ [] → mnL (A ++ B) ≤ mnL B := by
  intro A
  induction A with
  | nil => intro B _; exact Int.le_refl _
  | cons x A ih => intro B h; rw [List.cons_append, mnL_cons x (by simp [h])]; have := ih h; omega
theorem mxL_app : ∀ {A B : List Int}, B ≠ [] → mxL B ≤ mxL (A ++ B) := by
  intro A
  induction A with
  | nil => intro B _; exact Int.le_refl _
  | cons x A ih => intro B h; rw [List.cons_append, mxL_cons x (by simp [h])]; have := ih h; omega
theorem mnL_le : ∀ {R : List Int} {x : Int}, x ∈ R → mnL R ≤ x := by
  intro R
  induction R with
  | nil => intro x h; cases h
  | cons y R ih =>
    intro x h
    by_cases hR : R = []
    · subst hR; simp only [List.mem_singleton] at h; subst h; exact Int.le_refl _
    · rw [mnL_cons y hR]
      rcases List.mem_cons.1 h with rfl | h
      · omega
      · have := ih h; omega
theorem le_mxL : ∀ {R : List Int} {x : Int}, x ∈ R → x ≤ mxL R := by
  intro R
  induction R with
  | nil => intro x h; cases h
  | cons y R ih =>
    intro x h
    by_cases hR : R = []
    · subst hR; simp only [List.mem_singleton] at h; subst h; exact Int.le_refl _
    · rw [mxL_cons y hR]
      rcases List.mem_cons.1 h with rfl | h
      · omega
      · have := ih h; omega
theorem mnL_mem : ∀ {R : List Int}, R ≠ [] → mnL R ∈ R := by
  intro R
  induction R with
  | nil => intro h; exact absurd rfl h
  | cons y R ih =>
    intro _
    by_cases hR : R = []
    · subst hR; exact List.mem_singleton.2 rfl
    · rw [mnL_cons y hR]
      by_cases h : y ≤ mnL R
      · rw [Int.min_eq_left h]; exact List.mem_cons_self
      · rw [Int.min_eq_right (by omega)]; exact List.mem_cons_of_mem _ (ih hR)
theorem mxL_mem : ∀ {R : List Int}, R ≠ [] → mxL R ∈ R := by
  intro R
  induction R with
  | nil => intro h; exact absurd rfl h
  | cons y R ih =>
    intro _
    by_cases hR : R = []
    · subst hR; exact List.mem_singleton.2 rfl
    · rw [mxL_cons y hR]
      by_cases h : mxL R ≤ y
      · rw [Int.max_eq_left h]; exact List.mem_cons_self
      · rw [Int.max_eq_right (by omega)]; exact List.mem_cons_of_mem _ (ih hR)
theorem mn_le_mx {R : List Int} (h : R ≠ []) : mnL R ≤ mxL R := Int.le_trans (mnL_le (mxL_mem h)) (Int.le_refl _)
theorem suL_app (A B : List Int) : suL (A ++ B) = suL A + suL B := by
  induction A with
  | nil => simp [suL]
  | cons x A ih => simp only [List.cons_append, suL, ih]; omega
theorem sqL_app (A B : List Int) : sqL (A ++ B) = sqL A + sqL B := by
  induction A with
  | nil => simp [sqL]
  | cons x A ih => simp only [List.cons_append, sqL, ih]; omega
theorem sq_nn (x : Int) : 0 ≤ x * x := by
  rcases Int.le_total 0 x with h | h
  · exact Int.mul_nonneg h h
  · exact Int.mul_nonneg_of_nonpos_of_nonpos h h
theorem sqL_nn (A : List Int) : 0 ≤ sqL A := by
  induction A with
  | nil => exact Int.le_refl _
  | cons x A ih => have := sq_nn x; simp only [sqL]; omega
theorem suL_nn {A : List Int} (h : ∀ x ∈ A, 0 ≤ x) : 0 ≤ suL A := by
  induction A with
  | nil => exact Int.le_refl _
  | cons x A ih => have := h x List.mem_cons_self; have := ih (fun y hy => h y (List.mem_cons_of_mem _ hy)); simp only [suL]; omega
/-- Sums of numbers from a to b lie between so many times a and b. -/
theorem suL_ge {A : List Int} {a : Int} (h : ∀ x ∈ A, a ≤ x) : (A.length : Int) * a ≤ suL A := by
  induction A with
  | nil => simp [suL]
  | cons x A ih =>
    have := h x List.mem_cons_self
    have := ih (fun y hy => h y (List.mem_cons_of_mem _ hy))
    simp only [suL, List.length_cons]
    rw [show ((A.length + 1 : Nat) : Int) = (A.length : Int) + 1 by omega, Int.add_mul, Int.one_mul]; omega
theorem suL_le {A : List Int} {b : Int} (h : ∀ x ∈ A, x ≤ b) : suL A ≤ (A.length : Int) * b := by
  induction A with
  | nil => simp [suL]
  | cons x A ih =>
    have := h x List.mem_cons_self
    have := ih (fun y hy => h y (List.mem_cons_of_mem _ hy))
    simp only [suL, List.length_cons]
    rw [show ((A.length + 1 : Nat) : Int) = (A.length : Int) + 1 by omega, Int.add_mul, Int.one_mul]; omega
theorem sq_bd {x m : Int} (h1 : -m ≤ x) (h2 : x ≤ m) : x * x ≤ m * m := by
  rcases Int.le_total 0 x with h | h
  · exact Int.mul_le_mul h2 h2 h (by omega)
  · have := Int.mul_le_mul (show -x ≤ m by omega) (show -x ≤ m by omega) (by omega) (show 0 ≤ m by omega)
    rwa [Int.neg_mul_neg] at this
theorem sqL_le {A : List Int} {m : Int} (h : ∀ x ∈ A, -m ≤ x ∧ x ≤ m) : sqL A ≤ (A.length : Int) * (m * m) := by
  induction A with
  | nil => simp [sqL]
  | cons x A ih =>
    have h1 := h x List.mem_cons_self
    have := sq_bd h1.1 h1.2
    have := ih (fun y hy => h y (List.mem_cons_of_mem _ hy))
    simp only [sqL, List.length_cons]
    rw [show ((A.length + 1 : Nat) : Int) = (A.length : Int) + 1 by omega, Int.add_mul, Int.one_mul]; omega
/-- The square of a sum is at most so many times the sum of squares. -/
theorem cauchy : ∀ A : List Int, suL A * suL A ≤ (A.length : Int) * sqL A := by
  intro A
  induction A with
  | nil => simp [suL, sqL]
  | cons x A ih =>
    have h2 : 2 * (x * suL A) ≤ (A.length : Int) * (x * x) + sqL A := by
      clear ih
      induction A with
      | nil => simp [suL, sqL]
      | cons y A ih =>
        simp only [suL, sqL, List.length_cons]
        have h3 := sq_nn (x - y)
        have e : (x - y) * (x - y) = x * x - 2 * (x * y) + y * y := by
          rw [Int.sub_mul, Int.mul_sub, Int.mul_sub, Int.mul_comm y x]; omega
        rw [show ((A.length + 1 : Nat) : Int) = (A.length : Int) + 1 by omega, Int.add_mul, Int.one_mul, Int.mul_add]
        omega
    simp only [suL, sqL, List.length_cons]
    rw [show ((A.length + 1 : Nat) : Int) = (A.length : Int) + 1 by omega]
    have e1 : (x + suL A) * (x + suL A) = x * x + 2 * (x * suL A) + suL A * suL A := by
      rw [Int.add_mul, Int.mul_add, Int.mul_add, Int.mul_comm (suL A) x]; omega
    have e2 : ((A.length : Int) + 1) * (x * x + sqL A) = (A.length : Int) * (x * x) + (A.length : Int) * sqL A + (x * x + sqL A) := by
      rw [Int.add_mul, Int.mul_add, Int.one_mul]
    rw [e1, e2]
    omega
/-- The aggregates: 1 the number, 2 the sum, 3 the sum of squares, 4 the range. -/
def agZ (g : Int) (A : List Int) : Int := if g = 1 then (A.length : Int) else if g = 2 then suL A else if g = 3 then sqL A else if g = 4 then mxL A - mnL A else 0
theorem ag1 (A : List Int) : agZ 1 A = A.length := rfl
theorem ag2 (A : List Int) : agZ 2 A = suL A := rfl
theorem ag3 (A : List Int) : agZ 3 A = sqL A := rfl
theorem ag4 (A : List Int) : agZ 4 A = mxL A - mnL A := rfl
/-- Which values there are. -/
def valG (g v : Int) : Prop := -4096 ≤ v ∧ v ≤ 4096 ∧ (0 ≤ v ∨ g = 1 ∨ g = 4)
theorem ag_nn {g : Int} {A : List Int} (hg : 1 ≤ g ∧ g ≤ 4) (h : ∀ x ∈ A, valG g x) : 0 ≤ agZ g A := by
  have : g = 1 ∨ g = 2 ∨ g = 3 ∨ g = 4 := by omega
  rcases this with rfl | rfl | rfl | rfl
  · rw [ag1]; omega
  · rw [ag2]; exact suL_nn (fun x hx => by have := (h x hx).2.2; omega)
  · rw [ag3]; exact sqL_nn A
  · rw [ag4]
    by_cases hA : A = []
    · subst hA; exact Int.le_refl _
    · have := mn_le_mx hA; omega
/-- The greatest aggregate. -/
def topG (g c : Int) : Int := if g = 1 then c else if g = 2 then c * 4096 else if g = 3 then c * 4096 * 4096 else 8192
theorem ag_top {g c : Int} {A : List Int} (hg : 1 ≤ g ∧ g ≤ 4) (h : ∀ x ∈ A, valG g x) (hc : (A.length : Int) ≤ c) : agZ g A ≤ topG g c := by
  have : g = 1 ∨ g = 2 ∨ g = 3 ∨ g = 4 := by omega
  rcases this with rfl | rfl | rfl | rfl
  · exact hc
  · have h1 := suL_le (A := A) (b := 4096) (fun x hx => (h x hx).2.1)
    show suL A ≤ c * 4096
    omega
  · have h1 := sqL_le (A := A) (m := 4096) (fun x hx => ⟨(h x hx).1, (h x hx).2.1⟩)
    show sqL A ≤ c * 4096 * 4096
    omega
  · show mxL A - mnL A ≤ 8192
    by_cases hA : A = []
    · subst hA; simp [mxL, mnL]
    · have h1 := h _ (mnL_mem hA)
      have h2 := h _ (mxL_mem hA)
      have := h1.1; have := h2.2.1; omega
end Go.Proofs.Ytafkoddgefcpnab

namespace Go.Proofs.Ytafkoddgefcpnab

/-- Every element and its successor; every element and its second successor. -/
def chn {α : Type} (r : α → α → Prop) : List α → Prop
  | [] => True
  | [_] => True
  | a :: b :: R => r a b ∧ chn r (b :: R)
def ch3 {α : Type} (r : α → α → Prop) : List α → Prop
  | [] => True
  | [_] => True
  | [_, _] => True
  | a :: b :: c :: R => r a c ∧ ch3 r (b :: c :: R)
theorem chn.tail {α : Type} {r : α → α → Prop} {a : α} {R : List α} (h : chn r (a :: R)) : chn r R := by
  cases R with
  | nil => trivial
  | cons b R => exact h.2
theorem ch3.tail {α : Type} {r : α → α → Prop} {a : α} {R : List α} (h : ch3 r (a :: R)) : ch3 r R := by
  cases R with
  | nil => trivial
  | cons b R =>
    cases R with
    | nil => trivial
    | cons c R => exact h.2
theorem chn.imp {α : Type} {r s : α → α → Prop} : ∀ {R : List α}, (∀ a ∈ R, ∀ b ∈ R, r a b → s a b) → chn r R → chn s R := by
  intro R
  induction R with
  | nil => intro _ _; trivial
  | cons a R ih =>
    intro h hc
    cases R with
    | nil => trivial
    | cons b R => exact ⟨h a List.mem_cons_self b (by simp) hc.1, ih (fun x hx y hy => h x (List.mem_cons_of_mem _ hx) y (List.mem_cons_of_mem _ hy)) hc.2⟩
theorem ch3.imp {α : Type} {r s : α → α → Prop} : ∀ {R : List α}, (∀ a ∈ R, ∀ b ∈ R, r a b → s a b) → ch3 r R → ch3 s R := by
  intro R
  induction R with
  | nil => intro _ _; trivial
  | cons a R ih =>
    intro h hc
    cases R with
    | nil => trivial
    | cons b R =>
      cases R with
      | nil => trivial
      | cons c R => exact ⟨h a List.mem_cons_self c (by simp) hc.1, ih (fun x hx y hy => h x (List.mem_cons_of_mem _ hx) y (List.mem_cons_of_mem _ hy)) hc.2⟩
theorem chn.push {α : Type} {r : α → α → Prop} {z : α} : ∀ {R : List α}, chn r R → (∀ a, R.getLast? = some a → r a z) → chn r (R ++ [z]) := by
  intro R
  induction R with
  | nil => intro _ _; trivial
  | cons a R ih =>
    intro h hl
    cases R with
    | nil => exact ⟨hl a rfl, trivial⟩
    | cons b R => exact ⟨h.1, ih h.2 (fun x hx => hl x (by rw [List.getLast?_cons_cons]; exact hx))⟩
end Go.Proofs.Ytafkoddgefcpnab
