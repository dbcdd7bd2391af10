/- Histograms of sums: a value is so many unit items of its tick. No program is named here. -/
import Derived.Test.YtfdjhahnggdklaaZFMade
import Derived.Test.YtfdjhahnggdklaaZGBasem8
import Derived.Test.YtfdjhahnggdklaaZHGrowm2
import Derived.Test.YtfdjhahnggdklaaZHSamem5
namespace Go.Proofs.Ytfdjhahnggdklaa

/-- The unit items of a list of values. -/
def unL (M : List It) : List It := M.flatMap (fun x => List.replicate x.2.toNat (x.1, 0))
theorem unL_one (M : List It) (t y : Int) : unL (M ++ [(t, y)]) = unL M ++ List.replicate y.toNat (t, 0) := by
  unfold unL
  rw [List.flatMap_append]
  simp
theorem itB_add (q t : Int) (X : List It) (a : Nat) : ∀ b : Nat, itB q t (a + b) X = itB q t b (itB q t a X) := by
  intro b
  induction b with
  | zero => rfl
  | succ b ih => show puB q t (itB q t (a + b) X) = puB q t (itB q t b (itB q t a X)); rw [ih]
/-- So many unit items of the tick now. -/
theorem Hs.many {v k c now : Int} {X M : List It} (h : Hs v k c now X M) : ∀ n : Nat, totB X + n ≤ c → Hs v k c now (itB k now n X) (M ++ List.replicate n (now, 0)) ∧ totB (itB k now n X) = totB X + n := by
  intro n
  induction n with
  | zero => intro _; exact ⟨by rw [List.replicate_zero, List.append_nil]; exact h, by simp [itB]⟩
  | succ n ih =>
    intro hn
    obtain ⟨h1, h2⟩ := ih (by omega)
    have h3 := h1.add (y := 0) (by omega)
    obtain ⟨a1, a2, a3, a4⟩ := stC_true h1.st
    obtain ⟨b1, b2, b3, b4⟩ := stC_add h1.st (by omega)
    have h4 := (puB_va a2 b2.1 b2.2 b3 b4).2.1
    refine ⟨?_, ?_⟩
    · rw [List.replicate_succ', ← List.append_assoc]; exact h3
    · show totB (puB k now (itB k now n X)) = _
      rw [h4, h2]; omega
/-- The state after values M: a state after their unit items. -/
theorem Hs.value {v k c now y : Int} {X M : List It} (h : Hs v k c now X (unL M)) (h0 : 0 ≤ y) (hc : totB X + y ≤ c) : Hs v k c now (itB k now y.toNat X) (unL (M ++ [(now, y)])) := by
  rw [unL_one]
  exact (h.many y.toNat (by omega)).1
/-- The sum of the values of a list. -/
def smL : List It → Int
  | [] => 0
  | x :: M => x.2 + smL M
theorem smL_app (A B : List It) : smL (A ++ B) = smL A + smL B := by
  induction A with
  | nil => simp [smL]
  | cons x A ih => simp only [List.cons_append, smL, ih]; omega
theorem smL_nonneg {M : List It} (h : ∀ x ∈ M, 0 ≤ x.2) : 0 ≤ smL M := by
  induction M with
  | nil => exact Int.le_refl _
  | cons x M ih =>
    have := h x List.mem_cons_self
    have := ih (fun y hy => h y (List.mem_cons_of_mem _ hy))
    simp only [smL]; omega
theorem smL_le {M : List It} {m : Int} (h : ∀ x ∈ M, x.2 ≤ m) : smL M ≤ (M.length : Int) * m := by
  induction M with
  | nil => simp [smL]
  | cons x M ih =>
    have := h x List.mem_cons_self
    have := ih (fun y hy => h y (List.mem_cons_of_mem _ hy))
    simp only [smL, List.length_cons]
    rw [show ((M.length + 1 : Nat) : Int) = (M.length : Int) + 1 by omega, Int.add_mul, Int.one_mul]; omega
/-- The sum of the live values is the number of live unit items. -/
theorem live_sum (now v : Int) : ∀ {M : List It}, (∀ x ∈ M, 0 ≤ x.2) → smL (mlL M now v) = (lvN ((unL M).map (fun x => x.1)) now v : Int) := by
  intro M
  induction M with
  | nil => intro _; rfl
  | cons x M ih =>
    intro h
    have h1 := h x List.mem_cons_self
    have h2 := ih (fun y hy => h y (List.mem_cons_of_mem _ hy))
    have e1 : unL (x :: M) = List.replicate x.2.toNat (x.1, 0) ++ unL M := rfl
    have e2 : mlL (x :: M) now v = if (decide (now - v < x.1) && decide (x.1 ≤ now)) = true then x :: mlL M now v else mlL M now v := by
      unfold mlL; rw [List.filter_cons]
    rw [e1, List.map_append, lvN_app, List.map_replicate, e2]
    by_cases hx : (decide (now - v < x.1) && decide (x.1 ≤ now)) = true
    · rw [if_pos hx]
      have : lvN (List.replicate x.2.toNat x.1) now v = x.2.toNat := by
        unfold lvN; rw [List.countP_replicate, if_pos hx]
      simp only [smL]; rw [this, h2]; omega
    · rw [if_neg hx]
      have : lvN (List.replicate x.2.toNat x.1) now v = 0 := by
        unfold lvN; rw [List.countP_replicate, if_neg hx]
      rw [this, h2]; omega
end Go.Proofs.Ytfdjhahnggdklaa
