/- Texts of these claims, one after the other. -/
import Derived.Test.YtafkoddgefcpnaaRows
import Derived.Test.YtafkoddgefcpnaaZBKeepq30
import Derived.Test.YtafkoddgefcpnaaZHSameq95
namespace Go.Proofs.Ytafkoddgefcpnaa

/-- The live ones are those from a place on. -/
theorem live_from (f : Int) : ∀ {I : List It}, I.Pairwise (fun x y => x.1 ≤ y.1) → ∃ l, l ≤ I.length ∧ I.filter (fun x => decide (f < x.1)) = I.drop l ∧ (∀ i, i < l → (I.getD i (0, 0)).1 ≤ f) ∧ ∀ i, l ≤ i → i < I.length → f < (I.getD i (0, 0)).1 := by
  intro I
  induction I with
  | nil => intro _; exact ⟨0, Nat.le_refl _, rfl, fun i hi => absurd hi (Nat.not_lt_zero _), fun i _ hi => absurd hi (Nat.not_lt_zero _)⟩
  | cons x I ih =>
    intro h
    obtain ⟨h1, h2⟩ := List.pairwise_cons.1 h
    by_cases hx : f < x.1
    · refine ⟨0, Nat.zero_le _, ?_, fun i hi => absurd hi (Nat.not_lt_zero _), fun i _ hi => ?_⟩
      · rw [List.drop_zero, List.filter_eq_self]
        intro y hy
        rcases List.mem_cons.1 hy with rfl | hy
        · exact decide_eq_true hx
        · exact decide_eq_true (by have := h1 y hy; omega)
      · have := asc_le h (Nat.zero_le i) hi
        have e : ((x :: I).getD 0 (0, 0)) = x := rfl
        rw [e] at this; omega
    · obtain ⟨l, a1, a2, a3, a4⟩ := ih h2
      refine ⟨l + 1, by rw [List.length_cons]; omega, ?_, fun i hi => ?_, fun i hi hj => ?_⟩
      · rw [List.filter_cons, if_neg (by simp; omega), a2]; rfl
      · cases i with
        | zero => show x.1 ≤ f; omega
        | succ i => exact a3 i (by omega)
      · cases i with
        | zero => omega
        | succ i => exact a4 i (by omega) (by rw [List.length_cons] at hj; omega)
end Go.Proofs.Ytafkoddgefcpnaa

namespace Go.Proofs.Ytafkoddgefcpnaa

/-- The answer: from, to. -/
def askP (g now w : Int) (I : List It) : List Nat → Int × Int
  | [] => (0, 0)
  | a :: R => if now - w < (I.getD a (0, 0)).1 then (agP g I a, agP g I a) else match R with
    | [] => (0, 0)
    | b :: _ => if b = a + 1 then (agP g I b, agP g I b) else (agP g I b, agP g I a)
/-- The aggregate of the live items lies between the bounds, which are narrow. -/
theorem Sv.truth {g w k c now : Int} {P : List Nat} {I : List It} (h : Sv g w k c now P I) : (askP g now w I P).1 ≤ agZ g ((I.filter (fun x => decide (now - w < x.1))).map (fun x => x.2)) ∧ agZ g ((I.filter (fun x => decide (now - w < x.1))).map (fun x => x.2)) ≤ (askP g now w I P).2 ∧ k * ((askP g now w I P).2 - (askP g now w I P).1) ≤ (askP g now w I P).1 ∧ 0 ≤ (askP g now w I P).1 := by
  obtain ⟨l, a1, a2, a3, a4⟩ := live_from (now - w) h.asc
  rw [a2]
  show (askP g now w I P).1 ≤ agP g I l ∧ agP g I l ≤ (askP g now w I P).2 ∧ _ ∧ _
  have hn := agP_nn h.g1 h.vals
  cases P with
  | nil =>
    have hl : l = I.length := by
      rcases Nat.eq_or_lt_of_le a1 with e | e
      · exact e
      · have := a4 l (Nat.le_refl _) e; have := h.none_ rfl l e; omega
    have e0 : agP g I l = 0 := by
      rw [hl]
      unfold agP vlF
      rw [List.drop_length]
      have := h.g1
      have : g = 1 ∨ g = 2 ∨ g = 3 ∨ g = 4 := by omega
      rcases this with rfl | rfl | rfl | rfl <;> rfl
    rw [e0]
    exact ⟨Int.le_refl _, Int.le_refl _, by simp [askP], Int.le_refl _⟩
  | cons a R =>
    have ha := h.lt a List.mem_cons_self
    simp only [askP]
    by_cases hx : now - w < (I.getD a (0, 0)).1
    · rw [if_pos hx]
      have hl : l = a := by
        rcases Nat.lt_trichotomy l a with e | e | e
        · have := h.old a rfl l e; have := a4 l (Nat.le_refl _) (by omega); omega
        · exact e
        · have := a3 a e; omega
      rw [hl]
      exact ⟨Int.le_refl _, Int.le_refl _, by rw [Int.sub_self, Int.mul_zero]; exact hn a, hn a⟩
    · rw [if_neg hx]
      cases R with
      | nil => exact absurd (h.one a rfl) hx
      | cons b R =>
        have hb := h.live b (by simp)
        have hbl := h.lt b (by simp)
        have hla : a < l := by
          rcases Nat.lt_or_ge a l with e | e
          · exact e
          · have := a4 a e ha; omega
        have hlb : l ≤ b := by
          rcases Nat.lt_or_ge b l with e | e
          · have := a3 b e; omega
          · exact e
        simp only
        by_cases hs : b = a + 1
        · rw [if_pos hs]
          have hl : l = b := by omega
          rw [hl]
          exact ⟨Int.le_refl _, Int.le_refl _, by rw [Int.sub_self, Int.mul_zero]; exact hn b, hn b⟩
        · rw [if_neg hs]
          have h6 := h.c6.1
          refine ⟨agP_mono h.g1 h.vals hlb, agP_mono h.g1 h.vals (by omega), ?_, hn b⟩
          rcases h6 with e | e
          · exact absurd e hs
          · rw [Int.add_mul, Int.one_mul] at e; simp only; rw [Int.mul_sub]; omega
end Go.Proofs.Ytafkoddgefcpnaa
