/- What Make of package ratio, and of its reference, returns. -/
import Derived.Test.YtgafcpklocccdaaREasy
namespace Go.Proofs.Ytgafcpklocccdaa
open Go.RowKit

theorem quo_same {p q p' q' : Int} (h : q ≠ 0) (h' : q' ≠ 0) (e : p * q' = p' * q) : quoN p q = quoN p' q' ∧ quoD p q = quoD p' q' ∧ quoB p q = quoB p' q' := by
  have e1 := quo_eq (p := p') h'
  obtain ⟨u1, u2⟩ := quo_uniq h (quoQ_pos (p := p') h') (quo_coprime (p := p') h') (show p * quoQ p' q' = quoP p' q' * q by
    have : q' * (p * quoQ p' q') = q' * (quoP p' q' * q) := by
      have t1 : q' * (p * quoQ p' q') = p * q' * quoQ p' q' := by ac_rfl
      have t2 : q' * (quoP p' q' * q) = quoP p' q' * q' * q := by ac_rfl
      rw [t1, t2, e1, e]
      ac_rfl
    exact Int.eq_of_mul_eq_mul_left h' this)
  have hB : quoB p q = quoB p' q' := by unfold quoB; rw [u1, u2, decide_eq_true h, decide_eq_true h']
  refine ⟨?_, ?_, hB⟩
  · unfold quoN; rw [hB, u1]
  · unfold quoD; rw [hB, u2]

theorem quot_up (s t : Bool) (x y : Int) (hx : In2 x) (hy : In2 y) (w : World) :
    Calls Try.prog 68 #[.agg #[.bool s, .int .u64 (hiZ x), .int .u64 (loZ x)], .agg #[.bool t, .int .u64 (hiZ y), .int .u64 (loZ y)]] w fun e w' =>
      e = gotR (quoN (sz s x) (sz t y)) (quoD (sz s x) (sz t y)) (quoB (sz s x) (sz t y)) ∧ Up w w' := by
  by_cases h0 : y = 0
  · subst h0
    have hz : sz t 0 = 0 := by cases t <;> rfl
    rw [hz, (quo_zero _).1, (quo_zero _).2.1, (quo_zero _).2.2]
    exact quot_zero s t x w
  · exact quot_pos s t x y hx hy h0 w

theorem abs_prod {a b : Int} (ha : In a) (hb : In b) : 0 ≤ (a.natAbs : Int) * (b.natAbs : Int) ∧ (a.natAbs : Int) * (b.natAbs : Int) ≤ 85070591730234615865843651857942052864 := by
  obtain ⟨a1, a2⟩ := ha; obtain ⟨b1, b2⟩ := hb
  refine ⟨Int.mul_nonneg (by omega) (by omega), ?_⟩
  have h : (a.natAbs : Int) * (b.natAbs : Int) ≤ 9223372036854775808 * 9223372036854775808 := Int.mul_le_mul (by omega) (by omega) (by omega) (by omega)
  exact h
/-- A product of two int64 numbers as a sign and a magnitude. -/
theorem prod_v (a b : Int) (ha : In a) (hb : In b) : ∃ (s : Bool) (x : Int), In2 x ∧ x ≤ 85070591730234615865843651857942052864 ∧ sz s x = a * b ∧
    ∀ w, Calls Try.prog 70 #[.int .i64 a, .int .i64 b] w fun e w' => e = .returned (.agg #[.bool s, .int .u64 (hiZ x), .int .u64 (loZ x)]) ∧ Up w w' := by
  obtain ⟨h1, h2⟩ := abs_prod ha hb
  exact ⟨_, _, ⟨h1, by omega⟩, h2, sz_prod a b, fun w => prod_up a b ha hb w⟩

theorem in_1 : In 1 := ⟨by decide, by decide⟩

/-- The reference's way to the quotient of two numbers. -/
theorem red_v (s : Bool) (x y p q : Int) (hx : In2 x) (hy : In2 y) (h0 : y ≠ 0) (hq : q ≠ 0) (e : sz s x * q = p * y) (w : World) :
    Calls Try.prog 50 #[.bool s, .agg #[.int .u64 (hiZ x), .int .u64 (loZ x)], .agg #[.int .u64 (hiZ y), .int .u64 (loZ y)]] w fun e w' => e = gotR (quoN p q) (quoD p q) (quoB p q) ∧ Up w w' := by
  have h := red_up s x y hx hy h0 w
  obtain ⟨e1, e2, e3⟩ := quo_same h0 hq e
  rw [e1, e2, e3] at h
  exact h

theorem hl_abs {a : Int} (ha : In a) : hiZ (a.natAbs : Int) = 0 ∧ loZ (a.natAbs : Int) = (a.natAbs : Int) := by
  obtain ⟨a1, a2⟩ := ha; unfold hiZ loZ; omega
theorem in2_abs {a : Int} (ha : In a) : In2 (a.natAbs : Int) := by
  obtain ⟨a1, a2⟩ := ha; exact ⟨by omega, by omega⟩
/-- The sign of the reference's Make. -/
theorem make_ways (n d : Int) (_ : d ≠ 0) :
    (decide (n < 0) = false ∧ decide (d < 0) = false ∧ sz false (n.natAbs : Int) * d = n * (d.natAbs : Int)) ∨
    (decide (n < 0) = true ∧ decide (d < 0) = true ∧ sz false (n.natAbs : Int) * d = n * (d.natAbs : Int)) ∨
    (decide (n < 0) = true ∧ decide (d < 0) = false ∧ (n != 0) = true ∧ sz true (n.natAbs : Int) * d = n * (d.natAbs : Int)) ∨
    (decide (n < 0) = false ∧ decide (d < 0) = true ∧ (n != 0) = true ∧ sz true (n.natAbs : Int) * d = n * (d.natAbs : Int)) ∨
    (decide (n < 0) = false ∧ decide (d < 0) = true ∧ (n != 0) = false ∧ sz false (n.natAbs : Int) * d = n * (d.natAbs : Int)) := by
  by_cases h1 : n < 0 <;> by_cases h2 : d < 0
  · refine Or.inr (Or.inl ⟨decide_eq_true h1, decide_eq_true h2, ?_⟩)
    rw [sz_false, show (n.natAbs : Int) = -n by omega, show (d.natAbs : Int) = -d by omega, Int.neg_mul, Int.mul_neg]
  · refine Or.inr (Or.inr (Or.inl ⟨decide_eq_true h1, decide_eq_false h2, bne_iff_ne.2 (by omega), ?_⟩))
    rw [sz_true, show -(n.natAbs : Int) = n by omega, show (d.natAbs : Int) = d by omega]
  · by_cases h3 : n = 0
    · refine Or.inr (Or.inr (Or.inr (Or.inr ⟨decide_eq_false h1, decide_eq_true h2, bne_eq_false_iff_eq.2 h3, ?_⟩)))
      rw [sz_false, h3]; simp
    · refine Or.inr (Or.inr (Or.inr (Or.inl ⟨decide_eq_false h1, decide_eq_true h2, bne_iff_ne.2 h3, ?_⟩)))
      rw [sz_true, show (n.natAbs : Int) = n by omega, show (d.natAbs : Int) = -d by omega, Int.neg_mul, Int.mul_neg]
  · refine Or.inl ⟨decide_eq_false h1, decide_eq_false h2, ?_⟩
    rw [sz_false, show (n.natAbs : Int) = n by omega, show (d.natAbs : Int) = d by omega]

end Go.Proofs.Ytgafcpklocccdaa
