/- Plain facts on numbers of four words. No program is named here. -/
import Derived.Test.YtchikndofpkjmaaZWMathq3
namespace Go.Proofs.Ytchikndofpkjmaa

/-- The number of four words, the least first. -/
def W4 (a b c d : Int) : Int := a + b * 18446744073709551616 + c * 340282366920938463463374607431768211456 + d * 6277101735386680763835789423207666416102355444464034512896
/-- The words of a number. -/
def g0 (v : Int) : Int := v % 18446744073709551616
def g1 (v : Int) : Int := v / 18446744073709551616 % 18446744073709551616
def g2 (v : Int) : Int := v / 340282366920938463463374607431768211456 % 18446744073709551616
def g3 (v : Int) : Int := v / 6277101735386680763835789423207666416102355444464034512896 % 18446744073709551616
def In4 (v : Int) : Prop := 0 ≤ v ∧ v < 115792089237316195423570985008687907853269984665640564039457584007913129639936
theorem g0_word (v : Int) : Word (g0 v) := by unfold g0 Word; omega
theorem g1_word (v : Int) : Word (g1 v) := by unfold g1 Word; omega
theorem g2_word (v : Int) : Word (g2 v) := by unfold g2 Word; omega
theorem g3_word (v : Int) : Word (g3 v) := by unfold g3 Word; omega
theorem W4_g {v : Int} (h : In4 v) : W4 (g0 v) (g1 v) (g2 v) (g3 v) = v := by
  unfold In4 at h; unfold W4 g0 g1 g2 g3; omega
theorem g_W4 {a b c d v : Int} (ha : Word a) (hb : Word b) (hc : Word c) (hd : Word d) (e : W4 a b c d = v) : a = g0 v ∧ b = g1 v ∧ c = g2 v ∧ d = g3 v := by
  unfold Word at *; unfold W4 at e; unfold g0 g1 g2 g3; omega
theorem mul_in4 {x y : Int} (hx : In2 x) (hy : In2 y) : In4 (x * y) := by
  obtain ⟨x0, x1⟩ := hx; obtain ⟨y0, y1⟩ := hy
  refine ⟨Int.mul_nonneg x0 y0, ?_⟩
  have h1 : x * y ≤ 340282366920938463463374607431768211455 * y := Int.mul_le_mul_of_nonneg_right (by omega) y0
  omega
/-- One step of a product by words: no overflow. -/
theorem step_in {x y : Int} (hx : Word x) (hy : Word y) : 0 ≤ x * y ∧ x * y ≤ 340282366920938463426481119284349108225 := by
  obtain ⟨x0, x1⟩ := hx; obtain ⟨y0, y1⟩ := hy
  refine ⟨Int.mul_nonneg x0 y0, ?_⟩
  have h1 : x * y ≤ 18446744073709551615 * y := Int.mul_le_mul_of_nonneg_right (by omega) y0
  omega
theorem step_fits {x y p c : Int} (hx : Word x) (hy : Word y) (hp : Word p) (hc : Word c) : In2 (x * y) ∧ In2 (x * y + p) ∧ In2 (x * y + p + c) := by
  have h := step_in hx hy
  unfold Word at *; unfold In2; omega
theorem hi_lo_sum (t : Int) : loZ t + hiZ t * 18446744073709551616 = t := by unfold loZ hiZ; omega
/-- The product's steps. -/
theorem prod_rows {x0 x1 y0 y1 t00 t01 t10 t11 : Int} (e1 : t00 = x0 * y0 + 0 + 0) (e2 : t01 = x0 * y1 + 0 + hiZ t00) (e3 : t10 = x1 * y0 + loZ t01 + 0) (e4 : t11 = x1 * y1 + hiZ t01 + hiZ t10) :
    W4 (loZ t00) (loZ t10) (loZ t11) (hiZ t11) = val x1 x0 * val y1 y0 := by
  have s1 := hi_lo_sum t00
  have s2 := hi_lo_sum t01
  have s3 := hi_lo_sum t10
  have s4 := hi_lo_sum t11
  have ex : val x1 x0 * val y1 y0 = x0 * y0 + x0 * y1 * 18446744073709551616 + x1 * y0 * 18446744073709551616 + x1 * y1 * 340282366920938463463374607431768211456 := by
    unfold val
    have t1 : x1 * 18446744073709551616 * (y1 * 18446744073709551616) = x1 * y1 * 340282366920938463463374607431768211456 := by
      rw [show x1 * 18446744073709551616 * (y1 * 18446744073709551616) = x1 * y1 * (18446744073709551616 * 18446744073709551616) by ac_rfl]; rfl
    have t2 : x1 * 18446744073709551616 * y0 = x1 * y0 * 18446744073709551616 := by ac_rfl
    have t3 : x0 * (y1 * 18446744073709551616) = x0 * y1 * 18446744073709551616 := by ac_rfl
    rw [Int.add_mul, Int.mul_add, Int.mul_add, t1, t2, t3]; omega
  rw [ex]
  generalize x0 * y0 = a at *
  generalize x0 * y1 = b at *
  generalize x1 * y0 = c at *
  generalize x1 * y1 = d at *
  unfold W4
  generalize loZ t00 = l0 at *
  generalize loZ t10 = l1 at *
  generalize loZ t11 = l2 at *
  generalize loZ t01 = l3 at *
  generalize hiZ t00 = h0 at *
  generalize hiZ t10 = h1 at *
  generalize hiZ t11 = h2 at *
  generalize hiZ t01 = h3 at *
  omega
/-- The order of numbers of four words. -/
theorem W4_le {a0 a1 a2 a3 b0 b1 b2 b3 : Int} (p0 : Word a0) (p1 : Word a1) (p2 : Word a2) (_ : Word a3) (q0 : Word b0) (q1 : Word b1) (q2 : Word b2) (_ : Word b3) :
    (a3 ≠ b3 → decide (W4 a0 a1 a2 a3 ≤ W4 b0 b1 b2 b3) = decide (a3 < b3)) ∧ (a3 = b3 → a2 ≠ b2 → decide (W4 a0 a1 a2 a3 ≤ W4 b0 b1 b2 b3) = decide (a2 < b2)) ∧
    (a3 = b3 → a2 = b2 → a1 ≠ b1 → decide (W4 a0 a1 a2 a3 ≤ W4 b0 b1 b2 b3) = decide (a1 < b1)) ∧ (a3 = b3 → a2 = b2 → a1 = b1 → a0 ≠ b0 → decide (W4 a0 a1 a2 a3 ≤ W4 b0 b1 b2 b3) = decide (a0 < b0)) := by
  unfold Word at *
  refine ⟨fun h => ?_, fun h h' => ?_, fun h h' h'' => ?_, fun h h' h'' h''' => ?_⟩ <;> rw [decide_eq_decide] <;> unfold W4 <;> omega
theorem W4_eq {a0 a1 a2 a3 : Int} : decide (W4 a0 a1 a2 a3 ≤ W4 a0 a1 a2 a3) = true := decide_eq_true (Int.le_refl _)
end Go.Proofs.Ytchikndofpkjmaa
