/- Texts of these claims, one after the other. -/
import Derived.Test.YtafkoddgefcpnaaZWMathq1
namespace Go.Proofs.Ytafkoddgefcpnaa

/-! ### The next half of a quotient -/
/-- The next half of a quotient by y = y1 * 2^32 + y0, of u * 2^32 + v. -/
def qh (u v y : Int) : Int := (u * 4294967296 + v) / y

theorem qh_lt {u v y : Int} (hu0 : 0 ≤ u) (hu : u < y) (hv0 : 0 ≤ v) (hv : v < 4294967296) : 0 ≤ qh u v y ∧ qh u v y < 4294967296 := by
  unfold qh
  refine ⟨Int.ediv_nonneg (by omega) (by omega), ?_⟩
  exact Int.ediv_lt_of_lt_mul (by omega) (by omega)

theorem qh_le {u v y1 y0 : Int} (hy : 0 < y1) (h0 : 0 ≤ y0) (hu0 : 0 ≤ u) (hv0 : 0 ≤ v) (hv : v < 4294967296) : qh u v (y1 * 4294967296 + y0) ≤ u / y1 := by
  unfold qh
  have e := Int.mul_ediv_add_emod u y1
  have m1 := Int.emod_nonneg u (show y1 ≠ 0 by omega)
  have m2 := Int.emod_lt_of_pos u hy
  apply Int.le_of_lt_add_one
  apply Int.ediv_lt_of_lt_mul (by omega)
  have hq : 0 ≤ u / y1 := Int.ediv_nonneg hu0 (by omega)
  generalize u / y1 = q at *
  have h1 : (q + 1) * (y1 * 4294967296 + y0) = (y1 * q + y1) * 4294967296 + (q + 1) * y0 := by
    rw [Int.mul_add, ← Int.mul_assoc, Int.add_mul q 1 y1, Int.one_mul, Int.mul_comm q y1]
  have h2 : 0 ≤ (q + 1) * y0 := Int.mul_nonneg (by omega) h0
  rw [h1]
  generalize (q + 1) * y0 = z at *
  generalize y1 * q = t at *
  omega

/-- The guess is too great: one less is still enough. -/
theorem qh_down {u v y1 y0 q r : Int} (_ : 0 < y1) (_ : 0 ≤ y0) (hu0 : 0 ≤ u) (hu : u < y1 * 4294967296 + y0) (hv0 : 0 ≤ v) (hv : v < 4294967296) (e : u = q * y1 + r)
    (hle : qh u v (y1 * 4294967296 + y0) ≤ q) (h : 4294967296 ≤ q ∨ r * 4294967296 + v < q * y0) : qh u v (y1 * 4294967296 + y0) ≤ q - 1 := by
  rcases h with h | h
  · have := (qh_lt hu0 hu hv0 hv).2; omega
  · have : qh u v (y1 * 4294967296 + y0) < q := by
      unfold qh
      apply Int.ediv_lt_of_lt_mul (by omega)
      have h1 : q * (y1 * 4294967296 + y0) = q * y1 * 4294967296 + q * y0 := by rw [Int.mul_add, ← Int.mul_assoc]
      rw [h1]
      generalize q * y1 = a at *
      generalize q * y0 = b at *
      omega
    omega
/-- The guess is not too great. -/
theorem qh_is {u v y1 y0 q r : Int} (hy : 0 < y1) (h0 : 0 ≤ y0) (e : u = q * y1 + r)
    (hle : qh u v (y1 * 4294967296 + y0) ≤ q) (h : q * y0 ≤ r * 4294967296 + v) : qh u v (y1 * 4294967296 + y0) = q := by
  have : q ≤ qh u v (y1 * 4294967296 + y0) := by
    unfold qh
    rw [Int.le_ediv_iff_mul_le (by omega)]
    have h1 : q * (y1 * 4294967296 + y0) = q * y1 * 4294967296 + q * y0 := by rw [Int.mul_add, ← Int.mul_assoc]
    rw [h1]
    generalize q * y1 = a at *
    generalize q * y0 = b at *
    omega
  omega
/-- The rest is so great that the guess is not too great. -/
theorem qh_break {u v y1 y0 q r : Int} (hy : 0 < y1) (h0 : 0 ≤ y0) (h1 : y0 < 4294967296) (hu : u < y1 * 4294967296 + y0) (hv0 : 0 ≤ v) (e : u = q * y1 + r) (hq : 0 ≤ q)
    (hle : qh u v (y1 * 4294967296 + y0) ≤ q) (h : 4294967296 ≤ r) : qh u v (y1 * 4294967296 + y0) = q := by
  apply qh_is hy h0 e hle
  by_cases hb : q < 4294967296
  · have : q * y0 ≤ 4294967296 * 4294967296 := Int.mul_le_mul (by omega) (by omega) h0 (by omega)
    omega
  · exfalso
    have : 4294967296 * y1 ≤ q * y1 := Int.mul_le_mul_of_nonneg_right (by omega) (by omega)
    generalize q * y1 = a at *
    omega

/-- What is left after a half. -/
def rh (u v y : Int) : Int := (u * 4294967296 + v) % y
theorem rh_bound {u v y : Int} (hy : 0 < y) : 0 ≤ rh u v y ∧ rh u v y < y := ⟨Int.emod_nonneg _ (by omega), Int.emod_lt_of_pos _ hy⟩
theorem rh_eq (u v y : Int) : rh u v y = u * 4294967296 + v - qh u v y * y := by
  unfold rh qh
  have := Int.mul_ediv_add_emod (u * 4294967296 + v) y
  rw [Int.mul_comm y] at this
  omega

/-- Two halves make the whole: the quotient and the rest of the shifted numbers, and of the numbers. -/
theorem halves {hi lo y k u32 v1 v0 : Int} (hk : 0 < k) (hy : 0 < y) (e : (hi * 18446744073709551616 + lo) * k = (u32 * 4294967296 + v1) * 4294967296 + v0) :
    qh u32 v1 (y * k) * 4294967296 + qh (rh u32 v1 (y * k)) v0 (y * k) = (hi * 18446744073709551616 + lo) / y ∧
    rh (rh u32 v1 (y * k)) v0 (y * k) / k = (hi * 18446744073709551616 + lo) % y := by
  have hyk : 0 < y * k := Int.mul_pos hy hk
  generalize hi * 18446744073709551616 + lo = u at *
  have e1 := rh_eq u32 v1 (y * k)
  have e2 := rh_eq (rh u32 v1 (y * k)) v0 (y * k)
  have b := rh_bound (u := rh u32 v1 (y * k)) (v := v0) hyk
  generalize rh (rh u32 v1 (y * k)) v0 (y * k) = R at *
  generalize qh (rh u32 v1 (y * k)) v0 (y * k) = q0 at *
  generalize rh u32 v1 (y * k) = r1 at *
  generalize qh u32 v1 (y * k) = q1 at *
  have e3 : u * k = (q1 * 4294967296 + q0) * (y * k) + R := by
    rw [Int.add_mul, Int.mul_right_comm q1]
    generalize q1 * (y * k) = a at *
    generalize q0 * (y * k) = c at *
    omega
  generalize q1 * 4294967296 + q0 = Q at *
  have e4 : R = (u - Q * y) * k := by
    rw [Int.sub_mul, Int.mul_assoc]; omega
  have e5 : 0 ≤ u - Q * y := by
    by_cases h : 0 ≤ u - Q * y
    · exact h
    · have : (u - Q * y) * k < 0 := Int.mul_neg_of_neg_of_pos (by omega) hk
      omega
  have e6 : u - Q * y < y := by
    have h : (u - Q * y) * k < y * k := by omega
    exact Int.lt_of_mul_lt_mul_right h (by omega)
  have e7 : u = (u - Q * y) + y * Q := by rw [Int.mul_comm y]; omega
  have e8 : u / y = Q := by
    rw [e7, Int.add_mul_ediv_left _ _ (by omega), Int.ediv_eq_zero_of_lt e5 e6]; omega
  constructor
  · exact e8.symm
  · rw [e4, Int.mul_ediv_cancel _ (by omega)]
    have := Int.mul_ediv_add_emod u y
    rw [e8, Int.mul_comm y] at this
    omega

end Go.Proofs.Ytafkoddgefcpnaa

namespace Go.Proofs.Ytafkoddgefcpnaa

/-! ### Quotients -/
/-! ### The quotients rounded down and up, and the remainder -/
/-! ### Products -/
/-! ### The greatest common divisor -/
theorem gcdZ_dvd (x y : Int) (hx : 0 ≤ x) (hy : 0 ≤ y) : gcdZ x y ∣ x ∧ gcdZ x y ∣ y := by
  obtain ⟨m, rfl⟩ := Int.eq_ofNat_of_zero_le hx
  obtain ⟨n, rfl⟩ := Int.eq_ofNat_of_zero_le hy
  unfold gcdZ
  rw [Int.toNat_natCast, Int.toNat_natCast]
  exact ⟨Int.natCast_dvd_natCast.2 (Nat.gcd_dvd_left m n), Int.natCast_dvd_natCast.2 (Nat.gcd_dvd_right m n)⟩
/-! ### Powers -/
/-! ### Square roots -/
/-! ### Binary digits -/
end Go.Proofs.Ytafkoddgefcpnaa

namespace Go.Proofs.Ytafkoddgefcpnaa

/-- The number of a sign and a magnitude. -/
def sz (s : Bool) (v : Int) : Int := if s = true then -v else v
theorem sz_true (v : Int) : sz true v = -v := rfl
theorem sz_false (v : Int) : sz false v = v := rfl
theorem sz_abs (s : Bool) (v : Int) : (sz s v).natAbs = v.natAbs := by cases s <;> simp [sz_true, sz_false]
theorem sz_of (a : Int) : sz (decide (a < 0)) (a.natAbs : Int) = a := by
  by_cases h : a < 0
  · rw [decide_eq_true h, sz_true]; omega
  · rw [decide_eq_false h, sz_false]; omega
theorem sz_mul (s t : Bool) (x y : Int) : sz (s != t) (x * y) = sz s x * sz t y := by
  cases s <;> cases t
  · rfl
  · show -(x * y) = x * -y; rw [Int.mul_neg]
  · show -(x * y) = -x * y; rw [Int.neg_mul]
  · show x * y = -x * -y; rw [Int.neg_mul_neg]
theorem sz_prod (a b : Int) : sz (decide (a < 0) != decide (b < 0)) ((a.natAbs : Int) * (b.natAbs : Int)) = a * b := by
  rw [sz_mul, sz_of, sz_of]

/-- The greatest common divisor of two numbers of any sign. -/
def quoG (p q : Int) : Int := (Nat.gcd p.natAbs q.natAbs : Nat)
/-- The parts of p / q in lowest terms. -/
def quoP (p q : Int) : Int := (if q < 0 then -p else p) / quoG p q
def quoQ (p q : Int) : Int := (q.natAbs : Int) / quoG p q
def quoB (p q : Int) : Bool := decide (q ≠ 0) && (fits (quoP p q) && fits (quoQ p q))
def quoN (p q : Int) : Int := if quoB p q = true then quoP p q else 0
def quoD (p q : Int) : Int := if quoB p q = true then quoQ p q else 0

theorem quoG_pos {p q : Int} (h : q ≠ 0) : 0 < quoG p q := by
  unfold quoG
  have := Nat.gcd_pos_of_pos_right p.natAbs (show 0 < q.natAbs by omega)
  omega
theorem quo_zero (p : Int) : quoB p 0 = false ∧ quoN p 0 = 0 ∧ quoD p 0 = 0 := by
  have : quoB p 0 = false := by simp [quoB]
  refine ⟨this, ?_, ?_⟩
  · unfold quoN; rw [this]; rfl
  · unfold quoD; rw [this]; rfl
/-- The numerator without its sign, and the denominator. -/
theorem quo_parts (s t : Bool) (x y : Int) (hx : 0 ≤ x) (hy : 0 < y) :
    quoP (sz s x) (sz t y) = sz (s != t) (x / gcdZ x y) ∧ quoQ (sz s x) (sz t y) = y / gcdZ x y := by
  have eg : quoG (sz s x) (sz t y) = gcdZ x y := by
    unfold quoG gcdZ
    rw [sz_abs, sz_abs]
    obtain ⟨m, rfl⟩ := Int.eq_ofNat_of_zero_le hx
    obtain ⟨n, rfl⟩ := Int.eq_ofNat_of_zero_le (Int.le_of_lt hy)
    rfl
  have hd : gcdZ x y ∣ x := (gcdZ_dvd x y hx (Int.le_of_lt hy)).1
  have ey : ((sz t y).natAbs : Int) = y := by rw [sz_abs]; omega
  refine ⟨?_, ?_⟩
  · unfold quoP
    rw [eg]
    cases s <;> cases t
    · rw [sz_false, sz_false, if_neg (by omega)]; rfl
    · rw [sz_false, sz_true, if_pos (by omega), Int.neg_ediv_of_dvd hd]; rfl
    · rw [sz_true, sz_false, if_neg (by omega), Int.neg_ediv_of_dvd hd]; rfl
    · rw [sz_true, sz_true, if_pos (by omega), Int.neg_neg]; rfl
  · unfold quoQ; rw [eg, ey]

theorem quo_no {p q : Int} (h : quoB p q = false) : quoN p q = 0 ∧ quoD p q = 0 := by
  unfold quoN quoD; rw [h]; exact ⟨rfl, rfl⟩
end Go.Proofs.Ytafkoddgefcpnaa
