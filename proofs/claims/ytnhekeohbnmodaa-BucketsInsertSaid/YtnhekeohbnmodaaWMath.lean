/- Plain facts on unsigned numbers of two words of 64 bits, and on the division of them. No program is named here. -/
namespace Go.Proofs.Ytnhekeohbnmodaa

/-- A word of 64 bits. -/
def Word (x : Int) : Prop := 0 ≤ x ∧ x < 18446744073709551616
/-- The number of two words. -/
def val (h l : Int) : Int := h * 18446744073709551616 + l
/-- The two words of a number. -/
def hiZ (v : Int) : Int := v / 18446744073709551616
def loZ (v : Int) : Int := v % 18446744073709551616
/-- A number of two words. -/
def In2 (v : Int) : Prop := 0 ≤ v ∧ v < 340282366920938463463374607431768211456
def fits2 (v : Int) : Bool := decide (0 ≤ v ∧ v < 340282366920938463463374607431768211456)
def fit2 (v : Int) : Int := if fits2 v = true then v else 0

theorem fits2_yes {v : Int} (h : In2 v) : fits2 v = true := by unfold fits2; exact decide_eq_true h
theorem fits2_no {v : Int} (h : ¬ In2 v) : fits2 v = false := by unfold fits2; exact decide_eq_false h
theorem fit2_yes {v : Int} (h : In2 v) : fit2 v = v := by unfold fit2; rw [if_pos (fits2_yes h)]
theorem fit2_no {v : Int} (h : ¬ In2 v) : fit2 v = 0 := by unfold fit2; rw [fits2_no h]; rfl
theorem fit2_in (v : Int) : In2 (fit2 v) := by
  by_cases h : In2 v
  · rw [fit2_yes h]; exact h
  · rw [fit2_no h]; exact ⟨by decide, by decide⟩
theorem hiZ_word {v : Int} (h : In2 v) : Word (hiZ v) := by obtain ⟨h1, h2⟩ := h; unfold hiZ; exact ⟨by omega, by omega⟩
theorem loZ_word (v : Int) : Word (loZ v) := by unfold loZ; exact ⟨by omega, by omega⟩
theorem hiZ_0 : hiZ 0 = 0 := by decide
theorem loZ_0 : loZ 0 = 0 := by decide
theorem val_in {h l : Int} (hh : Word h) (hl : Word l) : In2 (val h l) := by
  obtain ⟨h1, h2⟩ := hh; obtain ⟨h3, h4⟩ := hl; unfold val; exact ⟨by omega, by omega⟩
theorem hiZ_val {h l : Int} (hl : Word l) : hiZ (val h l) = h := by obtain ⟨h3, h4⟩ := hl; unfold hiZ val; omega
theorem loZ_val {h l : Int} (hl : Word l) : loZ (val h l) = l := by obtain ⟨h3, h4⟩ := hl; unfold loZ val; omega
theorem val_hilo (v : Int) : val (hiZ v) (loZ v) = v := by unfold val hiZ loZ; omega
theorem val_inj {a b c d : Int} (hb : Word b) (hd : Word d) (h : val a b = val c d) : a = c ∧ b = d := by
  obtain ⟨h1, h2⟩ := hb; obtain ⟨h3, h4⟩ := hd; unfold val at h; omega
theorem hilo_of {v h l : Int} (hl : Word l) (e : v = val h l) : hiZ v = h ∧ loZ v = l := by
  rw [e]; exact ⟨hiZ_val hl, loZ_val hl⟩
theorem word_0 : Word 0 := ⟨by decide, by decide⟩
theorem word_1 : Word 1 := ⟨by decide, by decide⟩
theorem word_10 : Word 10 := ⟨by decide, by decide⟩
theorem word_mod (x : Int) : Word (x % 18446744073709551616) := ⟨by omega, by omega⟩

/-! ### The next half of a quotient -/
/-- The next half of a quotient by y = y1 * 2^32 + y0, of u * 2^32 + v. -/
def qh (u v y : Int) : Int := (u * 4294967296 + v) / y

theorem qh_lt {u v y : Int} (hu0 : 0 ≤ u) (hu : u < y) (hv0 : 0 ≤ v) (hv : v < 4294967296) : 0 ≤ qh u v y ∧ qh u v y < 4294967296 := by
  unfold qh
  refine ⟨Int.ediv_nonneg (by omega) (by omega), ?_⟩
  exact Int.ediv_lt_of_lt_mul (by omega) (by omega)

theorem qh_le {u v y1 y0 : Int} (hy : 0 < y1) (h0 : 0 ≤ y0) (hu0 : 0 ≤ u) (hv0 : 0 ≤ v) (hv : v < 4294967296) : qh u v (y1 * 4294967296 + y0) ≤ u / y1 := by
  unfold qh
  have e := Int.mul_ediv_add_emod u y1
  have m1 := Int.emod_nonneg u (show y1 ≠ 0 by omega)
  have m2 := Int.emod_lt_of_pos u hy
  apply Int.le_of_lt_add_one
  apply Int.ediv_lt_of_lt_mul (by omega)
  have hq : 0 ≤ u / y1 := Int.ediv_nonneg hu0 (by omega)
  generalize u / y1 = q at *
  have h1 : (q + 1) * (y1 * 4294967296 + y0) = (y1 * q + y1) * 4294967296 + (q + 1) * y0 := by
    rw [Int.mul_add, ← Int.mul_assoc, Int.add_mul q 1 y1, Int.one_mul, Int.mul_comm q y1]
  have h2 : 0 ≤ (q + 1) * y0 := Int.mul_nonneg (by omega) h0
  rw [h1]
  generalize (q + 1) * y0 = z at *
  generalize y1 * q = t at *
  omega

/-- The guess is too great: one less is still enough. -/
theorem qh_down {u v y1 y0 q r : Int} (_ : 0 < y1) (_ : 0 ≤ y0) (hu0 : 0 ≤ u) (hu : u < y1 * 4294967296 + y0) (hv0 : 0 ≤ v) (hv : v < 4294967296) (e : u = q * y1 + r)
    (hle : qh u v (y1 * 4294967296 + y0) ≤ q) (h : 4294967296 ≤ q ∨ r * 4294967296 + v < q * y0) : qh u v (y1 * 4294967296 + y0) ≤ q - 1 := by
  rcases h with h | h
  · have := (qh_lt hu0 hu hv0 hv).2; omega
  · have : qh u v (y1 * 4294967296 + y0) < q := by
      unfold qh
      apply Int.ediv_lt_of_lt_mul (by omega)
      have h1 : q * (y1 * 4294967296 + y0) = q * y1 * 4294967296 + q * y0 := by rw [Int.mul_add, ← Int.mul_assoc]
      rw [h1]
      generalize q * y1 = a at *
      generalize q * y0 = b at *
      omega
    omega
/-- The guess is not too great. -/
theorem qh_is {u v y1 y0 q r : Int} (hy : 0 < y1) (h0 : 0 ≤ y0) (e : u = q * y1 + r)
    (hle : qh u v (y1 * 4294967296 + y0) ≤ q) (h : q * y0 ≤ r * 4294967296 + v) : qh u v (y1 * 4294967296 + y0) = q := by
  have : q ≤ qh u v (y1 * 4294967296 + y0) := by
    unfold qh
    rw [Int.le_ediv_iff_mul_le (by omega)]
    have h1 : q * (y1 * 4294967296 + y0) = q * y1 * 4294967296 + q * y0 := by rw [Int.mul_add, ← Int.mul_assoc]
    rw [h1]
    generalize q * y1 = a at *
    generalize q * y0 = b at *
    omega
  omega
/-- The rest is so great that the guess is not too great. -/
theorem qh_break {u v y1 y0 q r : Int} (hy : 0 < y1) (h0 : 0 ≤ y0) (h1 : y0 < 4294967296) (hu : u < y1 * 4294967296 + y0) (hv0 : 0 ≤ v) (e : u = q * y1 + r) (hq : 0 ≤ q)
    (hle : qh u v (y1 * 4294967296 + y0) ≤ q) (h : 4294967296 ≤ r) : qh u v (y1 * 4294967296 + y0) = q := by
  apply qh_is hy h0 e hle
  by_cases hb : q < 4294967296
  · have : q * y0 ≤ 4294967296 * 4294967296 := Int.mul_le_mul (by omega) (by omega) h0 (by omega)
    omega
  · exfalso
    have : 4294967296 * y1 ≤ q * y1 := Int.mul_le_mul_of_nonneg_right (by omega) (by omega)
    generalize q * y1 = a at *
    omega

/-- What is left after a half. -/
def rh (u v y : Int) : Int := (u * 4294967296 + v) % y
theorem rh_bound {u v y : Int} (hy : 0 < y) : 0 ≤ rh u v y ∧ rh u v y < y := ⟨Int.emod_nonneg _ (by omega), Int.emod_lt_of_pos _ hy⟩
theorem rh_eq (u v y : Int) : rh u v y = u * 4294967296 + v - qh u v y * y := by
  unfold rh qh
  have := Int.mul_ediv_add_emod (u * 4294967296 + v) y
  rw [Int.mul_comm y] at this
  omega

/-- Two halves make the whole: the quotient and the rest of the shifted numbers, and of the numbers. -/
theorem halves {hi lo y k u32 v1 v0 : Int} (hk : 0 < k) (hy : 0 < y) (e : (hi * 18446744073709551616 + lo) * k = (u32 * 4294967296 + v1) * 4294967296 + v0) :
    qh u32 v1 (y * k) * 4294967296 + qh (rh u32 v1 (y * k)) v0 (y * k) = (hi * 18446744073709551616 + lo) / y ∧
    rh (rh u32 v1 (y * k)) v0 (y * k) / k = (hi * 18446744073709551616 + lo) % y := by
  have hyk : 0 < y * k := Int.mul_pos hy hk
  generalize hi * 18446744073709551616 + lo = u at *
  have e1 := rh_eq u32 v1 (y * k)
  have e2 := rh_eq (rh u32 v1 (y * k)) v0 (y * k)
  have b := rh_bound (u := rh u32 v1 (y * k)) (v := v0) hyk
  generalize rh (rh u32 v1 (y * k)) v0 (y * k) = R at *
  generalize qh (rh u32 v1 (y * k)) v0 (y * k) = q0 at *
  generalize rh u32 v1 (y * k) = r1 at *
  generalize qh u32 v1 (y * k) = q1 at *
  have e3 : u * k = (q1 * 4294967296 + q0) * (y * k) + R := by
    rw [Int.add_mul, Int.mul_right_comm q1]
    generalize q1 * (y * k) = a at *
    generalize q0 * (y * k) = c at *
    omega
  generalize q1 * 4294967296 + q0 = Q at *
  have e4 : R = (u - Q * y) * k := by
    rw [Int.sub_mul, Int.mul_assoc]; omega
  have e5 : 0 ≤ u - Q * y := by
    by_cases h : 0 ≤ u - Q * y
    · exact h
    · have : (u - Q * y) * k < 0 := Int.mul_neg_of_neg_of_pos (by omega) hk
      omega
  have e6 : u - Q * y < y := by
    have h : (u - Q * y) * k < y * k := by omega
    exact Int.lt_of_mul_lt_mul_right h (by omega)
  have e7 : u = (u - Q * y) + y * Q := by rw [Int.mul_comm y]; omega
  have e8 : u / y = Q := by
    rw [e7, Int.add_mul_ediv_left _ _ (by omega), Int.ediv_eq_zero_of_lt e5 e6]; omega
  constructor
  · exact e8.symm
  · rw [e4, Int.mul_ediv_cancel _ (by omega)]
    have := Int.mul_ediv_add_emod u y
    rw [e8, Int.mul_comm y] at this
    omega

end Go.Proofs.Ytnhekeohbnmodaa
