/- Plain facts on integers that Go's int64 numbers and their checked results come to. No program is named here. -/
namespace Go.Proofs.Ytnhekeohbnmodaa

/-- An int64 number. -/
def In (x : Int) : Prop := -9223372036854775808 ≤ x ∧ x ≤ 9223372036854775807
def fits (x : Int) : Bool := decide (-9223372036854775808 ≤ x ∧ x ≤ 9223372036854775807)
def fit (x : Int) : Int := if fits x = true then x else 0

theorem fits_yes {x : Int} (h : In x) : fits x = true := by unfold fits; exact decide_eq_true h
theorem fits_no {x : Int} (h : ¬ In x) : fits x = false := by unfold fits; exact decide_eq_false h
theorem fit_yes {x : Int} (h : In x) : fit x = x := by unfold fit; rw [if_pos (fits_yes h)]
theorem fit_no {x : Int} (h : ¬ In x) : fit x = 0 := by unfold fit; rw [fits_no h]; rfl
theorem fit_in (x : Int) : In (fit x) := by
  by_cases h : In x
  · rw [fit_yes h]; exact h
  · rw [fit_no h]; exact ⟨by decide, by decide⟩

/-! ### Quotients -/
theorem tdiv_bound (a b : Int) : -(a.natAbs : Int) ≤ a.tdiv b ∧ a.tdiv b ≤ a.natAbs := by
  have h := Int.natAbs_tdiv_le_natAbs a b
  omega
theorem tmod_lt (a b : Int) (hb : b ≠ 0) : -(b.natAbs : Int) < a.tmod b ∧ a.tmod b < b.natAbs := by
  have h : (a.tmod b).natAbs < b.natAbs := by
    rw [Int.natAbs_tmod]; exact Nat.mod_lt _ (by omega)
  omega
theorem tmod_sign (a b : Int) : (0 ≤ a → 0 ≤ a.tmod b) ∧ (a ≤ 0 → a.tmod b ≤ 0) := by
  refine ⟨fun h => Int.tmod_nonneg b h, fun h => ?_⟩
  have h2 := Int.tmod_nonneg b (a := -a) (by omega)
  rw [Int.neg_tmod] at h2; omega
theorem tdiv_tmod (a b : Int) : a.tdiv b * b + a.tmod b = a := by
  have := Int.tdiv_mul_add_tmod a b; omega
/-- A quotient of two int64 numbers is one, but for the one case. -/
theorem tdiv_in (a b : Int) (ha : In a) (hb : b ≠ 0) (hc : ¬ (a = -9223372036854775808 ∧ b = -1)) : In (a.tdiv b) := by
  obtain ⟨h1, h2⟩ := ha
  have h := tdiv_bound a b
  by_cases he : b = -1
  · subst he
    have : a.tdiv (-1) = -a := by rw [Int.tdiv_neg, Int.tdiv_one]
    rw [this]; exact ⟨by omega, by omega⟩
  · by_cases hm : a = -9223372036854775808
    · -- the quotient 2^63 would need the divisor -1
      refine ⟨by omega, ?_⟩
      by_cases hb0 : 0 < b
      · have h0 : 0 ≤ (-a).tdiv b := Int.tdiv_nonneg (by omega) (by omega)
        rw [Int.neg_tdiv] at h0
        omega
      · have hb2 : b ≤ -2 := by omega
        have hle : (a.tdiv b).natAbs ≤ 4611686018427387904 := by
          rw [Int.natAbs_tdiv]
          have : a.natAbs = 9223372036854775808 := by subst hm; rfl
          rw [this]
          have : 2 ≤ b.natAbs := by omega
          have h3 : 9223372036854775808 / b.natAbs ≤ 9223372036854775808 / 2 := Nat.div_le_div_left this (by decide)
          omega
        omega
    · exact ⟨by omega, by omega⟩

/-! ### The quotients rounded down and up, and the remainder -/
/-- There is a quotient, and it is an int64 number. -/
def hasq (a b : Int) : Bool := decide (b ≠ 0 ∧ ¬ (a = -9223372036854775808 ∧ b = -1))
def flo (a b : Int) : Int := if a.tmod b ≠ 0 ∧ ¬ (a < 0 ↔ b < 0) then a.tdiv b - 1 else a.tdiv b
def cei (a b : Int) : Int := if a.tmod b ≠ 0 ∧ (a < 0 ↔ b < 0) then a.tdiv b + 1 else a.tdiv b
def rest (a b : Int) : Int := if a.tmod b ≠ 0 ∧ ¬ (a < 0 ↔ b < 0) then a.tmod b + b else a.tmod b
def flos (a b : Int) : Int := if hasq a b = true then flo a b else 0
def ceis (a b : Int) : Int := if hasq a b = true then cei a b else 0
def rests (a b : Int) : Int := if b = 0 then 0 else rest a b

theorem hasq_yes {a b : Int} (h : b ≠ 0 ∧ ¬ (a = -9223372036854775808 ∧ b = -1)) : hasq a b = true := by unfold hasq; exact decide_eq_true h
theorem hasq_no {a b : Int} (h : ¬ (b ≠ 0 ∧ ¬ (a = -9223372036854775808 ∧ b = -1))) : hasq a b = false := by unfold hasq; exact decide_eq_false h
theorem hasq_of {a b : Int} (h : hasq a b = true) : b ≠ 0 ∧ ¬ (a = -9223372036854775808 ∧ b = -1) := by unfold hasq at h; exact of_decide_eq_true h
theorem flos_no {a b : Int} (h : hasq a b = false) : flos a b = 0 := by unfold flos; rw [h]; rfl
theorem ceis_no {a b : Int} (h : hasq a b = false) : ceis a b = 0 := by unfold ceis; rw [h]; rfl
theorem flos_yes {a b : Int} (h : hasq a b = true) : flos a b = flo a b := by unfold flos; rw [if_pos h]
theorem ceis_yes {a b : Int} (h : hasq a b = true) : ceis a b = cei a b := by unfold ceis; rw [if_pos h]

/-- There is a remainder. -/
def hasr (b : Int) : Bool := decide (b ≠ 0)
theorem hasr_yes {b : Int} (h : b ≠ 0) : hasr b = true := by unfold hasr; exact decide_eq_true h
theorem hasr_no {b : Int} (h : b = 0) : hasr b = false := by unfold hasr; exact decide_eq_false (by omega)
theorem rests_yes {a b : Int} (h : b ≠ 0) : rests a b = rest a b := by unfold rests; rw [if_neg h]
theorem rests_no {a b : Int} (h : b = 0) : rests a b = 0 := by unfold rests; rw [if_pos h]
theorem tmod_neg_iff {a b : Int} (h : a.tmod b ≠ 0) : a.tmod b < 0 ↔ a < 0 := by
  have := tmod_sign a b
  omega
theorem tmod_in {a b : Int} (hb : In b) (h0 : b ≠ 0) : In (a.tmod b) := by
  obtain ⟨h1, h2⟩ := hb
  have := tmod_lt a b h0
  exact ⟨by omega, by omega⟩
theorem rest_in {a b : Int} (hb : In b) (h0 : b ≠ 0) : In (rest a b) := by
  obtain ⟨h1, h2⟩ := hb
  have := tmod_lt a b h0
  have := tmod_sign a b
  unfold rest
  split
  · exact ⟨by omega, by omega⟩
  · exact ⟨by omega, by omega⟩

/-- A quotient that is rounded is no smaller than the least int64 number, because it has a rest. -/
theorem tdiv_room (a b : Int) (ha : In a) (hb : In b) (h0 : b ≠ 0) (hr : a.tmod b ≠ 0) : -9223372036854775808 < a.tdiv b ∧ a.tdiv b < 9223372036854775807 := by
  obtain ⟨a1, a2⟩ := ha; obtain ⟨b1, b2⟩ := hb
  have h1 : b ≠ 1 := fun h => hr (by rw [h]; exact Int.tmod_one a)
  have h2 : b ≠ -1 := fun h => hr (by rw [h, Int.tmod_neg]; exact Int.tmod_one a)
  have h3 : 2 ≤ b.natAbs := by omega
  have h4 : (a.tdiv b).natAbs ≤ 4611686018427387904 := by
    rw [Int.natAbs_tdiv]
    show a.natAbs / b.natAbs ≤ _
    have h5 : a.natAbs ≤ 9223372036854775808 := by omega
    have h6 : a.natAbs / b.natAbs ≤ a.natAbs / 2 := Nat.div_le_div_left h3 (by decide)
    omega
  omega

theorem flo_rest (a b : Int) : flo a b * b + rest a b = a := by
  have h := tdiv_tmod a b
  unfold flo rest
  split
  · rw [Int.sub_mul, Int.one_mul]; omega
  · exact h
theorem rest_pos (a b : Int) (h : 0 < b) : 0 ≤ rest a b ∧ rest a b < b := by
  have h1 := tmod_lt a b (by omega)
  have h2 := tmod_sign a b
  unfold rest
  split <;> omega
theorem rest_neg (a b : Int) (h : b < 0) : b < rest a b ∧ rest a b ≤ 0 := by
  have h1 := tmod_lt a b (by omega)
  have h2 := tmod_sign a b
  unfold rest
  split <;> omega

/-! ### Products -/
/-- What stays of x in 64 bits with a sign. -/
def wr (x : Int) : Int := (x + 9223372036854775808) % 18446744073709551616 - 9223372036854775808
theorem wr_in (x : Int) : In (wr x) := by unfold wr; exact ⟨by omega, by omega⟩
theorem mul_back {a b : Int} (hb : In b) (h0 : b ≠ 0) (h : (wr (a * b)).tdiv b = a) : In (a * b) := by
  obtain ⟨b1, b2⟩ := hb
  have h1 := tdiv_tmod (wr (a * b)) b
  have h2 := tmod_lt (wr (a * b)) b h0
  rw [h] at h1
  generalize (wr (a * b)).tmod b = r at *
  generalize a * b = x at *
  unfold wr at h1
  exact ⟨by omega, by omega⟩
theorem mul_tdiv {a b : Int} (h0 : b ≠ 0) : (a * b).tdiv b = a := Int.mul_tdiv_cancel a h0
theorem wr_neg {a : Int} (ha : In a) (h : wr (a * -1) = -9223372036854775808) : a = -9223372036854775808 := by
  obtain ⟨h1, h2⟩ := ha
  unfold wr at h
  omega

/-! ### The greatest common divisor -/
def gcdZ (x y : Int) : Int := (Nat.gcd x.toNat y.toNat : Nat)
/-- What Gcd returns: 0 if a number is negative. -/
def gcds (x y : Int) : Int := if x < 0 ∨ y < 0 then 0 else gcdZ x y
theorem gcdZ_step (x y : Int) (hx : 0 ≤ x) (hy : 0 < y) : gcdZ y (x % y) = gcdZ x y := by
  obtain ⟨m, rfl⟩ := Int.eq_ofNat_of_zero_le hx
  obtain ⟨n, rfl⟩ := Int.eq_ofNat_of_zero_le (Int.le_of_lt hy)
  unfold gcdZ
  rw [show ((m : Int) % (n : Int)) = ((m % n : Nat) : Int) from rfl, Int.toNat_natCast, Int.toNat_natCast, Int.toNat_natCast, Nat.gcd_comm m n, Nat.gcd_rec n m, Nat.gcd_comm n (m % n)]
theorem gcdZ_zero (x : Int) (hx : 0 ≤ x) : gcdZ x 0 = x := by
  unfold gcdZ
  simp
  omega
theorem gcdZ_dvd (x y : Int) (hx : 0 ≤ x) (hy : 0 ≤ y) : gcdZ x y ∣ x ∧ gcdZ x y ∣ y := by
  obtain ⟨m, rfl⟩ := Int.eq_ofNat_of_zero_le hx
  obtain ⟨n, rfl⟩ := Int.eq_ofNat_of_zero_le hy
  unfold gcdZ
  rw [Int.toNat_natCast, Int.toNat_natCast]
  exact ⟨Int.natCast_dvd_natCast.2 (Nat.gcd_dvd_left m n), Int.natCast_dvd_natCast.2 (Nat.gcd_dvd_right m n)⟩
theorem gcds_neg {x y : Int} (h : x < 0 ∨ y < 0) : gcds x y = 0 := by unfold gcds; rw [if_pos h]
theorem gcds_pos {x y : Int} (hx : 0 ≤ x) (hy : 0 ≤ y) : gcds x y = gcdZ x y := by unfold gcds; rw [if_neg (by omega)]

/-! ### Powers -/
/-- What Pow returns: the power and true if n is not negative and it is an int64 number, else 0 and false. -/
def pows (a n : Int) : Int := if n < 0 then 0 else fit (a ^ n.toNat)
def powOk (a n : Int) : Bool := if n < 0 then false else fits (a ^ n.toNat)
theorem pows_neg {a n : Int} (h : n < 0) : pows a n = 0 ∧ powOk a n = false := by
  unfold pows powOk; rw [if_pos h, if_pos h]; exact ⟨rfl, rfl⟩
theorem pows_nat (a : Int) (n : Nat) : pows a (n : Int) = fit (a ^ n) ∧ powOk a (n : Int) = fits (a ^ n) := by
  unfold pows powOk
  rw [if_neg (by omega), if_neg (by omega), Int.toNat_natCast]; exact ⟨rfl, rfl⟩
theorem pow_two_steps (a : Int) (h : a * a * a = a) (n : Nat) (hn : 1 ≤ n) : a ^ (n + 2) = a ^ n := by
  obtain ⟨m, rfl⟩ : ∃ m, n = m + 1 := ⟨n - 1, by omega⟩
  rw [Int.pow_succ, Int.pow_succ, Int.pow_succ, Int.mul_assoc (a ^ m) a a, Int.mul_assoc (a ^ m) (a * a) a, h]
theorem pow_small (a : Int) (h1 : -1 ≤ a) (h2 : a ≤ 1) (n : Nat) : (n = 0 → a ^ n = 1) ∧ (n ≠ 0 → n % 2 = 0 → a ^ n = a * a) ∧ (n % 2 = 1 → a ^ n = a) := by
  have h3 : a * a * a = a := by
    rcases (by omega : a = -1 ∨ a = 0 ∨ a = 1) with h | h | h <;> subst h <;> decide
  induction n using Nat.strongRecOn with
  | ind n ih =>
    match n with
    | 0 => exact ⟨fun _ => Int.pow_zero a, fun h => absurd rfl h, fun h => by omega⟩
    | 1 => exact ⟨fun h => by omega, fun _ h => by omega, fun _ => by rw [Int.pow_succ, Int.pow_zero, Int.one_mul]⟩
    | 2 => exact ⟨fun h => by omega, fun _ _ => by rw [Int.pow_succ, Int.pow_succ, Int.pow_zero, Int.one_mul], fun h => by omega⟩
    | m + 3 =>
      have i := ih (m + 1) (by omega)
      have e := pow_two_steps a h3 (m + 1) (by omega)
      rw [show m + 3 = m + 1 + 2 by omega, e]
      exact ⟨fun h => by omega, fun _ h => i.2.1 (by omega) (by omega), fun h => i.2.2 (by omega)⟩
theorem pow_small_in (a : Int) (h1 : -1 ≤ a) (h2 : a ≤ 1) (n : Nat) : In (a ^ n) := by
  obtain ⟨p, q, r⟩ := pow_small a h1 h2 n
  have h4 : In (a * a) := by
    rcases (by omega : a = -1 ∨ a = 0 ∨ a = 1) with h | h | h <;> subst h <;> exact ⟨by decide, by decide⟩
  by_cases h0 : n = 0
  · rw [p h0]; exact ⟨by decide, by decide⟩
  · by_cases he : n % 2 = 0
    · rw [q h0 he]; exact h4
    · rw [r (by omega)]; exact ⟨by omega, by omega⟩
theorem mul_far {x a : Int} (ha : a < -1 ∨ 1 < a) (hx : ¬ In x) : ¬ In (x * a) := by
  have h1 : 9223372036854775808 ≤ x.natAbs := by unfold In at hx; omega
  have h2 : 2 ≤ a.natAbs := by omega
  have h3 : 9223372036854775808 * 2 ≤ x.natAbs * a.natAbs := Nat.mul_le_mul h1 h2
  have h4 := Int.natAbs_mul x a
  unfold In
  omega
theorem pow_far {a : Int} (ha : a < -1 ∨ 1 < a) {k n : Nat} (hkn : k ≤ n) (hk : ¬ In (a ^ k)) : ¬ In (a ^ n) := by
  induction n with
  | zero => rw [show (0 : Nat) = k by omega]; exact hk
  | succ n ih =>
    by_cases h : k = n + 1
    · rw [← h]; exact hk
    · rw [Int.pow_succ]; exact mul_far ha (ih (by omega))

/-! ### Square roots -/
def IsRoot (n r : Int) : Prop := 0 ≤ r ∧ r * r ≤ n ∧ n < (r + 1) * (r + 1)
theorem sq_mono {x y : Int} (h0 : 0 ≤ x) (h : x ≤ y) : x * x ≤ y * y := Int.mul_le_mul h h h0 (by omega)
theorem root_unique {n r s : Int} (hr : IsRoot n r) (hs : IsRoot n s) : r = s := by
  obtain ⟨r0, r1, r2⟩ := hr
  obtain ⟨s0, s1, s2⟩ := hs
  by_cases h : r < s
  · have := sq_mono (x := r + 1) (y := s) (by omega) (by omega); omega
  · by_cases h2 : s < r
    · have := sq_mono (x := s + 1) (y := r) (by omega) (by omega); omega
    · omega
open Classical in
/-- The integer square root of n; 0 if n is negative. -/
noncomputable def rootZ (n : Int) : Int := if h : ∃ r, IsRoot n r then choose h else 0
theorem rootZ_eq {n r : Int} (h : IsRoot n r) : rootZ n = r := by
  unfold rootZ
  rw [dif_pos ⟨r, h⟩]
  exact root_unique (Classical.choose_spec (p := IsRoot n) ⟨r, h⟩) h
theorem rootZ_neg {n : Int} (h : n < 0) : rootZ n = 0 := by
  unfold rootZ
  rw [dif_neg]
  rintro ⟨r, h0, h1, h2⟩
  have := Int.mul_nonneg h0 h0
  omega
theorem root_is_nat (n : Nat) : ∃ r : Int, IsRoot (n : Int) r := by
  induction n with
  | zero => exact ⟨0, by decide, by decide, by decide⟩
  | succ n ih =>
    obtain ⟨r, h0, h1, h2⟩ := ih
    by_cases h : (r + 1) * (r + 1) ≤ ((n + 1 : Nat) : Int)
    · refine ⟨r + 1, by omega, h, ?_⟩
      have e : (r + 1 + 1) * (r + 1 + 1) = (r + 1) * (r + 1) + 2 * r + 3 := by
        rw [Int.add_mul (r + 1) 1, Int.mul_add (r + 1) (r + 1) 1]; omega
      omega
    · exact ⟨r, h0, by omega, by omega⟩
theorem root_is (n : Int) (h : 0 ≤ n) : ∃ r : Int, IsRoot n r := by
  obtain ⟨m, rfl⟩ := Int.eq_ofNat_of_zero_le h
  exact root_is_nat m
/-- The bit that is tried next, and the width that is still open. -/
def Open2 (B D : Int) : Prop := ∃ k : Nat, k ≤ 32 ∧ D = ((2 ^ k : Nat) : Int) ∧ B = ((2 ^ k / 2 : Nat) : Int)
theorem open_start : Open2 2147483648 4294967296 := ⟨32, by omega, by decide, by decide⟩
theorem open_cases {B D : Int} (h : Open2 B D) : (B = 0 ∧ D = 1) ∨ (1 ≤ B ∧ B ≤ 2147483648 ∧ D = 2 * B ∧ Open2 (B / 2) B) := by
  obtain ⟨k, hk, rfl, rfl⟩ := h
  cases k with
  | zero => left; exact ⟨by decide, by decide⟩
  | succ j =>
    right
    have e : 2 ^ (j + 1) = 2 * 2 ^ j := by rw [Nat.pow_succ]; omega
    have e2 : 2 ^ (j + 1) / 2 = 2 ^ j := by omega
    have p1 : 0 < 2 ^ j := Nat.pow_pos (by decide)
    have p2 : 2 ^ j ≤ 2 ^ 31 := Nat.pow_le_pow_right (by decide) (by omega)
    rw [e2]
    refine ⟨by omega, by omega, by omega, j, by omega, rfl, by omega⟩
theorem root_yes {n t : Int} (ht : 1 ≤ t) : t ≤ n / t ↔ t * t ≤ n := Int.le_ediv_iff_mul_le (by omega)
theorem root_far {n t : Int} (hn : n ≤ 9223372036854775807) (ht : 3037000499 < t) : n < t * t := by
  have := sq_mono (x := 3037000500) (y := t) (by omega) (by omega)
  omega
theorem root_near {t : Int} (h0 : 0 ≤ t) (ht : t ≤ 3037000499) : 0 ≤ t * t ∧ t * t ≤ 9223372030926249001 := by
  have h1 := sq_mono (x := t) (y := 3037000499) h0 ht
  have h2 := Int.mul_nonneg h0 h0
  omega

/-! ### Binary digits -/
def bitsN : Nat → Nat → Nat
  | 0, _ => 0
  | f + 1, n => if n = 0 then 0 else bitsN f (n / 2) + 1
/-- The number of binary digits of n; 0 if n is negative. -/
def bitsZ (n : Int) : Int := (bitsN n.toNat n.toNat : Nat)
theorem bitsN_fuel (f g n : Nat) (hf : n ≤ f) (hg : n ≤ g) : bitsN f n = bitsN g n := by
  induction f generalizing g n with
  | zero => have : n = 0 := by omega
            subst this; cases g <;> simp [bitsN]
  | succ f ih =>
    cases g with
    | zero => have : n = 0 := by omega
              subst this; simp [bitsN]
    | succ g =>
      by_cases h : n = 0
      · simp [bitsN, h]
      · simp only [bitsN, if_neg h]
        rw [ih g (n / 2) (by omega) (by omega)]
theorem bitsZ_step (n : Int) (h : 0 < n) : bitsZ n = bitsZ (n / 2) + 1 := by
  obtain ⟨m, rfl⟩ := Int.eq_ofNat_of_zero_le (Int.le_of_lt h)
  have hm : 0 < m := by omega
  have e : ((m : Int) / 2).toNat = m / 2 := by omega
  unfold bitsZ
  rw [e, Int.toNat_natCast]
  cases m with
  | zero => omega
  | succ k =>
    rw [show bitsN (k + 1) (k + 1) = bitsN k ((k + 1) / 2) + 1 from by simp [bitsN]]
    rw [bitsN_fuel k ((k + 1) / 2) ((k + 1) / 2) (by omega) (by omega)]
    omega
theorem bitsZ_low (n : Int) (h : n ≤ 0) : bitsZ n = 0 := by
  unfold bitsZ
  rw [show n.toNat = 0 from by omega]; rfl
theorem bitsN_le (f n : Nat) : bitsN f n ≤ n := by
  induction f generalizing n with
  | zero => simp [bitsN]
  | succ f ih =>
    unfold bitsN
    split
    · omega
    · have := ih (n / 2); omega
theorem bitsZ_bound (n : Int) : 0 ≤ bitsZ n ∧ (0 ≤ n → bitsZ n ≤ n) ∧ (n < 0 → bitsZ n = 0) := by
  unfold bitsZ
  have := bitsN_le n.toNat n.toNat
  omega
theorem bitsZ_8 : bitsZ 8 = 4 := by decide

end Go.Proofs.Ytnhekeohbnmodaa
