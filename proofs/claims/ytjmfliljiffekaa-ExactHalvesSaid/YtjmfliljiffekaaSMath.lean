/- Plain facts on binary digits: the number of digits, the zeros at the end, products and quotients with powers of two. No program is named here. -/
import Derived.Test.YtjmfliljiffekaaWMath
import Derived.Lib.BitFns
import Derived.Lib.TrailingZeros
namespace Go.Proofs.Ytjmfliljiffekaa

/-- The number of binary digits. -/
def blZ (v : Int) : Int := if v = 0 then 0 else ((Nat.log2 v.toNat + 1 : Nat) : Int)
theorem blZ_0 : blZ 0 = 0 := rfl
theorem blZ_uniq {v : Int} {k : Nat} (h0 : 2 ^ k ≤ v.toNat) (h1 : v.toNat < 2 ^ (k + 1)) : blZ v = (k : Int) + 1 := by
  have hp : 0 < 2 ^ k := Nat.pow_pos (by decide)
  have hv : v ≠ 0 := fun h => by rw [h] at h0; simp at h0
  have hn : v.toNat ≠ 0 := by omega
  unfold blZ
  rw [if_neg hv]
  have a := (Nat.log2_lt hn (k := k + 1)).2 h1
  have b : ¬ v.toNat.log2 < k := fun h => by have := (Nat.log2_lt hn).1 h; omega
  omega
theorem blZ_spec {v : Int} (h : 0 < v) : ∃ k : Nat, blZ v = (k : Int) + 1 ∧ 2 ^ k ≤ v.toNat ∧ v.toNat < 2 ^ (k + 1) := by
  have hn : v.toNat ≠ 0 := by omega
  refine ⟨v.toNat.log2, ?_, Nat.log2_self_le hn, Nat.lt_log2_self⟩
  unfold blZ; rw [if_neg (by omega)]; omega
theorem blZ_nonneg (v : Int) : 0 ≤ blZ v := by unfold blZ; split <;> omega
theorem blZ_le {v : Int} (h : In2 v) : blZ v ≤ 128 := by
  by_cases h0 : v = 0
  · rw [h0, blZ_0]; decide
  · obtain ⟨k, e, k0, k1⟩ := blZ_spec (v := v) (by unfold In2 at h; omega)
    rw [e]
    have : k < 128 := by
      apply Nat.lt_of_not_le; intro hk
      have := Nat.pow_le_pow_right (show 0 < 2 by decide) hk
      have e128 : (2 : Nat) ^ 128 = 340282366920938463463374607431768211456 := by decide
      unfold In2 at h; omega
    omega
/-- The number of binary zeros at the end. -/
def zeZ (v : Int) : Int := if v = 0 then 0 else (Lib.ctz 128 v.toNat : Int)
theorem odd_uniq : ∀ {a b m n : Nat}, 2 ^ a * (2 * m + 1) = 2 ^ b * (2 * n + 1) → a = b
  | 0, 0, _, _, _ => rfl
  | 0, b + 1, m, n, h => by rw [Nat.pow_succ, Nat.mul_right_comm] at h; omega
  | a + 1, 0, m, n, h => by rw [Nat.pow_succ, Nat.mul_right_comm] at h; omega
  | a + 1, b + 1, m, n, h => by
    rw [Nat.pow_succ, Nat.pow_succ, Nat.mul_right_comm, Nat.mul_right_comm (2 ^ b)] at h
    rw [odd_uniq (Nat.eq_of_mul_eq_mul_right (by decide) h)]
theorem zeZ_uniq {v : Int} {k m : Nat} (hv : In2 v) (h : v.toNat = 2 ^ k * (2 * m + 1)) : zeZ v = k := by
  have hp : 0 < 2 ^ k := Nat.pow_pos (by decide)
  have h0 : v.toNat ≠ 0 := by rw [h]; exact Nat.mul_ne_zero (by omega) (by omega)
  unfold zeZ
  rw [if_neg (by omega)]
  obtain ⟨m', e, _⟩ := Lib.ctzFrom_spec 128 v.toNat (by omega) (by
    have e128 : (2 : Nat) ^ 128 = 340282366920938463463374607431768211456 := by decide
    unfold In2 at hv; omega)
  unfold Lib.ctz
  rw [if_neg h0]
  rw [odd_uniq (e.symm.trans h)]
theorem zeZ_spec {v : Int} (hv : In2 v) (h : v ≠ 0) : ∃ k m : Nat, zeZ v = k ∧ v.toNat = 2 ^ k * (2 * m + 1) ∧ k < 128 := by
  have h0 : v.toNat ≠ 0 := by unfold In2 at hv; omega
  obtain ⟨m, e, hk⟩ := Lib.ctzFrom_spec 128 v.toNat (by omega) (by
    have e128 : (2 : Nat) ^ 128 = 340282366920938463463374607431768211456 := by decide
    unfold In2 at hv; omega)
  refine ⟨_, m, ?_, e, hk⟩
  unfold zeZ Lib.ctz
  rw [if_neg h, if_neg h0]

theorem p64 : (2 : Nat) ^ 64 = 18446744073709551616 := by decide
theorem p128 : (2 : Nat) ^ 128 = 340282366920938463463374607431768211456 := by decide
theorem pow64 (k : Nat) : (2 : Nat) ^ (64 + k) = 2 ^ k * 18446744073709551616 := by rw [Nat.add_comm, Nat.pow_add, p64]
theorem val_nat {h l : Int} (hh : Word h) (hl : Word l) : (val h l).toNat = h.toNat * 18446744073709551616 + l.toNat := by
  obtain ⟨a1, a2⟩ := hh; obtain ⟨b1, b2⟩ := hl; unfold val; omega
theorem word_in2 {x : Int} (h : Word x) : In2 x := by obtain ⟨a1, a2⟩ := h; exact ⟨by omega, by omega⟩
theorem blZ_hi {h l : Int} (hh : Word h) (hl : Word l) (h0 : h ≠ 0) : blZ (val h l) = 64 + blZ h := by
  have g := hh
  obtain ⟨a1, a2⟩ := g
  obtain ⟨k, e, k0, k1⟩ := blZ_spec (v := h) (by omega)
  have ev := val_nat hh hl
  have hl' : l.toNat < 18446744073709551616 := by obtain ⟨b1, b2⟩ := hl; omega
  have e1 := pow64 k
  have e2 := pow64 (k + 1)
  have c0 : 2 ^ (64 + k) ≤ (val h l).toNat := by rw [ev, e1]; omega
  have c1 : (val h l).toNat < 2 ^ (64 + k + 1) := by rw [show 64 + k + 1 = 64 + (k + 1) by omega, ev, e2]; omega
  rw [blZ_uniq c0 c1, e]
  omega
theorem zeZ_lo {h l : Int} (hh : Word h) (hl : Word l) (l0 : l ≠ 0) : zeZ (val h l) = zeZ l := by
  obtain ⟨k, m, e, ek, _⟩ := zeZ_spec (word_in2 hl) l0
  have hl' : l.toNat < 2 ^ 64 := by rw [p64]; obtain ⟨b1, b2⟩ := hl; omega
  have hk : k < 64 := by
    apply Nat.lt_of_not_le; intro hk
    have h1 := Nat.pow_le_pow_right (show 0 < 2 by decide) hk
    have h2 : 2 ^ k ≤ 2 ^ k * (2 * m + 1) := Nat.le_mul_of_pos_right _ (by omega)
    rw [← ek] at h2
    exact absurd hl' (Nat.not_lt.2 (Nat.le_trans h1 h2))
  rw [e]
  have e64 : 18446744073709551616 = 2 ^ k * (2 * 2 ^ (63 - k)) := by
    rw [← p64, show (2 : Nat) * 2 ^ (63 - k) = 2 ^ (63 - k + 1) by rw [Nat.pow_succ, Nat.mul_comm], ← Nat.pow_add, show k + (63 - k + 1) = 64 by omega]
  have goal : (val h l).toNat = 2 ^ k * (2 * (h.toNat * 2 ^ (63 - k) + m) + 1) := by
    rw [val_nat hh hl, ek, e64]
    generalize 2 ^ k = A
    generalize 2 ^ (63 - k) = B
    generalize h.toNat = H
    rw [show H * (A * (2 * B)) = A * (2 * (H * B)) by ac_rfl, ← Nat.mul_add, Nat.mul_add 2, Nat.add_assoc]
  exact zeZ_uniq (val_in hh hl) goal
theorem zeZ_hi {h : Int} (hh : Word h) (h0 : h ≠ 0) : zeZ (val h 0) = 64 + zeZ h := by
  obtain ⟨k, m, e, ek, _⟩ := zeZ_spec (word_in2 hh) h0
  have goal : (val h 0).toNat = 2 ^ (64 + k) * (2 * m + 1) := by
    rw [val_nat hh word_0, ek, pow64, Nat.mul_right_comm, show (0 : Int).toNat = 0 from rfl, Nat.add_zero]
  rw [e, zeZ_uniq (val_in hh word_0) goal]
  omega
theorem zeZ_ctz {x : Int} (hx : Word x) (h : x ≠ 0) : zeZ x = (Lib.ctz 64 x.toNat : Int) := by
  obtain ⟨a1, a2⟩ := hx
  obtain ⟨m, e, hk⟩ := Lib.ctzFrom_spec 64 x.toNat (by omega) (by rw [p64]; omega)
  rw [zeZ_uniq (k := Lib.ctzFrom 64 x.toNat) (m := m) ⟨by omega, by omega⟩ e]
  unfold Lib.ctz
  rw [if_neg (by omega)]
theorem zeZ_bound {x : Int} (hx : In2 x) : 0 ≤ zeZ x ∧ zeZ x ≤ 127 := by
  by_cases h : x = 0
  · unfold zeZ; rw [if_pos h]; decide
  · obtain ⟨k, m, e, _, hk⟩ := zeZ_spec hx h
    rw [e]; omega

/-- Products with powers of two. -/
def leftB (v n : Int) : Bool := decide (0 ≤ n) && fits2 (v * 2 ^ n.toNat)
def leftV (v n : Int) : Int := if leftB v n = true then v * 2 ^ n.toNat else 0
/-- Quotients with powers of two. -/
def rightZ (v n : Int) : Int := if n < 0 then 0 else v / 2 ^ n.toNat

theorem toNat_pow (v : Int) (n : Nat) (hv : 0 ≤ v) : (v * 2 ^ n).toNat = v.toNat * 2 ^ n := by
  obtain ⟨m, rfl⟩ := Int.eq_ofNat_of_zero_le hv
  rw [show ((2 : Int) ^ n) = ((2 ^ n : Nat) : Int) by rw [Int.natCast_pow]; rfl, ← Int.natCast_mul, Int.toNat_natCast, Int.toNat_natCast]
theorem pow_nonneg2 (n : Nat) : (0 : Int) < 2 ^ n := by
  rw [show ((2 : Int) ^ n) = ((2 ^ n : Nat) : Int) by rw [Int.natCast_pow]; rfl]
  have : 0 < 2 ^ n := Nat.pow_pos (by decide)
  omega
theorem left_yes {v n : Int} (hv : 0 < v) (h0 : 0 ≤ n) (h : n ≤ 128 - blZ v) : In2 (v * 2 ^ n.toNat) := by
  obtain ⟨k, e, k0, k1⟩ := blZ_spec hv
  have hp := pow_nonneg2 n.toNat
  have hm := Int.mul_nonneg (Int.le_of_lt hv) (Int.le_of_lt hp)
  have h1 : v.toNat * 2 ^ n.toNat < 2 ^ (k + 1) * 2 ^ n.toNat := Nat.mul_lt_mul_of_pos_right k1 (Nat.pow_pos (by decide))
  rw [← Nat.pow_add] at h1
  have h2 : (2 : Nat) ^ (k + 1 + n.toNat) ≤ 2 ^ 128 := Nat.pow_le_pow_right (by decide) (by omega)
  rw [p128] at h2
  have h3 := toNat_pow v n.toNat (by omega)
  exact ⟨hm, by omega⟩
theorem left_no {v n : Int} (hv : 0 < v) (h0 : 0 ≤ n) (h : ¬ n ≤ 128 - blZ v) : ¬ In2 (v * 2 ^ n.toNat) := by
  obtain ⟨k, e, k0, k1⟩ := blZ_spec hv
  have h1 : 2 ^ k * 2 ^ n.toNat ≤ v.toNat * 2 ^ n.toNat := Nat.mul_le_mul_right _ k0
  rw [← Nat.pow_add] at h1
  have h2 : (2 : Nat) ^ 128 ≤ 2 ^ (k + n.toNat) := Nat.pow_le_pow_right (by decide) (by omega)
  rw [p128] at h2
  have h3 := toNat_pow v n.toNat (by omega)
  unfold In2; omega
theorem leftB_yes {v n : Int} (h0 : 0 ≤ n) (h : In2 (v * 2 ^ n.toNat)) : leftB v n = true ∧ leftV v n = v * 2 ^ n.toNat := by
  have : leftB v n = true := by unfold leftB; rw [decide_eq_true h0, fits2_yes h]; rfl
  exact ⟨this, by unfold leftV; rw [if_pos this]⟩
theorem leftB_no {v n : Int} (h : ¬ In2 (v * 2 ^ n.toNat)) : leftB v n = false ∧ leftV v n = 0 := by
  have : leftB v n = false := by unfold leftB; rw [fits2_no h, Bool.and_false]
  exact ⟨this, by unfold leftV; rw [this]; rfl⟩
theorem leftB_neg {v n : Int} (h : n < 0) : leftB v n = false ∧ leftV v n = 0 := by
  have : leftB v n = false := by unfold leftB; rw [decide_eq_false (by omega)]; rfl
  exact ⟨this, by unfold leftV; rw [this]; rfl⟩

end Go.Proofs.Ytjmfliljiffekaa
